import PyProof.Rows.All
import Wide.All
import OpenK.AllK
import Wide.FinOn
import Lean
import PyProof.EqAt
import PyProof.EqKinds
import PyProof.TupleCall
import PyProof.AttrMissHeap
import KE.KSortTup
import KE.KDictList
import KE.KNest
import KE.KNestM
import OpenK.KRaise
import KE.KIsAll
import KE.KMatchCls
import PyProof.ExcAttrAll.ValueError
import PyProof.Rows.Range3
import PyProof.ZipIter
import PyProof.Rows.FactsT2
import PyProof.Rows.ZipGen
import KE.KItemsList
import PyProof.TupleKey
import PyProof.DictFindH
import PyProof.EnumMake
import PyProof.EnumStmt
import KE.KLam
import Wide.Seal
import KE.KFind
import PySem.Challenge.RW_groupcall_k70_a_hand_is_made
set_option Elab.async false
set_option linter.all false
set_option compiler.extract_closed false
set_option bootstrap.genMatcherCode false
set_option maxRecDepth 100000
set_option maxHeartbeats 16000000
section
open Lean
set_option hygiene false
def aq0:Lean.Syntax:=Unhygienic.run `(tacticSeq|rfl)
def aq1:Lean.Syntax:=Unhygienic.run `(tacticSeq|decide)
def aq2:Lean.Syntax:=Unhygienic.run `(tacticSeq|first|show .inl rfl|show .inr rfl|assumption)
def aq3:Lean.Syntax:=Unhygienic.run `(tacticSeq|decide +kernel)
def aq4:Lean.Syntax:=Unhygienic.run `(tacticSeq|intro _;rfl)
end
open PySem renaming Addr→Yc,Value→Yd,wpAny_bind→Yf,Str→Yh,Shared→Yi,wpAny_pure→Yk,wpAny→Yl,model→Yn,FuncData→Yr,sizeLine→Yu,starEach→YC,Stmt→YI,Heap→YO,mainGlobals→YS,Program→YU,Expr→YY,World→YZ,eval→Y3,Obj→Y8,wpAny_mono→pk,codeAny→rl,Around→sq,backTo→tq,DictEntry→vc,Builtin→xb,compareOp→xk,wpAny_holding→xu,Paired→Aq,keywordEach→BD,sysModules→RW,codeAny_call_builtin→aaF,wpAny_newObj_type→abx,cLine→ab0,wpAny_Call_Name_kw→acb,mem_of_lookup→adg,pyNext→adi,backToKw→adj,sizeLine_eq→adm,Pos→adq,wpAny_truthy_bool→adW,wpAny_setState_of→aeo,intKind→aez,PyData→ae2,attributeBase→afd,wpAny_call_entry→afh,tupleKind→afi,bootBuiltins→afm,wpAny_call→afn,wpAny_pyIter_list→afG,plainId_quiet→afK,wpAny_callSpecial?_slot→afL,holding→afR,excClassObj→af6,Env→af7,wpAny_setField_rec→aga,wpAny_passesOwn→agb,wpAny_attempt→agg,Scope→agi,Tok→agl,getMethod→agm,wpAny_of_eq→agp,boot_len→ags,Result→agt,binaryOp→agv,argsOk→agy,wpAny_askSetting→agz,wpAny_setEntries_of→agC,tupleKind_room_in1→agM,entryFor→agS,wpAny_loadPart_at→agV,standAt→agX,storedH→agY,wpAny_setField→ag0,Sem→ag1,scanBound→ag3,NameKind→ag4,callWith→ag7,IsTupleKey→ahb,sliceBounds→ahe,wpAny_execs_nil→ahj,Meets→ahk,wpAny_updateSeq→ahm,call_meetsIn→ahp,assignEach→ahx,wpAny_loadPart→ahy,call_meets→ahz,isSubtype_type→ahA,wpAny_Call_method0_late→ahC,wpAny_pyIter_slot→ahI,wpAny_field→ahK,wpAny_isOneOf_itemiter→ahM,behindInMarks→ahQ,checkBuiltinCall→ahV,Keyword→ahW,pickOrder→ahX,plainObj_wpAny_Assign_Attribute→ah1,letOwnedTupleGo→ah3,codeAny_builtin→ah5,wpAny_typeNameOfWhole_itemiter→aia,evalArgs_none→aij,wpAny_isSubtype_exc→ail,recursionLimit→ain,getItem→aip,wpAny_tryCatch→aiq,wpAny_seqItems→air,SetTable→ais,setNext→ait,wpAny_fieldsOf→aiu,setField→aiv,table→aix,Within→aiz,swapsWith→aiB,pyIter→aiC,wpAny_standAt→aiJ,fits_of_scanBound→aiY,builtinsNs→aiZ,atKey→ai1,callerA→ai6,valueAt→ai7,KeyKind→ai8,merged→ajc,IsPart→ajd,Fin→ajg,getAttr?→ajk,wpAny_isInstance→ajl,ExcBaseFacts→ajp,Walks→ajH,wpAny_ite_split→ajI,subscripted→ajL,richCompare→ajM,BindsTo→ajX,wpAny_isTrue_Compare1→ajY,setAttr→ajZ,plainId→aj2,builtinLookup_eq_fast→aj3,wpAny_newTuple→aj7,entryOfKey→aka,bindArgs→akd,bindL→ake,bindC→akf,typeLookup→akg,closureFor→akh,wpAny_rule→akk,setEntries→akl,wpAny_pyIter_valiter→akn,wpAny_newList→aku,wpAny_raiseNew_none→akx,Arguments→akC,wpAny_typeOf→akF,seqItems?→akG,onTheHeap→akN,Drawn→akP,CmpOp→akQ,getAttr→akR,numAt→akS,foldedSetIterable→akW,wpAny_Call_method→ak0,slot_list_getitem→ak1,meets_dict_values→ak6,GenState→alf,wpAny_eqBool_int→alg,wpAny_execs_cons→ali,wpAny_lookBehind→alj,pastItsLine_dict→alk,wpAny_Dict_empty→aln,entryFor_of_tree→alq,relayAll→als,raiseNew→alu,callGetattribute→alx,isTrue→alH,wpAny_Name→alI,wpAny_specialOf→alM,wpAny_loadPart'→alN,typeOf→alO,codeAny_of_tree→alQ,typeLookup_type→alR,getAttrByItsOwn→alY,MeetsIn→al7,wpAny_ite_true→al8,newList→al9,entryFor_alias→amd,firstArgMember→ame,isSubtype_stop→amf,boundAndCalled→ami,refuseLoop_ref→amj,cellsFrom→amm,getAttrBy→amn,drawOrder→amo,intBits_le_64→amu,evalPart_none→amw,call_list_seq→amx,frameOf→amy,Model→amC,wants→amF,wpAny_nsSet1→amI,seqIndex_neg→amK,Slot→amL,setAddHashed→amN,setNextDrawn→amO,entryPlaceOf→amQ,wpAny_mkText→amS,unaryOp→am6,leaving→am7,operate→am8,collect→am9,ElemsOf→ana,splitId→anc,Spec→ani
open PySem.W renaming Frag→Ye,findIn→YR,kitOne→cw,methodCall_KW→KW,fnOf→aal,kia_one→aar,callWith_K→acD,emptyDict→adf,KasT→afa,instObj→afl,kas_rev→afw,keepIn→afQ,codeIn→agq,hideAll→agJ,tabObj→agW,hasDictIn→ahG,mroIn→ahR,plainGet→ahS,kla_obj→aib,hideAll_get→aie,plainGet_of→aif,looks_clsIn→aih,callWith_K0→aii,lookIn→aio,of_hideAll→aiA,methodObj→aiS,specialIn→aiT,set_plain→aiV,handedIn→ai9,kdl_call→ajn,kas_sort→ajo,takerIn→ajF,cellsFrom_some→ajJ,funFrames_hide→ajT,hideAll_none→akb,kas_descPart→akp,isFn→akA,plainOver→akV,kitx_list→akX,kitx_dict→akY,kas_tail3→ak8,kas_count→ak9,kas_place→ala,codeHdIn→alh,InitBack→alm,kdl_dict→alr,kas_desc→alw,makesIn→alF,OpenLaw→alG,takesIn→alJ,kas_asc→alU,kas_bin→alV,kat_nil→alW,typeIn→al2,tailIn→amh,CodeHd→aml,WalkO→amt,clsIn→amz,nsIn→amG
open PySem.Heap renaming get?_push_of_some→Yg,get?_push_size→Ys,lt_size→Yt,get?_update_other→gm,get?_update_self→xt,SameBut→aaq,size_push→afj,ExtBut→aiy,get?_none_of_le→akc,get?_update_ne→aky,FlyingW→akL,get?_push_at→ak2
open List renaming length_map→Yj,mem_singleton→Yo,getElem?_eq_some_iff→Yp,mem_cons→Yq,getElem?_eq_getElem→Yw,mem_cons_of_mem→Yx,mem_cons_self→Yy,length_append→Yz,size_toArray→YA,map_append→YD,mem_append_right→YE,not_mem_nil→YF,getElem?_map→YJ,map_cons→YL,mem_append→YV,mem_map→YX,mem_of_getElem?→Y0,append_nil→Y4,getD_eq_getElem?_getD→Y5,take_length→Y6,length_cons→cT,filter_append→gf,range→gp,getElem?_of_mem→jJ,length_filter_le→km,mem_append_left→pe,mem_map_of_mem→xj,nodup_cons→xp,filter_cons→xy,length_take→CA,mem_filter→aab,eq_nil_of_length_eq_zero→aaM,length_singleton→abS,map_map→adk,mem_range→adn,length_range→aeb,nodup_append→aec,append_assoc→aem,map_congr_left→aeA,length_nil→afo,toArray→afs,of_mem_zip→agc,find?_cons→agd,getElem?_eq_none→agf,getElem?_zip_eq_some→agk,lookup→agn,getElem_of_mem→agB,length_take_le→agD,any_cons→agG,mem_filterMap→agK,foldl_cons→agN,find?_eq_none→agO,getElem?_set_self→agQ,getElem?_set_ne→ag6,any_eq_true→aha,filterMap_cons→ahf,map_eq_nil_iff→ahi,pairwise_iff_getElem→ahn,length_eq_zero_iff→ahE,pairwise_lt_range→ahL,take_of_length_le→ahN,drop_of_length_le→ahO,length_drop→ahT,getElem_mem→ahU,findSome?_append→ah0,mem_erase_of_ne→ah8,filter_sublist→aik,findSome?_cons→aim,zip_cons_cons→aiG,getElem?_append_right→aiK,length_eraseIdx_of_lt→aiN,findSome?_eq_none_iff→aiR,any_eq_false→aiU,take_sublist→aiX,getElem?_append_left→ai0,mem_of_find?_eq_some→ai4,lookup_cons→ajf,ext_getElem→ajj,mem_reverse→ajr,map_id'→ajs,range_succ→ajG,map_id→ajR,find?_cons_of_pos→ajV,nodup_nil→aj0,getElem?_toArray→aj5,perm_cons_erase→akm,map_nil→akB,pairwise_cons→akI,contains_cons→akM,ext_getElem?→ak5,foldl_append→ak7,find?_append→alc,all_eq_true→alv,getElem_map→alA,map→alB,find?_some→alX,length_zip→al1,replicate→al3,take_succ→amg,zip_map'→amB,length→amZ,Perm→anm
open Nat renaming le_refl→Ym,ne_of_lt→YB,lt_of_lt_of_le→YT,zero_le→Y1,lt_irrefl→Y7,le_trans→oh,le_of_lt→tm,mod_two_eq_zero_or_one→xg,le_of_ble_eq_true→Rk,le_succ→aeO,add_right_cancel→afB,lt_succ_self→afS,succ_le_succ→afX,lt_of_le_of_lt→af8,ne_of_gt→agu,lt_succ_of_lt→agU,lt_or_ge→agZ,add_le_add_left→ahg,le_succ_of_le→ahJ,le_of_eq→ah2,testBit_and→ah6,not_lt_zero→ah9,and_le_left→aic,lt_trans→ajb,lt_succ_iff_lt_or_eq→ajh,succ_ne_self→aji,testBit_zero→ajt,testBit_succ→aju,testBit_lt_two_pow→ajO,lt_of_succ_lt_succ→ajS,pow_le_pow_right→aki,testBit_two_pow→akw,zero_add→akH,lt_trichotomy→ak3,zero_testBit→alo,succ_lt_succ→alz,not_lt→alS,zero_and→amU,mod_lt→anj
open PySem.Value renaming ref→Yv,type→xi,none→abl,builtin→agH,int→agI,bool→ag5,str→ajE,isInt_shape→akU,float→ald,isStrOf→ams,isInt→amW,bytes→amX
open Sum renaming inl→YG,inr→ai5
open Array renaming getElem?_eq_getElem→YH,getD_eq_getD_getElem?→YN,length_toList→mr,getElem?_toList→uc,getElem?_eq_none→ade,getElem_toList→ah7,perm_iff_toList_perm→aiQ,append_assoc→akz,toList→akD,append_empty→akO,toList_push→ak4,getD→ank
open Int renaming toNat_natCast→YK,emod_nonneg→adh,emod_lt_of_pos→adl,le_refl→aeZ,le_of_lt→ae9,toNat→agP,eq_ofNat_of_zero_le→ahD,one_mul→ahP,natCast_nonneg→aiE,fdiv_eq_ediv_of_nonneg→aiI,le_trans→akK,natCast_pow→al0,pow_pos→am4
open Option.some renaming inj→YM
open Bool renaming false_ne_true→YQ,eq_false_iff→aeu,false_and→agr,eq_iff_iff→agL,and_eq_true→ag9,false_eq_true→ahr,true_and→aiM,or_true→ajq,or_eq_false_iff→akj,false_or→akr,or_false→akt,and_false→al6,true_or→amJ
open PyProof.Rows renaming boot_isinstance→YW,IntsAre→xn,boot_list→aaK,boot_dict→afc,slot_tuple_getitem→af0,envOfC→agw,boot_sorted→agA,firstMet→agT,AllBare→ahd,boot_min→ahY,kws_cons→ahZ,callWith_kw→aid,callWith_type1→aiD,listUpdate_at→aiP,boot_tuple→ajD,subscriptTail_builtinR→ajN,boot_max→aj9,kws_nil→ako,subscriptTail→aks,firstMet_succ→akv,lt_int→alC,callWith_builtin1→alK,Subscript_→alL,entry_list_sort→alP,get?_update_seq→alT,slicePart_none→al5,slot_list_sort→ama,IsTup→amD,floordiv_int→amH,args_sorted1→amM,listItems_at→amP,intBits_le→amV,bitAnd_pp→am2,boot_bool→am5,boot_all→anf,boot_int→ang,boot_abs→anh,tuples'→anl
open PySem.Paired renaming length→Y2,snoc→am0
open PySem.Builtin renaming bitNot→Y9,bitAnd→abJ,bitOr→acZ
open False renaming elim→ir
open PySem.SetTable renaming below→nh,Probe→amb
open PySem.Shared renaming TypeIs→xf
open PySem.Str renaming ofString→xl
open PySem.NameKind renaming free→xw,cell→afe
open PySem.PassesOwn renaming never→BP
open PySem.Heap.SameBut renaming update→GV
open PySem.Builtin.Int renaming intBits→aa9
open PySem.Obj renaming mapSeq→abA,mapFields→ahc
open True renaming intro→ado
open PySem.Builtin.Dict_items renaming ownsTuple→adp,ownedTupleIsFree→akT,pairFromOwner→aly
open PySem.F renaming plainAttrs_dict→ads,plainAttrs_list→adv,excBase_ValueError→afg,slot_dict_get→afk,slot_dict_values→aft,attr_ValueError→agF,entry_dict_get→agR,type_dict_values→ahu,slot_list_append→ahv,type_list_append→ahw,args_dict_values_1→aiO,entry_dict_values→ai3,slot_list_extend→ajv,type_list_extend→ajw,args_dict_get_2→ajy,args_dict_get_3→ajz,plain_list_iadd→ajA,slot_list_clear→ajC,entry_min_loop→ajP,plain_min_loop→ajQ,type_dict_get→aj1,slot_set_iter→aj6,entry_bexc_ga→aj8,args_bexc_ga→akq,called_set→akJ
open PySem.Calls renaming callWith_builtin→aeW,evalArgs_plain→ag8,spliced_cons→aho,Name_function_global→aiH,spliced_nil→aiW
open PySem.SetTable.below renaming go→afJ
open Sum.inl renaming inj→af5
open PyProof.Rows.F renaming plain_set_update_loop→af9,entry_set_update_loop→ahs
open Option renaming map_some→age,none_or→ahB,isSome_iff_exists→aja,getD_none→aje,map_eq_some_iff→ajK,isSome_map→akZ,getD_some→alp,map_map→amc,none→am1,some→Ya,none→Yb
open List.cons renaming inj→agh
open PySem.Builtin.Slice renaming slicePlaces→agj,sliceAdjust→ahl,sliceApplied→aiL,slicePartIndex→al4,sliceFields→amE
open PySem.Builtin.Tuple renaming tupleExact→agx,tupleCompareSizes→alD,tupleItemsOf→amv
open PySem.Challenge renaming rw_groupcall_k70_a_hand_is_made→agE,pw_groupcall_k70_a_hand_is_made→ajx
open PySem.Builtin.Builtins renaming bindParams→ag2
open PySem.Builtin.Getset_descriptor renaming descrGetArgs→ahh,descrCheckInstance→ajU,descrNameAndClass→ajW
open PySem.Builtin.List renaming listTooLong→ahq,listSameRef→ajm,listUpdate→ajB,listLengthHint→amq,listExtendWith→amr,listItems→am3
open PySem.Code renaming quiet_builtin→aht,isFrame→akE,frames→amY
open PySem.Builtin.ObjectAttr renaming find→ahF,dataDescriptor?→alb,storeInOwnDict→ale,ownThenClass→alE,storeInDict→alZ,inOwnDict→amk,ownDict→amA,getOf→amR,Found→amT
open PySem.SetTable.probe renaming go→ahH
open ForInStep renaming yield→ah4
open List.Perm renaming refl→aiw,swap→aj4,append_left→anb,cons→ano
open PySem.W.Looks renaming here→aiF,of_pure→ane
open PySem.Walks renaming list→ai2
section
local macro_rules|`(tactic|omega)=>`(tactic|first|lia|omega +splitNatSub)
local macro_rules|`(tactic|show $t)=>`(tactic|refine $t)
local macro_rules|`(#[$a,$x,*])=>`(⟨$a,$x,*⟩)|`(#[$a])=>`(⟨$a⟩)
namespace L2
open PySem PySem.Spec PyProof.Rows
variable{us:List Yd}{a b dx C:Yc}{u:Yd}{h h':YO}{items:Array Yd}{P:YU}{x m:Yh}{e c:YY}{pins:List (Yc×Y8)}{s s':Yi}{g':Array alf}{t' i j k n:Nat}{d':akP}{ch:List Yc}{E Q:Yd->Yi->Prop}{p:adq}{es:List YY}{lo:Int}{f:Yd->Yd->ag1 Yd}{mA:Yh->Option Yd}{fd:Yr}{ps:List Yh}{kindOf:Yh->Option ag4}{scope:agi}{id:String}
abbrev cj:=Sum Int Yh
variable{xs:List (List cj×Yc×Yd)}
noncomputable def ED:cj->Yd->Bool
 | .inl k,v=>amW k v
 | .inr x,v=>ams x v
noncomputable def afZ(w:YZ):cj->Int
 | .inl k=>hashInt k
 | .inr x=>hashStr w x
theorem dH:∀{k:cj} {v:Yd},ED k v=true->(∃i t,k=YG i/\v=agI i t)∨(∃x t,k=ai5 x/\v=ajE x t)
 | .inl i,v,h=>by
  obtain⟨t,e⟩:=akU (k:=i) (v:=v) h;show .inl #[i,t,rfl,e]
 | .inr x,v,h=>by
  obtain⟨t,e⟩:=Value.isStrOf_shape (x:=x) (v:=v) h;show .inr #[x,t,rfl,e]
theorem abo(a b:Int):decide ((YG a:cj)=YG b)=(a==b):=by
 by_cases e:a=b
 .subst e;simp
 .have h:¬ (YG a:cj)=YG b:=λq=>e (af5 q);rw[decide_eq_false h];show(beq_eq_false_iff_ne.mpr e).symm
theorem acY(a b:Yh):decide ((ai5 a:cj)=ai5 b)=decide (a=b):=by
 by_cases e:a=b
 .subst e;simp
 .have h:¬ (ai5 a:cj)=ai5 b:=λq=>e (Sum.inr.inj q);rw[decide_eq_false h,decide_eq_false e]
theorem acx(a:Int)(b:Yh):decide ((YG a:cj)=ai5 b)=false:=decide_eq_false (λq=>nomatch q)
theorem abO(a:Yh)(b:Int):decide ((ai5 a:cj)=YG b)=false:=decide_eq_false (λq=>nomatch q)
noncomputable def bB(prog:YU)(w:YZ):ai8 prog w cj where
 is:=ED
 hash:=afZ w
 inj:=λv a b ha hb=>by
  rcases dH ha with⟨i,t,rfl,rfl⟩|⟨x,t,rfl,rfl⟩
  .rcases dH hb with⟨j,u,rfl,e⟩|⟨y,u,rfl,e⟩
   .injection e with e1 _;rw[e1]
   .show nomatch e
  .rcases dH hb with⟨j,u,rfl,e⟩|⟨y,u,rfl,e⟩
   .show nomatch e
   .injection e with e1 _;rw[e1]
 byValue:=λk v h=>by
  rcases dH h with⟨i,t,rfl,rfl⟩|⟨x,t,rfl,rfl⟩<;>rfl
 pyHash:=λhv h=>by
  rcases dH hv with⟨i,t,rfl,rfl⟩|⟨x,t,rfl,rfl⟩
  .show wpAny_pyHash_int h
  .show wpAny_pyHash_str h
 eqBool:=λhu hv h=>by
  rcases dH hu with⟨i,t,rfl,rfl⟩|⟨x,t,rfl,rfl⟩
  .rcases dH hv with⟨j,u,rfl,rfl⟩|⟨y,u,rfl,rfl⟩
   .rw[abo]at h;show alg h
   .rw[acx]at h;show SeqAt.EqAt.int_str i t y u _ _ _ _ h
  .rcases dH hv with⟨j,u,rfl,rfl⟩|⟨y,u,rfl,rfl⟩
   .rw[abO]at h;show SeqAt.EqAt.str_int x t j u _ _ _ _ h
   .rw[acY]at h;show wpAny_eqBool_str h
 «strs»:=λk x t v h=>by
  rcases dH h with⟨i,u,rfl,e⟩|⟨y,u,rfl,e⟩
  .show nomatch e
  .injection e with e1 _;subst e1;cases v<;>rfl
inductive V where
 |non|bl (b:Bool)|int (i:Int)|str (x:Yh)|byt (b:Array UInt8)|flt (b:UInt64)|ref (a:Yc)|ty (n:String)
 deriving DecidableEq
variable{v y d:V}{vs:List V}{kvs:List (List cj×V)}
def RelV:V->Yd->Prop
 | .non,u=>u=abl
 | .bl b,u=>u=ag5 b
 | .int i,u=>∃t,u=agI i t
 | .str x,u=>∃t,u=ajE x t
 | .byt b,u=>∃t,u=amX b t
 | .flt b,u=>∃t,u=ald b t
 | .ref a,u=>u=Yv a
 | .ty n,u=>u=xi n
abbrev Vals:List V->List Yd->Prop:=Aq RelV
def mY:Option V->Option Yd->Prop
 |some v,Ya u=>RelV v u
 |none,Yb=>True
 |_,_=>False
def KV{κ:Type}:List (κ×V)->List (κ×Yd)->Prop:=Aq fun(p:κ×V) (q:κ×Yd)=>p.1=q.1/\RelV p.2 q.2
noncomputable def kV:cj->V
 | .inl i=>.int i
 | .inr x=>.str x
inductive HO where
 |lst (xs:List V)
 |tup (xs:List V)
 |dK (kvs:List (cj×V))|dT (kvs:List (List cj×V))
 |set (S:Int->Bool) (n:Nat)
 |ins (C dx:Yc) (fs:List (Yh×V))
 |own (x:Yc)
 |xd (fs:List (Yh×V))
 |met (f x:Yc)
 |rng (lo hi:Int)
 |frz (o:Y8) (u:HO)
 |tbl (ps:Array Yd)
 |ext (φ:YO->Prop)
variable{o:HO}
abbrev Hp:=Yc->Option HO
variable{H H':Hp}
def qc(h:YO)(a:Yc)(items:Array Yd):Prop:=∃o,h.get? a=Ya o/\o.cls=.type "tuple"/\∃n,o.data=.seq items n/\o.dict=Yb/\o.slots=#[]
section
variable(P:YU)(w:YZ)
def cO(H:Hp)(h:YO)(a:Yc):HO->Prop
 | .lst xs=>xs.length<=Yu/\∃(its:List Yd) (n:Nat),Vals xs its/\h.get? a=Ya {cls:=.type "list",data:=.seq its.toArray n}
 | .tup xs=>xs.length<=Yu/\∃its:List Yd,Vals xs its/\qc h a its.toArray
 | .dK kvs=>kvs.length<=Yu/\(a==RW)=false/\∃vs,KV kvs vs/\h.DictOf (bB P w) a vs
 | .dT kvs=>kvs.length<=Yu/\(a==RW)=false/\∃xs:List (List cj×Yc×Yd),
   Aq (fun(p:List cj×V) (q:List cj×Yc×Yd)=>p.1=q.1/\H q.2.1=Ya (.tup (p.1.map kV))/\RelV p.2 q.2.2) kvs xs/\
   ∃o es ep,h.get? a=Ya o/\o.ExactDict/\o.data=.dict es ep/\es.toList=xs.map (aka (afi (bB P w)))/\(xs.map (·.1)).Nodup
 | .set S n=>h.SetOf (aez P w) a S n
 | .ins C dx fs=>H dx=Ya (.own a)/\fs.length<=1000/\dx≠a/\h.get? a=Ya (afl C dx)/\
   ∃mA,h.Ns1 dx mA/\(∀f,mY (fs.lookup f) (mA f))/\aiz mA (fs.map (·.1))
 | .own _=>∃o,h.get? a=Ya o
 | .xd fs=>∃mA,h.Ns1 a mA/\∀f,mY (fs.lookup f) (mA f)
 | .rng lo hi=>∃t u v,h.get? a=Ya {cls:=.type "range",data:=.fields (afs [.int lo t,.int hi u,.int 1 v])}
 | .frz o u=>h.get? a=Ya o/\cO H h a u
 | .tbl ps=>h.get? a=Ya {cls:=.none,data:=.fields ps}
 | .met f x=>h.get? a=Ya (aiS (.ref f) (.ref x))
 | .ext φ=>φ h/\(∃o,h.get? a=Ya o)/\∀h1 h2:YO,φ h1->(∀o,h1.get? a=Ya o->h2.get? a=Ya o)->φ h2
def pG(H:Hp)(h:YO):Prop:=∀a o,H a=Ya o->cO P w H h a o
end
def Rd(H:Hp)(a:Yc)(u:HO):Prop:=H a=Ya u∨∃o,H a=Ya (.frz o u)
structure Un(fs ex:List Yc)(H H':Hp)(h h':YO):Prop where
 keep:∀b o,h.get? b=Ya o->H b=Yb->b∉fs->b∉ex->h'.get? b=Ya o
 slot:∀b o,h.get? b=Ya o->H b=Yb->b∈fs->b∉ex->∃sl,h'.get? b=Ya {o with slots:=sl}
 free:∀b o,h.get? b=Ya o->H b=Yb->b∉ex->H' b=Yb
 there:∀b o,h.get? b=Ya o->b∉ex->∃o',h'.get? b=Ya o'
 tups:∀b xs,H b=Ya (.tup xs)->H' b=Ya (.tup xs)
 frzs:∀b o u,H b=Ya (.frz o u)->H' b=Ya (.frz o u)
 tbls:∀b ps,H b=Ya (.tbl ps)->∃more,H' b=Ya (.tbl (ps++more))
section
variable{fs ex:List Yc}{H1:Hp}{h1:YO}
theorem Un.any(u:Un fs ex H H1 h h1){ob:Y8}(q:h.get? b=Ya ob)(n:H b=Yb)(hx:b∉ex):∃sl,h1.get? b=Ya {ob with slots:=sl}:=by
 by_cases hb:b∈fs
 .show u.slot b ob q n hb hx
 .show#[ob.slots,u.keep b ob q n hb hx]
end
noncomputable def trk(h:YO)(H:Hp):List Yc:=(gp h.objs.size).filter λa=>(H a).isSome
noncomputable def Hw(h:YO)(H:Hp):YO:=agJ h (trk h H)
theorem Qm(h:YO)(H:Hp):(Hw h H).objs.size=h.objs.size:=PySem.W.hideAll_size _ _
theorem Di{o:Y8}(e:h.get? b=Ya o)(n:H b=Yb):(Hw h H).get? b=Ya o:=
 aie _ e λhm=>by
  have q:(H b).isSome=true:=(aab.mp hm).2;rw[n]at q;simp at q
theorem WX{o:Y8}(e:(Hw h H).get? b=Ya o):h.get? b=Ya o/\H b=none:=by
 have e':h.get? b=Ya o:=aiA (trk h H) e;show#[e',?_];cases q:H b with
 |none=>rfl
 |some x=>
  have hm:b∈trk h H:=aab.mpr #[adn.mpr (Yt e'),by simp[q]];have z:(Hw h H).get? b=none:=akb (trk h H) hm;rw[z]at e;cases e
structure Mod(K:Ye)(mg:Yh->Option Yd)(base:YO):Prop where
 kin:K.In base
 glob:base.Ns YS mg
 blt:∃mb,base.Ns aiZ mb/\∀x:Yh,x≠"__name__"->mb x=afm x
 nolimit:base.NoLimit
structure Cx where
 prog:YU
 w:YZ
 K:Ye
 mg:Yh->Option Yd
 base:YO
 A:sq
 N:List Yh
 s₀:Yi
 H₀:Hp
 env:af7
 outer:List af7
 stack:List af7
 ex:List Yc
 fn:Yh->Bool
 calm:Bool
 pn:List (Yc×Y8)
 xe:Yd->Yi->Prop
variable{w:YZ}{X:Cx}{N:List Yh}{A:sq}{K:Ye}{prog:YU}{env:af7}{mg:Yh->Option Yd}{outer:List af7}
noncomputable def mX(l:List af7):List Yc:=l.filterMap (·.frame)
noncomputable abbrev Cx.fs(X:Cx):List Yc:=mX X.outer
variable{fs:List (Yh×V)}
def Vis(sc:agi)(x:Yh):Prop:=sc.names.lookup x=Ya .local∨sc.names.lookup x=Ya .cell∨sc.names.lookup x=Ya .free
def afV(env:af7)(h:YO)(m:Yh->Option Yd)(x:Yh)(u:Yd):Prop:=
 (env.kindOf x=Ya .local/\m x=Ya u)∨((env.kindOf x=Ya .cell∨env.kindOf x=Ya .free)/\∃c,env.cells.lookup x=Ya c/\h.IsCell c (Ya u))
structure Cx.Ok(X:Cx):Prop where
 mod:Mod X.K X.mg X.base
 kind:X.env.scope.kind=.function
 glob:X.env.globals=YS
 blt:X.env.builtins=aiZ
 above:X.s₀.heap.objs.size<=X.env.locals
 inj:∀x y c,X.env.cells.lookup x=Ya c->X.env.cells.lookup y=Ya c->x=y
 has:∀x,(X.env.kindOf x=Ya .cell∨X.env.kindOf x=Ya .free)->∃c,X.env.cells.lookup x=Ya c
 cab:∀x c,X.fn x=true->X.env.cells.lookup x=Ya c->X.s₀.heap.objs.size<=c
 hd:X.calm=true->X.A.handled=Yb
 frames:X.A.frames=Ya X.stack
 stk:X.stack=X.outer∨(X.stack=X.env::X.outer/\X.env.frame=Ya X.env.locals)
 exf:∀b∈X.ex,b≠X.env.locals/\∀x c,X.env.cells.lookup x=Ya c->c≠b
 bs:∀b o,X.base.get? b=Ya o->X.s₀.heap.get? b=Ya o/\X.H₀ b=Yb
 bsz:X.base.objs.size<=X.s₀.heap.objs.size
 noex:∀b o,X.base.get? b=Ya o->b∉X.ex
 exfs:∀b∈X.ex,b∉X.fs
 funs:X.s₀.heap.FunFrames X.base X.outer
 frf:∀b∈X.fs,X.H₀ b=Yb
structure aM(X:Cx)(pins:List (Yc×Y8))(σ:List (Option V))(H:Hp)(s:Yi):Prop where
 ok:X.Ok
 os:s.os=X.s₀.os
 bare:ahd s.gens
 base:Un X.fs X.ex X.H₀ H X.s₀.heap s.heap
 loc:∃m,s.heap.Ns X.env.locals m/\∀(i:Nat) (x:Yh) (v:V),X.N[i]?=Ya x->σ[i]?=Ya (Ya v)->Vis X.env.scope x->∃u,RelV v u/\afV X.env s.heap m x u
 cell:∀x c,X.env.cells.lookup x=Ya c->∃v,s.heap.IsCell c v
 free:H X.env.locals=Yb
 freeC:∀x c,X.env.cells.lookup x=Ya c->H c=Yb
 pin:∀p∈X.pn++pins,s.heap.get? p.1=Ya p.2/\H p.1=Yb/\p.1≠X.env.locals/\p.1∉X.fs/\∀v,p.2.data≠.cell v
 hok:pG X.prog X.w H s.heap
 len:σ.length=X.N.length
section
variable{σ:List (Option V)}
theorem aM.cne(I:aM X pins σ H s):∀x c,X.env.cells.lookup x=Ya c->c≠X.env.locals:=λx c e z=>by
 obtain⟨v,o,ho,hd⟩:=I.cell x c e;obtain⟨m,⟨o',es,ep,ho',hd',_⟩,_⟩:=I.loc;rw[z,ho']at ho;cases ho;rw[hd']at hd;cases hd
theorem aM.step(I:aM X pins σ H s)(hch:∀b∈ch,(b∈X.ex∨X.s₀.heap.objs.size<=b)/\b≠X.env.locals/\(∀x c,X.env.cells.lookup x=Ya c->c≠b)/\∀p∈X.pn++pins,p.1≠b)(keep:∀b o,b≠X.env.locals->b∉X.fs->b∉ch->s.heap.get? b=Ya o->H b=Yb->h'.get? b=Ya o)(slot:∀b o,b≠X.env.locals->b∈X.fs->b∉ch->s.heap.get? b=Ya o->H b=Yb->∃sl,h'.get? b=Ya {o with slots:=sl})(free:∀b o,b∉ch->s.heap.get? b=Ya o->H b=Yb->H' b=Yb)(there:∀b o,b∉ch->s.heap.get? b=Ya o->∃o',h'.get? b=Ya o')(tups:∀b xs,H b=Ya (.tup xs)->H' b=Ya (.tup xs))(frzs:∀b o u,H b=Ya (.frz o u)->H' b=Ya (.frz o u))(tbls:∀b ps,H b=Ya (.tbl ps)->∃more,H' b=Ya (.tbl (ps++more)))(ns:∀m,s.heap.Ns X.env.locals m->h'.Ns X.env.locals m)(hok:pG X.prog X.w H' h')(hg:ahd g'):
  aM X pins σ H' {s with heap:=h',gens:=g',drawn:=d',toks:=t'}:=by
 have neL:∀b o,X.s₀.heap.get? b=Ya o->b≠X.env.locals:=λb o e=>YB (YT (Yt e) I.ok.above);have neC:∀b o,X.s₀.heap.get? b=Ya o->b∉X.ex->b∉ch:=λb o e hx hb=>by
  rcases(hch b hb).1 with z|z
  .show hx z
  .show absurd (YT (Yt e) z) (Y7 _)
 have cellK:∀x c,X.env.cells.lookup x=Ya c->∀v,s.heap.IsCell c v->h'.IsCell c v:=λx c e v ⟨o,ho,hd⟩=>by
  have nch:c∉ch:=λz=>(hch c z).2.2.1 x c e rfl;by_cases hc:c∈X.fs
  .obtain⟨sl,q⟩:=slot c o (I.cne x c e) hc nch ho (I.freeC x c e);show#[_,q,hd]
  .show#[o,keep c o (I.cne x c e) hc nch ho (I.freeC x c e),hd]
 show#[I.ok,I.os,hg,#[λb o e n hb hx=>?_,λb o e n hb hx=>?_,λb o e n hx=>?_,λb o e hx=>?_,λb xs e=>tups b xs (I.base.tups b xs e),λb o xs e=>frzs b o xs (I.base.frzs b o xs e),λb ps e=>?_],?_,λx c e=>?_,?_,λx c e=>?_,λp hp=>?_,hok,I.len]
 .show keep b o (neL b o e) hb (neC b o e hx) (I.base.keep b o e n hb hx) (I.base.free b o e n hx)
 .obtain⟨sl,e1⟩:=I.base.slot b o e n hb hx;obtain⟨sl',e2⟩:=slot b _ (neL b o e) hb (neC b o e hx) e1 (I.base.free b o e n hx);show#[sl',e2]
 .obtain⟨o',e1⟩:=I.base.there b o e hx;show free b o' (neC b o e hx) e1 (I.base.free b o e n hx)
 .obtain⟨o',e1⟩:=I.base.there b o e hx;show there b o' (neC b o e hx) e1
 .obtain⟨m1,e1⟩:=I.base.tbls b ps e;obtain⟨m2,e2⟩:=tbls b _ e1;show#[m1++m2,by rw[e2,akz]]
 .obtain⟨m,hn,hl⟩:=I.loc;show#[m,ns m hn,λi x v e1 e2 e3=>?_];obtain⟨u,r,l⟩:=hl i x v e1 e2 e3;show#[u,r,?_];rcases l with l|⟨k,c,e,z⟩
  .show .inl l
  .show .inr #[k,c,e,cellK x c e _ z]
 .obtain⟨v,z⟩:=I.cell x c e;show#[v,cellK x c e v z]
 .obtain⟨m,⟨o,_,_,ho,_⟩,_⟩:=I.loc;show free _ o (λz=>(hch _ z).2.1 rfl) ho I.free
 .obtain⟨v,o,ho,hd⟩:=I.cell x c e;show free c o (λz=>(hch c z).2.2.1 x c e rfl) ho (I.freeC x c e)
 .obtain⟨e,n,ne,nf,d⟩:=I.pin p hp;have nch:p.1∉ch:=λz=>(hch p.1 z).2.2.2 p hp rfl;show#[keep p.1 p.2 ne nf nch e n,free p.1 p.2 nch e n,ne,nf,d]
theorem aM.un(I:aM X pins σ H s)(u:Un X.fs [] H H' s.heap h')(hok:pG X.prog X.w H' h'):aM X pins σ H' {s with heap:=h',toks:=t'}:=by
 obtain⟨m,⟨o,es,ep,ho,r⟩,_⟩:=id I.loc;obtain⟨sl,hL⟩:=u.any ho I.free (by simp);show I.step (g':=s.gens) (d':=s.drawn) (ch:=[]) (λ_ z=>nomatch z) (λb o _ hb _ e n=>u.keep b o e n hb (by simp)) (λb o _ hb _ e n=>u.slot b o e n hb (by simp)) (λb o _ e n=>u.free b o e n (by simp)) (λb o _ e=>u.there b o e (by simp)) u.tups u.frzs u.tbls (λm' hm=>by
  obtain⟨o',es',ep',ho',r'⟩:=hm;rw[ho]at ho';cases ho';show#[_,es',ep',hL,r']) hok I.bare
end
abbrev XK:=Yd->Option Yc->Hp->Prop
abbrev VK:=V->Hp->Prop
def bZ(K:Ye)(H:Hp)(a:Yc)(xs:List V):Prop:=
 Rd H a (.lst xs)∨
  ∃(o:Y8) (its:Array Yd) (n:Nat),K.lookup a=Ya o/\o.cls=.type "list"/\o.dict=Yb/\o.data=.seq its n/\its.size<=Yu/\Vals xs its.toList
variable{r:R2}
structure CJ(K:Ye)(C:Yc):Prop where
 pg:ahS K C Str.empty=true
 hd:ahG K C=true
 po:akV K C=true
 sa:YR K (.ref C) "__setattr__"=Ya (Ya (.builtin "object.__setattr__"))
def bu(K:Ye)(C:Yc)(f:Yh):Prop:=YR K (.ref C) f=Ya Yb
structure aX(K:Ye)(C:Yc)(m:Yh)(f:Yc):Prop where
 at_:YR K (.ref C) m=Ya (Ya (.ref f))
 fn:akA K (.ref f)=true
 kp:afQ K (.ref f)=true
structure cV(k:Nat)(A:sq):Prop where
 hd:A.handled=Yb
 dp:A.depth+ 3*k+ 5<ain
 un:A.units+ 16*k+ 200<ab0
abbrev Sp:=List V->Hp->VK->XK->Prop
variable{sp:Sp}
abbrev CXT:=List af7->Hp->Yi->XK->Yd->Yi->Prop
variable{CX:CXT}
structure Me(P:YU)(w:YZ)(K:Ye)(mg:Yh->Option Yd)(base:YO)(A:sq)(outer:List af7)(s:Yi)(H:Hp):Prop where
 frames:A.frames=Ya outer
 mod:Mod K mg base
 bs:∀b o,base.get? b=Ya o->s.heap.get? b=Ya o/\H b=Yb
 bsz:base.objs.size<=s.heap.objs.size
 funs:s.heap.FunFrames base outer
 frf:∀b∈mX outer,H b=Yb
 hok:pG P w H s.heap
 bare:ahd s.gens
def CE(outer:List af7)(P:YU)(w:YZ)(H:Hp)(s:Yi)(Q:VK)(u:Yd)(s':Yi):Prop:=
 ∃v H',s'.os=s.os/\ahd s'.gens/\Un (mX outer) [] H H' s.heap s'.heap/\pG P w H' s'.heap/\RelV v u/\Q v H'
def CR(CX:CXT)(outer:List af7)(P:YU)(w:YZ)(H:Hp)(s:Yi)(Q:VK)(E:XK)(r:agt)(s':Yi):Prop:=
 match r with
 | .ok (.ret u)=>CE outer P w H s Q u s'
 | .ok _=>False
 | .error e=>CX outer H s E e s'
structure aw(P:YU)(w:YZ)(K:Ye)(mg:Yh->Option Yd)(base:YO)(CX:CXT)(k:Nat)(f:Yc)(fd:Yr)(ps:List Yh)(sp:Sp):Prop where
 len:∀vs H Q E,sp vs H Q E->vs.length=ps.length
 run:∀(A:sq) (outer:List af7) (s:Yi) (H:Hp) (args:Args) (us:List Yd) (vs:List V) (Q:VK) (E:XK),cV k A->Me P w K mg base A outer s H->ajX s fd args (ps.zip us)->Vals vs us->sp vs H Q E->
  rl (Yn P w) A (.call (.ref f) args) (CR CX outer P w H s Q E) s
section
variable{f:Yc}
structure Mk(K:Ye)(C f:Yc):Prop where
 makes:alF K C=true
 init:YR K (.ref C) "__init__"=Ya (Ya (.ref f))
 fn:akA K (.ref f)=true
 kp:afQ K (.ref C)=true
end
end L2
namespace Att
open PySem PySem.W PySem.Calls PyProof.Rows
variable{P:Params}{h:YO}{l:OpenLaw}{n:Nat}
theorem BL:∀(ns:List Int) (vs:List Yd),WellAll P h vs (ns.map WData.int)->xn vs ns:=by
 intro ns
 induction ns with
 |nil=>
  intro vs w;rw[akB]at w;cases w;show .nil
 |cons n ns ih=>
  intro vs w;rw[YL]at w;cases w with
  |cons a b=>
   cases a;show .cons _ _ (ih _ b)
theorem RI(hn:l.most=Ya n){args:List WData}{vals:List Yd}(hpre:l.row.toRowW.claim.pre args=true)(hwl:WellAll P h vals args):
  ∃a vs ns,vals=[Yv a]/\args=[WData.list (ns.map WData.int)]/\h.get? a=Ya {cls:=.type "list",data:=.seq vs.toArray}/\xn vs ns/\ns.length<=n:=by
 have hsh:WShape.hasAll [] args [.list .int]=true:=(pre_splitW hpre).1;have hc:l.pre.holds [] {args:=args}=true:=(pre_splitW hpre).2;obtain⟨d,r,rfl,h1,h2⟩:=hasAllW_cons hsh;obtain rfl:=hasAllW_nil h2;obtain⟨xs,rfl,h3⟩:=hasW_list h1;obtain⟨ns,rfl⟩:=items_int h3;have hlen:ns.length<=n:=by
  unfold OpenLaw.pre at hc;have h4:(WTm.not (.lt (.lit (.int (n:Int))) (.len (.arg 0)))).holds [] {args:=[.list (ns.map .int)]}=true:=by
   have h4:=(holds_andW hc).1;rw[hn]at h4;show h4
  have h5:=condW_of h4 (w_not (w_lt w_lit (w_len_list (w_arg rfl))));rw[Yj]at h5;show Nat.le_of_not_lt λq=>?_;have q':(n:Int)<((ns.length:Nat):Int):=by omega
  first
   |(rw[decide_eq_true q']at h5;show absurd h5 (by decide))
   |(simp at h5;omega)
 cases hwl with
 |cons w1 w2=>
  cases w2;cases w1 with
  |list ho hall=>show#[_,_,ns,rfl,rfl,ho,BL ns _ hall,hlen]
theorem Qk(l:OpenLaw)(args:List WData):l.row.toRowW.claim.post args (.bool true) args=true:=
 postW_of (r:=l.row.toRowW) (X:=(true==true))
  (show WShape.has [] (.bool true) .bool=true by first|rfl|decide|simp[WShape.has,WShape.arms,WShape.armsAll])
  (show(WTm.eq .res (.lit (.bool true))).value [] {args:=args,res:=Ya (.bool true),after:=args}=Ya (.bool (true==true))from w_eq_bool (w_res rfl) w_lit) rfl
theorem attach_call{q:YU}{loose:List Yh}{XP:(Yh->Option Yd)->YO->Prop}{YP:YZ->YO->Prop}{d:DefRec}(hn:l.most=Ya n)(hdf:d.params.defaults=[])(call:∀(w:YZ) (s₀ s₁:Yi) (mg mb:Yh->Option Yd) (fa:Yc) (o:Y8) (pm cd doc:Yd) (a:Yc) (vs:List Yd) (ns:List Int),
   Ground q loose [] XP w s₀ mg mb s₁.heap->YP w s₁.heap->
   s₁.heap.get? fa=Ya o->o.data=.func (docDef d.name d.params d.body d.scope pm cd doc)->s₁.heap.CodeRec cd d.name->mg d.name=Ya (.ref fa)->
   s₁.heap.get? a=Ya {cls:=.type "list",data:=.seq vs.toArray}->xn vs ns->ns.length<=n->s₁.gens=#[]->
   rl (Yn l.prog w) ai6 (.call (.ref fa) #[[.ref a],[]]) (λr s'=>r=.ok (.ret (.bool true))/\OldK s₁.heap s'.heap/\s'.os=s₁.os/\ahd s'.gens) s₁):
  WalkO q loose XP YP l.row.toRowW d [] (λf vs=>PySem.call f vs):=by
 intro w s₀ s₁ mg mb G Y fa o pm cd doc dV kV ho hd hcd hD hmg hg args vals as hpre hlay hrd hwl hlo;obtain rfl:dV=.none:=Dflts.none hD hdf;obtain rfl:kV=.none:=Dflts.noKw hD;obtain⟨a,vs,ns,rfl,rfl,hobj,hints,hlen⟩:=RI hn hpre hwl;show enter_call (codeAny_mono (call w s₀ s₁ mg mb fa o pm cd doc a vs ns G Y ho (fd_plain hd) hcd hmg hobj hints hlen hg) λr s' hq=>?_);obtain⟨rfl,h2,h3,h4⟩:=hq;show#[.inl #[.bool true,.bool true,[],rfl,λ_=>rfl,.bool true,Qk l _,λ_=>#[List.Pairwise.nil,λ_ hm=>(nomatch hm)]],h2,h3,h4]
end Att
namespace L2
open PySem PySem.Spec PyProof.Rows
variable{K:Ye}{x qual:Yh}{st:YI}{f:Yc}{fd:Yr}{k:Nat}
theorem z7:∀{vs:List Yd} {ns:List Int},xn vs ns->Vals (ns.map V.int) vs
 |_,_,.nil=>.nil
 |_,_,.cons n t h=>.cons #[t,rfl] (z7 h)
noncomputable def aO(s:YI)(j:Nat):YI:=match s with
 | .ClassDef _ _ _ body _ _ _ _ _ _ _=>body.getD j (.Pass #[0,0,0,0])
 |_=>.Pass #[0,0,0,0]
noncomputable def gz(s:YI):akC:=match s with
 | .FunctionDef _ a _ _ _ _ _ _ _ _=>a
 |_=>{posonlyargs:=[],args:=[],vararg:=Yb,kwonlyargs:=[],kw_defaults:=[],kwarg:=Yb,defaults:=[]}
noncomputable def du(s:YI):List YI:=match s with
 | .FunctionDef _ _ b _ _ _ _ _ _ _=>b
 |_=>[]
noncomputable def ah(s:YI):agi:=match s with
 | .FunctionDef _ _ _ _ _ _ sc _ _ _=>sc
 |_=>{kind:=.function,names:=[],isGenerator:=false,isCoroutine:=false}
abbrev bo:CXT:=λ_ _ _ _ _ _=>False
structure bx(K:Ye)(x qual:Yh)(st:YI)(f:Yc)(fd:Yr):Prop where
 ex:∃(oc:Yd) (od:Option Yc) (kV doc pm:Yd) (an:Option Yc) (cdv ct:Yd) (osl:Array (Option Yd)),
  fd=aal x qual (gz st) (du st) (ah st) .none kV doc pm an cdv ct/\K.lookup f=Ya #[oc,od,.func fd,osl]/\agq K cdv qual=true
 kp:afQ K (.ref f)=true
section
theorem Mn{oc:Yd}{od an:Option Yc}{osl:Array (Option Yd)}{kV doc pm cdv ct:Yd}(l:K.lookup f=Ya #[oc,od,.func (aal x qual (gz st) (du st) (ah st) .none kV doc pm an cdv ct),osl])(c:agq K cdv qual=true)(k:afQ K (.ref f)=true):bx K x qual st f (aal x qual (gz st) (du st) (ah st) .none kV doc pm an cdv ct):=#[#[oc,od,kV,doc,pm,an,cdv,ct,osl,rfl,l,c],k]
end
end L2
namespace L2
open PySem PySem.Spec PyProof.Rows
section
variable{f C:Yc}{m:Yh}
structure UB(K:Ye)(C:Yc)(m:Yh)(f:Yc):Prop where
 ga:aiT K (.ref C) "__getattribute__"=Ya (Ya (.builtin "type.__getattribute__"))
 rd:PySem.W.readsIn K C (.type "type")=true
 at_:PySem.W.findCls K (.ref C) (.type "type") m=Ya (.val (.ref f))
 hd:ai9 (.ref f)=true
 kp:afQ K (.ref f)=true
end
structure kT(K:Ye)(C:Yc):Prop where
 cl:CJ K C
 n1:bu K C "number"
 n2:bu K C "caller"
 n3:bu K C "count"
 n4:bu K C "word"
 n5:bu K C "causes"
structure NI(K:Ye)(C:Yc):Prop where
 cl:CJ K C
 n1:bu K C "learnt"
end L2
namespace L2
open PySem PySem.Spec PyProof.Rows
structure Jl(K:Ye)(C:Yc):Prop where
 cl:CJ K C
 n1:bu K C "me"
 n2:bu K C "hands"
 n3:bu K C "ballot"
 n4:bu K C "yes"
 n5:bu K C "votes"
 n6:bu K C "reports"
 n7:bu K C "agreed"
end L2
namespace L2
open PySem PySem.Spec PyProof.Rows
variable{P:YU}{w:YZ}{d f e a:Yc}{H H':Hp}{h base:YO}{n k m:Nat}{b:Nat->Nat->Bool}{s s':Yi}{xs vs:List V}{fd:Yr}{ps:List Yh}{sp:Sp}{K:Ye}{o:HO}{mg:Yh->Option Yd}{qual x:Yh}{cd:Yd}{es:List YY}{t:TA}{od:Option Yc}
def Jj(base:YO)(mg:Yh->Option Yd):Prop:=∃bm ob,mg "__builtins__"=Ya (.ref bm)/\bm≠aiZ/\bm≠YS/\base.get? bm=Ya ob/\ob.cls=.type "module"/\ob.dict=Ya aiZ/\ob.data=.plain
def Vt(ts:List Yc)(H:Hp):Prop:=(∀b,H b=Yb∨(∃o xs,H b=Ya (.frz o (.lst xs)))∨(b∈ts/\H b=Ya (.tbl #[])))/\∀t∈ts,H t=Ya (.tbl #[])
theorem Qi{mb:Yh->Option Yd}{fa:Yc}{s₁:Yi}{vs:List Yd}{ns:List Int}{ts:List Yc}(KX:K.In s₁.heap)(hns:s₁.heap.Ns YS mg)(hb:s₁.heap.Ns aiZ mb)(hbb:∀x:Yh,x≠"__name__"->mb x=afm x)(hlim:s₁.heap.NoLimit)(hg:s₁.gens=#[])(hB:Jj s₁.heap mg)(ha:s₁.heap.get? a=Ya {cls:=.type "list",data:=.seq vs.toArray})(hi:xn vs ns)(hl:ns.length<=Yu)(hr:cV k ai6)(hts:∀t∈ts,K.lookup t=Yb/\s₁.heap.get? t=Ya (agW #[])/\isCodeTable s₁.heap t)(F:∀base:YO,K.In base->base.Ns YS mg->Jj base mg->aw P w K mg base bo k fa fd [x] sp)(hbind:∀(s:Yi) (u:Yd),ajX s fd #[[u],[]] [(x,u)])(hsp:∀H:Hp,Vt ts H->bZ K H a (ns.map V.int)->sp [.ref a] H (λv _=>v=.bl true) λ_ _ _=>False)(hCX:∀H e s',bo [] H s₁ (λ_ _ _=>False) e s'->False):
  rl (Yn P w) ai6 (.call (.ref fa) #[[.ref a],[]]) (λr s'=>r=.ok (.ret (.bool true))/\OldK s₁.heap s'.heap/\s'.os=s₁.os/\ahd s'.gens) s₁:=by
 have rv:=z7 hi;have lenV:=hi.length;have nta:∀t∈ts,t≠a:=λt ht z=>by
  have:=(hts t ht).2.1;rw[z,ha]at this;cases this
 have core:∀H:Hp,Vt ts H->bZ K H a (ns.map V.int)->pG P w H s₁.heap->(∀b,H b≠Yb->b=a∨b∈ts)->(H a≠Yb->K.lookup a=Yb)->
   rl (Yn P w) ai6 (.call (.ref fa) #[[.ref a],[]]) (λr s'=>r=.ok (.ret (.bool true))/\OldK s₁.heap s'.heap/\s'.os=s₁.os/\ahd s'.gens) s₁:=by
  intro H hO hS hok hA hK;have free:∀{b:Yc} {o:Y8},s₁.heap.get? b=Ya o->(∀it n,o.data≠.seq it n)->(∀fs,o.data≠.fields fs)->H b=none:=fun{b o} e n1 n2=>by
   cases q:H b with
   |none=>rfl
   |some u=>
    rcases hA b (by rw[q];simp)with z|z
    .rw[z,ha]at e;cases e;show absurd rfl (n1 _ _)
    .rw[(hts b z).2.1]at e;cases e;show absurd rfl (n2 _)
  have nsK:∀{b:Yc} {m:Yh->Option Yd},s₁.heap.Ns b m->(Hw s₁.heap H).Ns b m:=fun{b m} ⟨o,es,ep,e,d,r⟩=>#[o,es,ep,Di e (free e (λ_ _ z=>by rw[d]at z;cases z) λ_ z=>by rw[d]at z;cases z),d,r];have hKb:K.In (Hw s₁.heap H):=λb o e=>Di (KX b o e) (by
   cases q:H b with
   |none=>rfl
   |some u=>
    rcases hA b (by rw[q];simp)with z|z
    .subst z;rw[hK (by rw[q];simp)]at e;cases e
    .rw[(hts b z).1]at e;cases e)
  have hM:Mod K mg (Hw s₁.heap H):=#[hKb,nsK hns,#[mb,nsK hb,hbb],let ⟨mc,h1,h2⟩:=hlim;#[mc,nsK h1,h2]];have hB':Jj (Hw s₁.heap H) mg:=let ⟨bm,ob,b1,b2,b3,b4,b5,b6,b7⟩:=hB;#[bm,ob,b1,b2,b3,Di b4 (free b4 (λ_ _ z=>by rw[b7]at z;cases z) λ_ z=>by rw[b7]at z;cases z),b5,b6,b7];have e0:Me P w K mg (Hw s₁.heap H) ai6 [] s₁ H:=#[rfl,hM,λb o e=>WX e,ah2 (Qm _ _),trivial,λb hb=>absurd (show b∈([]:List Yc)from hb) (by simp),hok,.of_eq hg];show codeAny_mono ((F _ hKb (nsK hns) hB').run ai6 [] s₁ H #[[.ref a],[]] [.ref a] [.ref a] _ _ hr e0 (hbind s₁ (.ref a)) (.cons rfl .nil) (hsp H hO hS)) λr s' h=>?_;cases r with
  |error e=>show(hCX H e s' h).elim
  |ok fl=>
   cases fl with
   |next=>show ir h
   |brk=>show ir h
   |cont=>show ir h
   |ret u=>
    obtain⟨v,H',os,bare,un,hok',r',q⟩:=h;have q':v=.bl true:=q;subst q';obtain rfl:u=ag5 true:=r';have grown:∀t∈ts,∃ps,s'.heap.get? t=Ya (agW ps):=λt ht=>by
     obtain⟨more,e⟩:=un.tbls t #[] (hO.2 t ht);show#[_,(show s'.heap.get? t=Ya {cls:=.none,data:=.fields (#[]++more)}from hok' t _ e)]
    have keep:∀b o,b∉ts->s₁.heap.get? b=Ya o->s'.heap.get? b=Ya o:=λb o nb e=>by
     rcases hO.1 b with z|⟨ob,xs,z⟩|⟨z,_⟩
     .show un.keep b o e z (by intro z;show absurd (show b∈([]:List Yc)from z) (by simp)) (by simp)
     .obtain⟨e1,_⟩:=hok b _ z;obtain⟨e2,_⟩:=hok' b _ (un.frzs b ob _ z);rw[e]at e1;cases e1;show e2
     .show absurd z nb
    show#[rfl,#[λb o e=>?_,λb o e=>?_],os,bare]
    .by_cases hb:b∈ts
     .obtain⟨ps,hP⟩:=grown b hb;obtain⟨_,e2,ct⟩:=hts b hb;rw[e]at e2;cases e2;show .inr (.inl #[ct,rfl,#[],ps,rfl,by rw[Array.empty_append];show hP])
     .show .inl (keep b o hb e)
    .by_cases hb:b∈ts
     .obtain⟨ps,hP⟩:=grown b hb;show#[_,hP]
     .show#[o,keep b o hb e]
 cases hk:K.lookup a with
 |some o=>
  have e:=KX a o hk;rw[ha]at e;cases e;show core (λb=>if b∈ts then Ya (.tbl #[])else Yb) #[λb=>?_,λt ht=>if_pos ht] (.inr #[_,vs.toArray,_,hk,rfl,rfl,rfl,by rw[YA,lenV];show hl,by simpa using rv]) (λb u z=>?_) (λb z=>?_) λz=>?_
  .by_cases hb:b∈ts
   .show .inr (.inr #[hb,if_pos hb])
   .show .inl (if_neg hb)
  .by_cases hb:b∈ts
   .have z':=(if_pos hb).symm.trans z;cases z';show(hts b hb).2.1
   .have z':=(if_neg hb).symm.trans z;cases z'
  .by_cases hb:b∈ts
   .show .inr hb
   .show absurd (if_neg hb) z
  .show absurd (if_neg λq=>nta a q rfl) z
 |none=>
  show core (λb=>if b=a then Ya (.frz {cls:=.type "list",data:=.seq vs.toArray} (.lst (ns.map V.int)))else if b∈ts then Ya (.tbl #[])else Yb) #[λb=>?_,λt ht=>?_] (.inl (.inr #[{cls:=.type "list",data:=.seq vs.toArray},if_pos rfl])) (λb u z=>?_) (λb z=>?_) λ_=>hk
  .by_cases hb:b=a
   .show .inr (.inl #[_,_,if_pos hb])
   .by_cases ht:b∈ts
    .show .inr (.inr #[ht,by dsimp only;rw[if_neg hb,if_pos ht]])
    .show .inl (by dsimp only;rw[if_neg hb,if_neg ht])
  .dsimp only;rw[if_neg (nta t ht),if_pos ht]
  .dsimp only at z;by_cases hb:b=a
   .rw[if_pos hb]at z;cases z;subst hb;show#[ha,by rw[Yj];show hl,vs,_,rv,ha]
   .rw[if_neg hb]at z;by_cases ht:b∈ts
    .rw[if_pos ht]at z;cases z;show(hts b ht).2.1
    .rw[if_neg ht]at z;cases z
  .by_cases hb:b=a
   .show .inl hb
   .rw[if_neg hb]at z;by_cases ht:b∈ts
    .show .inr ht
    .rw[if_neg ht]at z;show absurd rfl z
theorem Sm{l:alG}{q:YU}{loose:List Yh}{XP:(Yh->Option Yd)->YO->Prop}{YP:YZ->YO->Prop}{d:DefRec}{K:Params->Ye}{sp:YZ->Sp}{tabs:List (Yc×Yc)}(hn:l.most=Ya n)(hn2:n<=Yu)(hdf:d.params.defaults=[])(hr:cV k ai6)(hY:∀(w:YZ) (h:YO),YP w h->(K w.params).In h/\∀t∈tabs.map (·.2),h.get? t=Ya (agW #[]))(hK:∀(w:YZ),∀q∈tabs,alh (K w.params) q.1 q.2=true/\(K w.params).lookup q.2=Yb)(F:∀(w:YZ) (mg:Yh->Option Yd) (fa:Yc) (h:YO),(K w.params).In h->h.Ns YS mg->mg d.name=Ya (.ref fa)->
   ∃fd:Yr,(∀(s:Yi) (u:Yd),ajX s fd #[[u],[]] [(x,u)])/\
    ∀base:YO,(K w.params).In base->base.Ns YS mg->Jj base mg->aw l.prog w (K w.params) mg base bo k fa fd [x] (sp w)) (hsp:∀(w:YZ) (H:Hp) (a:Yc) (ns:List Int),ns.length<=n->Vt (tabs.map (·.2)) H->bZ (K w.params) H a (ns.map V.int)->sp w [.ref a] H (λv _=>v=.bl true) λ_ _ _=>False) (hCX:∀(H:Hp) (s:Yi) (e:Yd) (s':Yi),bo [] H s (λ_ _ _=>False) e s'->False):
  amt q loose XP YP l.row.toRowW d [] (λf vs=>PySem.call f vs):=by
 show Att.attach_call hn hdf λw s₀ s₁ mg mb fa o pm cd doc a vs ns G Y ho hd hcd hmg hobj hints hlen hg=>?_;obtain⟨KX,hT⟩:=hY w _ Y;obtain⟨fd,hb,hF⟩:=F w mg fa _ KX G.T.g hmg;have hB:Jj s₁.heap mg:=by
  obtain⟨bm,ob,b1,b2,b3,b4,b5,b6⟩:=G.T.bmain;show#[bm,ob,b1,b2,λz=>?_,b3,b4,b5,b6];obtain⟨o,es,ep,e,hd,_⟩:=G.T.g;rw[z,e]at b3;cases b3;rw[hd]at b6;cases b6
 show Qi (ts:=tabs.map (·.2)) KX G.T.g G.T.b G.T.builtins G.T.nolimit hg hB hobj hints (oh hlen hn2) hr (λt ht=>?_) hF hb (λH hO hS=>hsp w H a ns hlen hO hS) λH e s'=>hCX H s₁ e s';obtain⟨q,hq,rfl⟩:=YX.mp ht;obtain⟨h1,h2⟩:=hK w q hq;show#[h2,hT _ ht,((PySem.W.codeHd_of_K KX h1).tab (hT _ ht)).isCodeTable]
structure T6(K:Ye)(x qual:Yh)(st:YI)(f:Yc)(fd:Yr)(c:Yc):Prop where
 ex:∃(oc:Yd) (od:Option Yc) (kV doc pm:Yd) (an:Option Yc) (ct:Yd) (osl:Array (Option Yd)),
  fd=aal x qual (gz st) (du st) (ah st) .none kV doc pm an (.ref c) ct/\K.lookup f=Ya #[oc,od,.func fd,osl]/\agq K (.ref c) qual=true
end L2
namespace L2
open PySem PySem.Spec PyProof.Rows
variable{K:Ye}{f:Yc}{fd:Yr}{t:TA}
structure IG(K:Ye)(x qual:Yh)(st:YI)(f:Yc)(fd:Yr)(ds:List Yd):Prop where
 ex:∃(oc:Yd) (od:Option Yc) (kV doc pm:Yd) (an:Option Yc) (cdv ct:Yd) (osl:Array (Option Yd)) (T:Yc) (tc:Yd) (td:Option Yc) (tn:Nat) (tsl:Array (Option Yd)),
  fd=aal x qual (gz st) (du st) (ah st) (.ref T) kV doc pm an cdv ct/\K.lookup f=Ya #[oc,od,.func fd,osl]/\agq K cdv qual=true/\K.lookup T=Ya #[tc,td,.seq ds.toArray tn,tsl]
section
variable{x qual:Yh}{st:YI}{ds:List Yd}
theorem OD{oc:Yd}{od an:Option Yc}{osl:Array (Option Yd)}{kV doc pm cdv ct:Yd}{T:Yc}{tc:Yd}{td:Option Yc}{tn:Nat}{tsl:Array (Option Yd)}(l:K.lookup f=Ya #[oc,od,.func (aal x qual (gz st) (du st) (ah st) (.ref T) kV doc pm an cdv ct),osl])
  (c:agq K cdv qual=true) (t:K.lookup T=Ya #[tc,td,.seq ds.toArray tn,tsl]):IG K x qual st f (aal x qual (gz st) (du st) (ah st) (.ref T) kV doc pm an cdv ct) ds:=#[#[oc,od,kV,doc,pm,an,cdv,ct,osl,T,tc,td,tn,tsl,rfl,l,c,t]]
end
end L2
namespace L2
open PySem PySem.Spec PyProof.Rows
variable{C:Yc}
structure GN(K:Ye)(C:Yc):Prop where
 cl:CJ K C
 n1:bu K C "me"
 n2:bu K C "number"
 n3:bu K C "hands"
 n4:bu K C "room"
 n5:bu K C "made"
 n6:bu K C "done"
 n7:bu K C "took"
 n8:bu K C "keeps"
 n9:bu K C "order"
 n10:bu K C "taken_by"
 n11:bu K C "able_by"
end L2
namespace L2
open PySem PySem.Spec PyProof.Rows
structure OX(K:Ye)(C:Yc):Prop where
 cl:CJ K C
 n1:bu K C "me"
 n2:bu K C "room"
 n3:bu K C "newest"
 n4:bu K C "page"
 n5:bu K C "change"
 n6:bu K C "came_by"
 n7:bu K C "went_by"
 n8:bu K C "past"
 n9:bu K C "log"
 n10:bu K C "lost"
 n11:bu K C "doubts"
 n12:bu K C "noted"
 n13:bu K C "wants_out"
 n14:bu K C "wants_in"
end L2
namespace L2
inductive E2 {α0 α1:Sort _} (p:α0->α1->Prop):Prop
 |mk (a0:α0) (a1:α1):p a0 a1->E2 p
inductive A4 (p0 p1 p2 p3:Prop):Prop
 |mk:p0->p1->p2->p3->A4 p0 p1 p2 p3
end L2
namespace L2
open PySem PySem.Spec PyProof.Rows
abbrev nI(K:Ye)(x:Yh)(f:Yc):Prop:=amG K YS x=Ya (Ya (.ref f))
end L2
end
namespace K70
open PySem L2
noncomputable def dZ(i:Nat):YI:=ajx.main.body.getD i (.Pass ⟨0,0,0,0⟩)
noncomputable abbrev wM:YI:=dZ 30
noncomputable abbrev pL:YI:=dZ 31
noncomputable abbrev EL:YI:=dZ 32
noncomputable abbrev wV:YI:=dZ 37
noncomputable abbrev Ej:YI:=dZ 33
noncomputable abbrev pF:YI:=dZ 38
noncomputable abbrev kO:YI:=aO (dZ 41) 0
noncomputable abbrev iE:YI:=aO (dZ 42) 0
noncomputable abbrev xX:YI:=dZ 3
noncomputable abbrev AK:YI:=dZ 45
noncomputable abbrev uF:YI:=dZ 46
noncomputable abbrev lU:YI:=aO (dZ 41) 4
noncomputable abbrev tU:YI:=aO (dZ 41) 5
noncomputable abbrev jq:YI:=aO (dZ 43) 1
noncomputable abbrev qX:YI:=dZ 53
noncomputable abbrev AO:YI:=dZ 54
noncomputable abbrev t8:YI:=aO (dZ 41) 1
noncomputable abbrev uA:YI:=aO (dZ 41) 2
noncomputable abbrev iQ:YI:=aO (dZ 41) 6
noncomputable abbrev gN:YI:=aO (dZ 44) 1
noncomputable abbrev AF:YI:=dZ 51
noncomputable abbrev mO:YI:=dZ 55
noncomputable abbrev kN:YI:=dZ 56
noncomputable abbrev mj:YI:=dZ 57
noncomputable abbrev Vo:YI:=dZ 58
noncomputable abbrev mE:YI:=dZ 59
noncomputable abbrev DE:YI:=dZ 60
noncomputable abbrev oV:YI:=dZ 34
noncomputable abbrev Dm:YI:=dZ 35
noncomputable abbrev EM:YI:=dZ 36
noncomputable abbrev CP:YI:=dZ 6
noncomputable abbrev TH:YI:=dZ 7
noncomputable abbrev xh:YI:=dZ 8
noncomputable abbrev jI:YI:=aO (dZ 49) 0
noncomputable abbrev pq:YI:=aO (dZ 49) 1
noncomputable abbrev pJ:YI:=aO (dZ 49) 4
noncomputable abbrev rh:YI:=aO (dZ 49) 5
noncomputable abbrev oU:YI:=aO (dZ 49) 3
noncomputable abbrev mJ:YI:=aO (dZ 42) 1
noncomputable abbrev jH:YI:=aO (dZ 43) 0
noncomputable abbrev mw:YI:=aO (dZ 44) 0
noncomputable abbrev ux:YI:=aO (dZ 41) 7
noncomputable abbrev Ek:YI:=dZ 62
noncomputable abbrev AN:YI:=dZ 52
noncomputable abbrev Il:YI:=dZ 11
noncomputable abbrev kj:YI:=aO (dZ 63) 0
noncomputable abbrev kz:YI:=aO (dZ 28) 0
noncomputable abbrev iZ:YI:=aO (dZ 63) 1
noncomputable abbrev tW:YI:=aO (dZ 63) 2
noncomputable abbrev jm:YI:=aO (dZ 63) 3
noncomputable abbrev um:YI:=aO (dZ 63) 6
noncomputable abbrev pE:YI:=aO (dZ 63) 7
noncomputable abbrev sS:YI:=aO (dZ 63) 5
noncomputable abbrev ri:YI:=aO (dZ 63) 4
noncomputable abbrev rj:YI:=aO (dZ 63) 14
noncomputable abbrev iR:YI:=aO (dZ 18) 0
noncomputable abbrev pA:YI:=aO (dZ 71) 20
noncomputable abbrev pR:YI:=aO (dZ 71) 25
noncomputable abbrev tY:YI:=aO (dZ 71) 27
noncomputable abbrev lM:YI:=aO (dZ 71) 26
noncomputable abbrev kH:YI:=aO (dZ 71) 8
noncomputable abbrev je:YI:=aO (dZ 71) 9
noncomputable abbrev rD:YI:=aO (dZ 71) 4
noncomputable abbrev rp:YI:=aO (dZ 71) 2
noncomputable abbrev sQ:YI:=aO (dZ 71) 5
noncomputable abbrev kJ:YI:=aO (dZ 71) 21
noncomputable abbrev qT:YI:=aO (dZ 71) 22
noncomputable abbrev sW:YI:=aO (dZ 71) 23
noncomputable abbrev pN:YI:=aO (dZ 71) 24
noncomputable abbrev xQ:YI:=dZ 17
noncomputable abbrev jA:YI:=aO (dZ 18) 6
noncomputable abbrev jD:YI:=aO (dZ 18) 7
noncomputable abbrev jr:YI:=aO (dZ 18) 11
noncomputable abbrev jS:YI:=aO (dZ 71) 15
noncomputable abbrev l8:YI:=aO (dZ 71) 3
noncomputable abbrev rB:YI:=dZ 70
noncomputable abbrev iU:YI:=aO (dZ 71) 11
noncomputable abbrev uO:YI:=aO (dZ 71) 1
noncomputable abbrev rm:YI:=aO (dZ 71) 12
noncomputable abbrev Ab:YI:=dZ 4
noncomputable abbrev Ds:YI:=dZ 5
noncomputable abbrev ku:YI:=aO (dZ 71) 0
noncomputable abbrev mR:YI:=dZ 73
noncomputable abbrev sN:YI:=dZ 74
noncomputable abbrev l9:YI:=dZ 75
noncomputable abbrev qY:YI:=dZ 76
noncomputable abbrev l7:YI:=dZ 77
noncomputable abbrev pB:YI:=dZ 78
noncomputable abbrev uI:YI:=dZ 79
noncomputable abbrev Hb:YI:=dZ 80
def Ji(K:Ye)(P_mk:Yc):Sp:=λvs H Q _=>E2 fun(a:Yc) (ns:List Int)=>vs=[.ref a]/\(A4 (bZ K H a (ns.map V.int)) (ns.length<=63) (H P_mk=Ya (.tbl #[])) (∀H',Q (.bl true) H'))
theorem Wt{K:Ye}{x qual:Yh}{st:YI}{f c:Yc}{oc:Yd}{od an:Option Yc}{osl:Array (Option Yd)}{kV doc pm ct:Yd}(l:K.lookup f=Ya ⟨oc,od,.func (aal x qual (gz st) (du st) (ah st) .none kV doc pm an (.ref c) ct),osl⟩)(h:agq K (.ref c) qual=true):T6 K x qual st f (aal x qual (gz st) (du st) (ah st) .none kV doc pm an (.ref c) ct) c:=⟨⟨oc,od,kV,doc,pm,an,ct,osl,rfl,l,h⟩⟩
theorem afT{l:alG}{q:YU}{loose:List Yh}{XP:(Yh->Option Yd)->YO->Prop}{YP:YZ->YO->Prop}{d:DefRec}{K:Params->Ye}{c P:Yc}(hn:l.most=Ya 63)(hdf:d.params.defaults=[])
  (hY:∀(w:YZ) (h:YO),YP w h->(K w.params).In h/\∀t∈[P],h.get? t=Ya (agW #[])) (hK:∀w:YZ,alh (K w.params) c P=true/\(K w.params).lookup P=Yb)
  (F:∀(w:YZ) (mg:Yh->Option Yd) (fa:Yc) (h:YO),(K w.params).In h->h.Ns YS mg->mg d.name=Ya (.ref fa)->
   ∃fd:Yr,(∀(s:Yi) (u:Yd),ajX s fd ⟨[u],[]⟩ [("_law_script",u)])/\∀base:YO,(K w.params).In base->base.Ns YS mg->Jj base mg->aw l.prog w (K w.params) mg base bo 13 fa fd ["_law_script"] (Ji (K w.params) P)):
  amt q loose XP YP l.row.toRowW d [] (λf vs=>PySem.call f vs):=
 L2.Sm (n:=63) (k:=13) (x:="_law_script") (tabs:=[(c,P)]) (sp:=λw=>Ji (K w.params) P) hn (by decide) hdf ⟨rfl,by decide,by decide⟩ hY (λw q hq=>by rw[Yo.mp hq];exact hK w) F (λ_ _ a ns hl hO hS=>⟨a,ns,rfl,hS,hl,hO.2 P (by simp),λ_=>rfl⟩) λ_ _ _ _ z=>z
def AM:Prop:=∀{l:W.OpenLaw} {w:YZ} {K:W.Frag} {h:YO} {mg:Yh->Option Yd} {fa f_0 f_1 f_2 f_3 f_4 f_5 f_6 f_7 f_8 f_9 f_10 f_11 f_12 f_13 f_14 f_15 f_16 f_17 f_18 f_19 f_20 f_21 f_22 f_23 f_24 f_25 f_26 f_27 f_28 f_29 f_30 f_31 f_32 f_33 f_34 f_35 f_36 f_37 f_38 f_39 f_40 f_41 f_42 f_43 f_44 f_45 f_46 f_47 f_48 f_49 f_50 f_51 f_52 f_53 f_54 f_55 f_56 f_57 f_58 f_59 f_60 f_61 f_62 f_63 f_64 f_65 f_66 f_67 f_68 f_69 f_70 f_71 f_72 f_73 f_74 f_75 f_76 f_77 f_78 f_79 f_80 f_81 f_82 f_83 f_84 f_85 f_86 f_87 f_88 f_89 uk d9 aU bj eR bJ bK dC aV bL cg aZ aY bp yD UN Jf yU vb Cz IT aK NH P_mk:Yc} {d_0 d_1 d_2 d_3 d_4 d_5 d_6 d_7 d_8 d_9 d_10 d_11 d_12 d_13 d_14 d_15 d_16 d_17 d_18 d_19 d_20 d_21 d_22 d_23 d_24 d_25 d_26 d_27 d_28 d_29 d_30 d_31 d_32 d_33 d_34 d_35 d_36 d_37 d_38 d_39 d_40 d_41 d_42 d_43 d_44 d_45 d_46 d_47 d_48 d_49 d_50 d_51 d_52 d_53 d_54 d_55 d_56 d_57 d_58 d_59 d_60 d_61 d_62 d_63 d_64 d_65 d_66 d_67 d_68 d_69 d_70 d_71 d_72 d_73 d_74 d_75 d_76 d_77 d_78 d_79 d_80 d_81 d_82 d_83 d_84 d_85 d_86 d_87 d_88 d_89:Yr} (X:K.In h) (G:h.Ns YS mg) (hfa:mg "law"=Ya (.ref fa))
  {gP:agl} {eN df:agl} {vw vN:Yh} {vI jZ we:List Yd} {v8 wa:Bool} {wx:List Yh} {vC:Option Bool} {vm:Option Yc} {vS vR wB wj vO:Option Yd} {vA:String} {Ol N3:Yh} {PN lB OM:List Yd} {CF Qd:Bool} {Oo:List Yh} {Oa:Option Bool} {OH:Option Yc} {PY Pk Ob PQ N4:Option Yd} {Hy:String} {OZ Pj:Yh} {Pb zJ Qf:List Yd} {OA N7:Bool} {O5:List Yh} {OG:Option Bool} {Qa:Option Yc} {OU Od P7 PM OV:Option Yd} {IU:String} {GI Hr:Yh} {Gb qd Gi:List Yd} {GQ Ho:Bool} {F4:List Yh} {Gh:Option Bool} {GC:Option Yc} {Ge Ht G5 F3 G6:Option Yd} {Ae:String} {DO Fp:Yh} {Eo mI ET:List Yd} {En DD:Bool} {Fe:List Yh} {EC:Option Bool} {Fv:Option Yc} {EX EK Ef Fm CQ:Option Yd} {xK:String} {JC Kq:Yh} {Kj uW J6:List Yd} {L6 L4:Bool} {Mb:List Yh} {Mc:Option Bool} {LM:Option Yc} {LD Lp JL Lj JY:Option Yd} {Et:String} {nK:Nat} {t1K t2K t3K:agl} {tk_LAST_HAND:agl}
  (a_0:nI K "count_of" f_0)
  (a_1:nI K "hands_among" f_1)
  (a_2:nI K "covers" f_2)
  (a_3:nI K "unpacked" f_3)
  (a_4:nI K "joined" f_4)
  (a_5:nI K "covers_name" f_5)
  (a_8:nI K "is_whole" f_8)
  (a_9:nI K "is_word" f_9)
  (a_10:nI K "make_call" f_10)
  (a_14:nI K "first_open" f_14)
  (a_15:nI K "name_at" f_15)
  (a_20:nI K "rank_of" f_20)
  (a_21:nI K "can_be_taken" f_21)
  (a_22:nI K "first_to_take" f_22)
  (a_23:nI K "callers_from" f_23)
  (a_24:nI K "run" f_24)
  (a_25:nI K "least_asking" f_25)
  (a_26:nI K "placed" f_26)
  (a_27:nI K "least_count" f_27)
  (a_28:nI K "common" f_28)
  (a_29:nI K "packed" f_29)
  (a_30:nI K "bit_of" f_30)
  (a_31:nI K "has" f_31)
  (a_32:nI K "hands_of" f_32)
  (a_42:nI K "why_of" f_42)
  (a_43:nI K "by_rank" f_43)
  (a_44:nI K "least" f_44)
  (a_69:nI K "own_copy" f_69)
  (a_75:nI K "take_event" f_75)
  (a_79:nI K "is_hand" f_79)
  (a_80:nI K "is_set" f_80)
  (a_82:nI K "_law_cell_at" f_82)
  (a_83:nI K "_law_made" f_83)
  (a_84:nI K "_law_refused" f_84)
  (a_85:nI K "_law_group" f_85)
  (a_86:nI K "_law_outside" f_86)
  (a_87:nI K "_law_inside" f_87)
  (a_88:nI K "_law_room" f_88)
  (a_89:nI K "law" f_89)
  (Ua:nI K "Call" uk)
  (JR:nI K "Change" d9)
  (Tf:nI K "Hand" aU)
  (BH:nI K "HeardCall" bj)
  (Ph:nI K "Known" eR)
  (Gn:nI K "OneCall" bJ)
  (Hm:nI K "OwnCall" bK)
  (VG:nI K "Page" dC)
  (zP:W.nsIn K YS "GroupError"=Ya (Ya (.ref aV)))
  (SO:W.nsIn K YS "Held"=Ya (Ya (.ref bL)))
  (VJ:W.nsIn K YS "IsIn"=Ya (Ya (.ref cg)))
  (La:W.nsIn K YS "NoHand"=Ya (Ya (.ref aZ)))
  (GW:W.nsIn K YS "NoHands"=Ya (Ya (.ref aY)))
  (PR:W.nsIn K YS "NotIn"=Ya (Ya (.ref bp)))
  (Gw:W.nsIn K YS "KINDS"=Ya (Ya (.ref aK)))
  (vH:W.nsIn K YS "LAST_HAND"=Ya (Ya (.int 62 tk_LAST_HAND)))
  (yb:W.nsIn K YS "ValueError"=Ya Yb)
  (aaz:W.nsIn K YS "abs"=Ya Yb)
  (aaD:W.nsIn K YS "all"=Ya Yb)
  (SJ:W.nsIn K YS "bool"=Ya Yb)
  (Se:W.nsIn K YS "dict"=Ya Yb)
  (X8:W.nsIn K YS "int"=Ya Yb)
  (yV:W.nsIn K YS "isinstance"=Ya Yb)
  (aap:W.nsIn K YS "len"=Ya Yb)
  (SR:W.nsIn K YS "list"=Ya Yb)
  (X7:W.nsIn K YS "max"=Ya Yb)
  (aaj:W.nsIn K YS "min"=Ya Yb)
  (OK:W.nsIn K YS "range"=Ya Yb)
  (aac:W.nsIn K YS "set"=Ya Yb)
  (KO:W.nsIn K YS "sorted"=Ya Yb)
  (N5:W.nsIn K YS "tuple"=Ya Yb)
  (eM:aX K d9 "gathers" f_70)
  (eG:aX K d9 "propose" f_71)
  (d7:aX K d9 "settled" f_72)
  (eI:aX K aU "book" f_58)
  (dD:aX K aU "call" f_77)
  (bX:aX K aU "check_free" f_61)
  (cH:aX K aU "check_in" f_60)
  (iO:aX K aU "come" f_64)
  (ig:aX K aU "enter" f_78)
  (bQ:aX K aU "events" f_56)
  (i4:aX K aU "kept" f_67)
  (ik:aX K aU "leave" f_62)
  (dN:aX K aU "note_taken" f_76)
  (gW:aX K aU "places" f_68)
  (hW:aX K aU "renew" f_63)
  (gS:aX K aU "settle" f_73)
  (cc:aX K aU "standing" f_65)
  (bO:aX K aU "stopped" f_59)
  (c7:aX K aU "strays" f_57)
  (cN:aX K aU "suspect" f_74)
  (dF:aX K aU "taken" f_66)
  (aT:aX K bj "asks_place" f_18)
  (cz:aX K bj "free" f_13)
  (cX:aX K bj "in_turn" f_11)
  (eA:aX K bj "kind" f_39)
  (bE:aX K bj "name" f_16)
  (eu:aX K bj "rank" f_17)
  (eh:aX K bj "told" f_41)
  (de:aX K eR "floor" f_37)
  (eX:aX K eR "learn" f_34)
  (gG:aX K eR "reach" f_35)
  (hU:aX K eR "sure" f_36)
  (bf:aX K bJ "asks_place" f_19)
  (cP:aX K bJ "free" f_13)
  (dX:aX K bJ "in_turn" f_11)
  (fT:aX K bJ "kind" f_40)
  (bP:aX K bJ "name" f_16)
  (fP:aX K bJ "rank" f_17)
  (fN:aX K bJ "told" f_41)
  (bc:aX K bK "asks_place" f_18)
  (cQ:aX K bK "free" f_12)
  (dR:aX K bK "in_turn" f_11)
  (fO:aX K bK "kind" f_38)
  (bN:aX K bK "name" f_16)
  (fS:aX K bK "rank" f_17)
  (fL:aX K bK "told" f_41)
  (dO:aX K dC "check_room" f_47)
  (jb:aX K dC "keep" f_48)
  (dQ:aX K dC "kept_calls" f_49)
  (gV:aX K dC "let_go" f_51)
  (i8:aX K dC "step" f_52)
  (ja:aX K dC "take" f_50)
  (ip:aX K dC "taken" f_54)
  (hV:aX K dC "utter" f_53)
  (ui:Mk K d9 f_55)
  (iT:Mk K aU f_81)
  (j7:Mk K bj f_6)
  (va:Mk K eR f_33)
  (qe:Mk K bJ f_6)
  (qf:Mk K bK f_7)
  (Ei:Mk K dC f_45)
  (OQ:W.findIn K (.ref bL) "__init__"=Ya (Ya (.ref f_46)))
  (eZ:UB K uk "__init__" f_6)
  (F_0:bx K "count_of" "count_of" wM f_0 d_0)
  (F_1:bx K "hands_among" "hands_among" pL f_1 d_1)
  (F_2:bx K "covers" "covers" EL f_2 d_2)
  (F_3:bx K "unpacked" "unpacked" wV f_3 d_3)
  (F_4:bx K "joined" "joined" Ej f_4 d_4)
  (F_5:bx K "covers_name" "covers_name" pF f_5 d_5)
  (F_6:bx K "__init__" "Call.__init__" kO f_6 d_6)
  (F_7:bx K "__init__" "OwnCall.__init__" iE f_7 d_7)
  (F_8:bx K "is_whole" "is_whole" xX f_8 d_8)
  (F_9:bx K "is_word" "is_word" AK f_9 d_9)
  (F_10:bx K "make_call" "make_call" uF f_10 d_10)
  (F_11:bx K "in_turn" "Call.in_turn" lU f_11 d_11)
  (F_12:bx K "free" "Call.free" tU f_12 d_12)
  (F_13:bx K "free" "HeardCall.free" jq f_13 d_13)
  (F_14:bx K "first_open" "first_open" qX f_14 d_14)
  (F_15:bx K "name_at" "name_at" AO f_15 d_15)
  (F_16:bx K "name" "Call.name" t8 f_16 d_16)
  (F_17:bx K "rank" "Call.rank" uA f_17 d_17)
  (F_18:bx K "asks_place" "Call.asks_place" iQ f_18 d_18)
  (F_19:bx K "asks_place" "OneCall.asks_place" gN f_19 d_19)
  (F_20:bx K "rank_of" "rank_of" AF f_20 d_20)
  (F_21:bx K "can_be_taken" "can_be_taken" mO f_21 d_21)
  (F_22:bx K "first_to_take" "first_to_take" kN f_22 d_22)
  (F_23:bx K "callers_from" "callers_from" mj f_23 d_23)
  (F_24:bx K "run" "run" Vo f_24 d_24)
  (F_25:bx K "least_asking" "least_asking" mE f_25 d_25)
  (F_26:bx K "placed" "placed" DE f_26 d_26)
  (F_27:bx K "least_count" "least_count" oV f_27 d_27)
  (F_28:bx K "common" "common" Dm f_28 d_28)
  (F_29:bx K "packed" "packed" EM f_29 d_29)
  (F_30:bx K "bit_of" "bit_of" CP f_30 d_30)
  (F_31:bx K "has" "has" TH f_31 d_31)
  (F_32:bx K "hands_of" "hands_of" xh f_32 d_32)
  (F_33:bx K "__init__" "Known.__init__" jI f_33 d_33)
  (F_34:bx K "learn" "Known.learn" pq f_34 d_34)
  (F_35:bx K "reach" "Known.reach" pJ f_35 d_35)
  (F_36:bx K "sure" "Known.sure" rh f_36 d_36)
  (F_37:bx K "floor" "Known.floor" oU f_37 d_37)
  (F_38:bx K "kind" "OwnCall.kind" mJ f_38 d_38)
  (F_39:bx K "kind" "HeardCall.kind" jH f_39 d_39)
  (F_40:bx K "kind" "OneCall.kind" mw f_40 d_40)
  (F_41:bx K "told" "Call.told" ux f_41 d_41)
  (F_42:bx K "why_of" "why_of" Ek f_42 d_42)
  (F_43:bx K "by_rank" "by_rank" AN f_43 d_43)
  (F_44:bx K "least" "least" Il f_44 d_44)
  (F_45:bx K "__init__" "Page.__init__" kj f_45 d_45)
  (F_46:bx K "__init__" "Held.__init__" kz f_46 d_46)
  (F_47:bx K "check_room" "Page.check_room" iZ f_47 d_47)
  (F_48:bx K "keep" "Page.keep" tW f_48 d_48)
  (F_49:bx K "kept_calls" "Page.kept_calls" jm f_49 d_49)
  (F_50:bx K "take" "Page.take" um f_50 d_50)
  (F_51:bx K "let_go" "Page.let_go" pE f_51 d_51)
  (F_52:bx K "step" "Page.step" sS f_52 d_52)
  (F_53:bx K "utter" "Page.utter" ri f_53 d_53)
  (F_54:bx K "taken" "Page.taken" rj f_54 d_54)
  (F_55:bx K "__init__" "Change.__init__" iR f_55 d_55)
  (F_56:bx K "events" "Hand.events" pA f_56 d_56)
  (F_57:bx K "strays" "Hand.strays" pR f_57 d_57)
  (F_58:bx K "book" "Hand.book" tY f_58 d_58)
  (F_59:bx K "stopped" "Hand.stopped" lM f_59 d_59)
  (F_60:bx K "check_in" "Hand.check_in" kH f_60 d_60)
  (F_61:bx K "check_free" "Hand.check_free" je f_61 d_61)
  (F_62:bx K "leave" "Hand.leave" rD f_62 d_62)
  (F_63:IG K "renew" "Hand.renew" rp f_63 d_63 [.int 1 gP])
  (F_64:bx K "come" "Hand.come" sQ f_64 d_64)
  (F_65:bx K "standing" "Hand.standing" kJ f_65 d_65)
  (F_66:bx K "taken" "Hand.taken" qT f_66 d_66)
  (F_67:bx K "kept" "Hand.kept" sW f_67 d_67)
  (F_68:bx K "places" "Hand.places" pN f_68 d_68)
  (F_69:bx K "own_copy" "own_copy" xQ f_69 d_69)
  (F_70:bx K "gathers" "Change.gathers" jA f_70 d_70)
  (F_71:bx K "propose" "Change.propose" jD f_71 d_71)
  (F_72:bx K "settled" "Change.settled" jr f_72 d_72)
  (F_73:bx K "settle" "Hand.settle" jS f_73 d_73)
  (F_74:bx K "suspect" "Hand.suspect" l8 f_74 d_74)
  (F_75:bx K "take_event" "take_event" rB f_75 d_75)
  (F_76:bx K "note_taken" "Hand.note_taken" iU f_76 d_76)
  (F_77:bx K "call" "Hand.call" uO f_77 d_77)
  (F_78:bx K "enter" "Hand.enter" rm f_78 d_78)
  (F_79:bx K "is_hand" "is_hand" Ab f_79 d_79)
  (F_80:bx K "is_set" "is_set" Ds f_80 d_80)
  (F_81:IG K "__init__" "Hand.__init__" ku f_81 d_81 [.int 1 eN,.int 8 df])
  (F_82:bx K "_law_cell_at" "_law_cell_at" mR f_82 d_82)
  (F_83:bx K "_law_made" "_law_made" sN f_83 d_83)
  (F_84:bx K "_law_refused" "_law_refused" l9 f_84 d_84)
  (F_85:bx K "_law_group" "_law_group" qY f_85 d_85)
  (F_86:bx K "_law_outside" "_law_outside" l7 f_86 d_86)
  (F_87:bx K "_law_inside" "_law_inside" pB f_87 d_87)
  (F_88:bx K "_law_room" "_law_room" uI f_88 d_88)
  (F_89:bx K "law" "law" Hb f_89 d_89)
  (vv:K.lookup aV=Ya (af6 vw vN aV yD vI jZ v8 wx we wa vC vm vS vR wB wj vO vA))
  (Ig:K.lookup bL=Ya (af6 Ol N3 bL UN PN lB CF Oo OM Qd Oa OH PY Pk Ob PQ N4 Hy))
  (Pf:K.lookup cg=Ya (af6 OZ Pj cg Jf Pb zJ OA O5 Qf N7 OG Qa OU Od P7 PM OV IU))
  (Gd:K.lookup aZ=Ya (af6 GI Hr aZ yU Gb qd GQ F4 Gi Ho Gh GC Ge Ht G5 F3 G6 Ae))
  (C9:K.lookup aY=Ya (af6 DO Fp aY vb Eo mI En Fe ET DD EC Fv EX EK Ef Fm CQ xK))
  (Kb:K.lookup bp=Ya (af6 JC Kq bp Cz Kj uW L6 Mb J6 L4 Mc LM LD Lp JL Lj JY Et))
  (Ih:kT K uk)
  (bU:Jl K d9)
  (aA:OX K aU)
  (av:kT K bj)
  (bz:NI K eR)
  (aB:kT K bJ)
  (aC:kT K bK)
  (bD:GN K dC)
  (OT:W.tailIn K [.type "ValueError",.type "Exception",.type "BaseException",.type "object"] zJ=true)
  (xq_IsIn:W.nsOkIn K Jf=true)
  (xz_IsIn:W.nsIn K Jf "__init__"=Ya Yb)
  (O9:IU="ValueError.__new__")
  (Gj:W.tailIn K [.type "ValueError",.type "Exception",.type "BaseException",.type "object"] qd=true)
  (xq_NoHand:W.nsOkIn K yU=true)
  (xz_NoHand:W.nsIn K yU "__init__"=Ya Yb)
  (GA:Ae="ValueError.__new__")
  (Dx:W.tailIn K [.type "ValueError",.type "Exception",.type "BaseException",.type "object"] mI=true)
  (xq_NoHands:W.nsOkIn K vb=true)
  (xz_NoHands:W.nsIn K vb "__init__"=Ya Yb)
  (DZ:xK="ValueError.__new__")
  (LR:W.tailIn K [.type "ValueError",.type "Exception",.type "BaseException",.type "object"] uW=true)
  (xq_NotIn:W.nsOkIn K Cz=true)
  (xz_NotIn:W.nsIn K Cz "__init__"=Ya Yb)
  (Mi:Et="ValueError.__new__")
  (P0:W.tailIn K [.type "ValueError",.type "Exception",.type "BaseException",.type "object"] lB=true)
  (O7:Hy="ValueError.__new__")
  (O3:W.typeIn K (.ref f_46)=Ya (.type "function"))
  (Oq:W.mroIn K bL (.ref bL)=Ya true)
  (OS:W.keepIn K (.ref bL)=true)
  (Km:W.findIn K (.ref bL) "__setattr__"=Ya (Ya (.builtin "object.__setattr__")))
  (KP:W.mroIn K bL (.type "object")=Ya true)
  (Jz:CF=true)
  (OP:lB=[Yv IT,.type "ValueError",.type "Exception",.type "BaseException",.type "object"])
  (JT:lB.contains (xi "BaseException")=true)
  (eE:W.findIn K (.ref bL) "many"=Ya Yb)
  (eF:W.findIn K (.ref bL) "room"=Ya Yb)
  (mb_GroupError_GroupError:jZ.contains (xi "BaseException")=true)
  (mc_GroupError_GroupError:(Yv aV::jZ).contains (Yv aV)=true)
  (mb_Held_Held:lB.contains (xi "BaseException")=true)
  (mc_Held_Held:(Yv bL::lB).contains (Yv bL)=true)
  (mb_IsIn_GroupError:zJ.contains (xi "BaseException")=true)
  (mc_IsIn_GroupError:(Yv cg::zJ).contains (Yv aV)=true)
  (mb_NoHand_GroupError:qd.contains (xi "BaseException")=true)
  (mc_NoHand_GroupError:(Yv aZ::qd).contains (Yv aV)=true)
  (mb_NoHands_GroupError:mI.contains (xi "BaseException")=true)
  (mc_NoHands_GroupError:(Yv aY::mI).contains (Yv aV)=true)
  (mb_NotIn_GroupError:uW.contains (xi "BaseException")=true)
  (mc_NotIn_GroupError:(Yv bp::uW).contains (Yv aV)=true)
  (GY:W.specialIn K (.builtin "object.__class__") "__get__"=Ya (Ya (.builtin "getset_descriptor.__get__")))
  (F9:W.takesIn K (.builtin "object.__class__")=Ya true)
  (xg_Held:W.findIn K (.ref bL) "__getattribute__"=Ya (Ya (.builtin "BaseException.__getattribute__")))
  (xn_Held:W.findIn K (.ref bL) "__getattr__"=Ya Yb)
  (xcc_Held:W.findIn K (.ref bL) "__class__"=Ya (Ya (.builtin "object.__class__")))
  (xo_Held:W.mroIn K bL (.type "object")=Ya true)
  (xb_Held:W.mroIn K bL (.type "BaseException")=Ya true)
  (xk_Held:W.hasDictIn K bL=true)
  (xg_IsIn:W.findIn K (.ref cg) "__getattribute__"=Ya (Ya (.builtin "BaseException.__getattribute__")))
  (xn_IsIn:W.findIn K (.ref cg) "__getattr__"=Ya Yb)
  (xcc_IsIn:W.findIn K (.ref cg) "__class__"=Ya (Ya (.builtin "object.__class__")))
  (xo_IsIn:W.mroIn K cg (.type "object")=Ya true)
  (xb_IsIn:W.mroIn K cg (.type "BaseException")=Ya true)
  (xk_IsIn:W.hasDictIn K cg=true)
  (xg_NoHand:W.findIn K (.ref aZ) "__getattribute__"=Ya (Ya (.builtin "BaseException.__getattribute__")))
  (xn_NoHand:W.findIn K (.ref aZ) "__getattr__"=Ya Yb)
  (xcc_NoHand:W.findIn K (.ref aZ) "__class__"=Ya (Ya (.builtin "object.__class__")))
  (xo_NoHand:W.mroIn K aZ (.type "object")=Ya true)
  (xb_NoHand:W.mroIn K aZ (.type "BaseException")=Ya true)
  (xk_NoHand:W.hasDictIn K aZ=true)
  (xg_NoHands:W.findIn K (.ref aY) "__getattribute__"=Ya (Ya (.builtin "BaseException.__getattribute__")))
  (xn_NoHands:W.findIn K (.ref aY) "__getattr__"=Ya Yb)
  (xcc_NoHands:W.findIn K (.ref aY) "__class__"=Ya (Ya (.builtin "object.__class__")))
  (xo_NoHands:W.mroIn K aY (.type "object")=Ya true)
  (xb_NoHands:W.mroIn K aY (.type "BaseException")=Ya true)
  (xk_NoHands:W.hasDictIn K aY=true)
  (xg_NotIn:W.findIn K (.ref bp) "__getattribute__"=Ya (Ya (.builtin "BaseException.__getattribute__")))
  (xn_NotIn:W.findIn K (.ref bp) "__getattr__"=Ya Yb)
  (xcc_NotIn:W.findIn K (.ref bp) "__class__"=Ya (Ya (.builtin "object.__class__")))
  (xo_NotIn:W.mroIn K bp (.type "object")=Ya true)
  (xb_NotIn:W.mroIn K bp (.type "BaseException")=Ya true)
  (xk_NotIn:W.hasDictIn K bp=true)
  (jk:W.kitOne K (.ref cg) (.ref cg)=Ya true)
  (gK:W.kitOne K (.ref cg) (.ref aZ)=Ya false)
  (hZ:W.kitOne K (.ref cg) (.ref bp)=Ya false)
  (dP:W.kitOne K (.ref cg) (.type "ValueError")=Ya true)
  (fi:W.kitOne K (.ref aZ) (.ref aZ)=Ya true)
  (ed:W.kitOne K (.ref aZ) (.ref aY)=Ya false)
  (fK:W.kitOne K (.ref aZ) (.ref bp)=Ya false)
  (cZ:W.kitOne K (.ref aZ) (.type "ValueError")=Ya true)
  (eD:W.kitOne K (.ref aY) (.ref aZ)=Ya false)
  (dS:W.kitOne K (.ref aY) (.ref aY)=Ya true)
  (fg:W.kitOne K (.ref aY) (.ref bp)=Ya false)
  (cU:W.kitOne K (.ref aY) (.type "ValueError")=Ya true)
  (ie:W.kitOne K (.ref bp) (.ref cg)=Ya false)
  (fR:W.kitOne K (.ref bp) (.ref aZ)=Ya false)
  (gU:W.kitOne K (.ref bp) (.ref bp)=Ya true)
  (dA:W.kitOne K (.ref bp) (.type "ValueError")=Ya true)
  (J5:K.lookup aK=Ya ⟨.type "tuple",Yb,.seq #[.str "own" t1K,.str "heard" t2K,.str "one" t3K] nK,#[]⟩)
  (FC:T6 K "settle" "Hand.settle" jS f_73 d_73 NH)
  (hcd:W.codeHdIn K NH P_mk=true),
  ∃fd:Yr,(∀(s:Yi) (v:Yd),ajX s fd ⟨[v],[]⟩ [("_law_script",v)])/\∀base:YO,K.In base->base.Ns YS mg->Jj base mg->aw l.prog w K mg base bo 13 fa fd ["_law_script"] (Ji K P_mk)
end K70
def Zq.D(_:K70.AM)(p:Prop):Prop:=p
theorem Zq.dep(h:K70.AM){p:Prop}(x:Zq.D h p):p:=x
theorem Zq.un{h:K70.AM}{p:Prop}(x:p):Zq.D h p:=x
section
open Lean in
local macro_rules | `(#synth $f $k*) => return mkNullNode (← k.mapM λi => `(def $(mkIdent (.mkSimple s!"tw{(`PySem.Challenge.hd_K70 ++ .mkSimple s!"{f.raw.getId}_{i.raw.toNat}").hash}")) := Nat))
namespace PySem.W.Fast
#synth heap 39 46 1477
#synth tree 47 132 153 249 264 279 294 309 324 339 354 376 427 452 531 560 589 639 707 780 906 988 1024 1237 1324 1415 1476
#synth view 39
#synth sts 49 133 154 250 265 280 295 310 325 340 355 377 428 453 532 561 590 640 708 781 992 1025 1419
#synth o 43 45 46 49 51 53 54 55 56 57 58 60 61 62 63 64 65 67 68 69 70 71 72 74 75 76 77 78 79 81 82 83 84 85 86 88 89 90 91 92 93 95 96 97 98 100 101 102 103 104 105 107 108 109 110 111 112 114 115 116 117 118 119 121 122 123 124 125 126 128 129 130 131 132 133 135 137 138 139 140 141 142 144 145 146 147 148 149 151 152 153 154 156 157 158 159 161 162 163 165 166 167 168 169 170 172 173 174 175 176 177 179 180 181 182 183 184 186 187 188 189 190 191 193 194 195 196 197 198 200 201 202 203 204 205 207 208 209 210 211 212 214 215 216 217 219 220 221 222 223 224 226 227 228 229 231 232 233 234 235 236 238 239 240 241 242 243 244 245 246 247 248 249 250 252 253 254 255 257 258 259 260 261 262 263 264 265 267 268 269 270 271 273 274 275 276 277 278 279 280 282 283 284 285 286 288 289 290 291 292 293 294 295 297 298 299 300 301 303 304 305 306 307 308 309 310 312 313 314 315 316 318 319 320 321 322 323 324 325 327 328 329 330 331 333 334 335 336 337 338 339 340 342 343 344 345 346 348 349 350 351 352 353 354 355 357 358 359 360 361 363 364 365 367 368 369 370 371 372 373 374 375 376 377 379 380 381 382 383 385 386 387 389 390 391 392 393 394 395 396 397 398 399 401 402 403 404 405 406 408 409 410 411 412 413 415 416 417 418 420 421 422 423 425 426 427 428 430 432 433 434 435 437 438 439 440 442 443 444 445 447 448 449 450 451 452 453 455 456 457 458 460 461 462 464 465 466 467 468 469 471 472 473 474 475 476 478 479 480 481 482 483 485 486 487 488 489 490 492 493 494 495 496 497 499 500 501 502 503 504 506 507 508 509 510 511 513 514 515 516 517 518 520 521 522 523 524 525 526 527 528 529 530 531 532 534 535 536 537 538 540 541 542 544 545 546 547 548 549 551 552 553 554 555 556 557 558 559 560 561 563 564 565 566 567 569 570 571 573 574 575 576 577 578 580 581 582 583 584 585 586 587 588 589 590 592 593 594 595 596 598 599 600 602 603 604 605 606 607 609 610 611 612 613 614 615 616 617 618 619 621 622 623 624 625 626 628 629 630 631 632 633 635 636 637 638 639 640 642 643 644 645 647 648 649 651 652 653 654 656 657 658 659 660 661 663 664 665 666 667 668 670 671 672 673 674 675 677 678 679 680 682 683 684 685 686 687 689 690 691 692 693 694 696 697 698 699 700 701 702 703 704 705 706 707 708 710 712 713 714 715 716 717 719 720 721 722 723 724 726 727 728 729 730 731 733 734 735 736 737 738 740 741 742 743 744 745 747 748 749 750 751 752 754 755 756 757 759 760 761 762 764 765 766 767 769 770 771 772 773 774 776 777 778 779 780 781 783 784 785 786 788 789 790 792 793 794 795 796 797 799 800 801 802 803 804 806 807 808 809 810 811 813 814 815 816 817 818 820 821 822 823 824 825 827 828 829 830 832 833 834 835 836 837 839 840 841 842 843 845 846 847 848 849 850 852 853 854 855 856 857 859 860 861 862 863 864 866 867 868 869 871 872 873 874 876 877 878 879 881 882 883 884 885 886 888 889 890 891 892 893 895 896 897 898 899 900 901 902 903 904 905 906 908 909 910 911 913 914 915 917 918 919 920 921 922 924 925 926 927 928 929 931 932 933 934 935 936 938 939 940 941 942 943 945 946 947 948 949 950 952 953 954 955 957 958 959 960 961 962 964 965 966 967 968 970 971 972 973 974 975 977 978 979 980 981 982 984 985 986 987 988 992 994 996 997 998 999 1000 1001 1003 1004 1005 1006 1008 1009 1010 1011 1012 1013 1015 1016 1017 1018 1020 1021 1022 1023 1024 1025 1027 1028 1029 1030 1032 1033 1034 1035 1037 1038 1039 1040 1041 1042 1044 1045 1046 1047 1048 1049 1050 1052 1053 1054 1055 1056 1057 1059 1060 1061 1062 1063 1064 1066 1067 1068 1069 1070 1071 1073 1074 1075 1076 1077 1078 1079 1081 1082 1083 1084 1085 1086 1088 1089 1090 1091 1092 1093 1095 1096 1097 1098 1099 1100 1102 1103 1104 1105 1106 1107 1109 1110 1111 1112 1113 1114 1116 1117 1118 1119 1121 1122 1123 1124 1125 1126 1128 1129 1130 1131 1132 1133 1135 1136 1137 1138 1139 1140 1142 1143 1144 1145 1146 1147 1149 1150 1151 1152 1153 1154 1156 1157 1158 1159 1160 1161 1163 1164 1165 1166 1167 1168 1170 1171 1172 1173 1174 1175 1177 1178 1179 1180 1181 1182 1184 1185 1186 1187 1188 1189 1191 1192 1193 1194 1195 1196 1198 1199 1200 1201 1202 1203 1205 1206 1207 1208 1209 1210 1212 1213 1214 1215 1216 1217 1219 1220 1221 1222 1223 1224 1226 1227 1228 1229 1230 1231 1232 1233 1234 1235 1236 1237 1239 1240 1241 1242 1244 1245 1246 1247 1249 1250 1251 1252 1253 1254 1256 1257 1258 1259 1260 1261 1262 1264 1265 1266 1267 1268 1269 1271 1272 1273 1274 1275 1276 1278 1279 1280 1281 1282 1283 1285 1286 1287 1288 1289 1290 1291 1293 1294 1295 1296 1297 1298 1300 1301 1302 1303 1304 1305 1307 1308 1309 1310 1311 1312 1314 1315 1316 1317 1318 1319 1321 1322 1323 1324 1325 1327 1328 1330 1331 1332 1333 1335 1336 1337 1338 1339 1340 1342 1343 1344 1345 1346 1347 1349 1350 1351 1352 1353 1354 1356 1357 1358 1359 1360 1361 1363 1364 1365 1366 1367 1368 1370 1371 1372 1373 1374 1375 1377 1378 1379 1380 1381 1382 1384 1385 1386 1387 1388 1389 1391 1392 1393 1394 1395 1396 1398 1399 1400 1401 1402 1403 1405 1406 1407 1408 1409 1410 1412 1413 1414 1415 1419 1421 1423 1424 1425 1426 1427 1428 1430 1431 1432 1433 1434 1435 1437 1438 1439 1440 1441 1442 1444 1445 1446 1447 1448 1449 1451 1452 1453 1454 1455 1456 1458 1459 1460 1461 1462 1463 1465 1466 1467 1468 1469 1470 1472 1473 1474 1475 1476
#synth env 41
def tw12778264110043073331:=Nat
end PySem.W.Fast
end
section
set_option hygiene false in
local macro_rules|`(tactic|first|refine $t|fail $m)=>`(tactic|(refine $t;rotate_right;refine Zq.dep (by assumption) ?_;rotate_left))
open PySem PySem.W PyProof.Rows
set_option maxRecDepth 100000 in
set_option maxHeartbeats 0 in
theorem PySem.Challenge.hd_K70(hAllMk:K70.AM):agE.Holds:=by
 w_on;o_law;k_head;(case hw=>w_witness2)
 refine Zq.un ?_
 k_fill
 refine K70.afT (l:=agE) (c:=971) (P:=967) rfl rfl (λw h Y=>⟨PySem.W.km_in_of Y,PySem.W.km_tabs_of Y⟩) ?H ?F
 case H=>
  intro w;refine⟨?_,?_⟩
  ·first|k_is|kernel_rfl|rfl
  ·first|k_is|kernel_rfl|rfl
 case F=>
  intro w mg fa h KX G hmg;refine'(by assumption:K70.AM) KX G hmg ?h0 ?h1 ?h2 ?h3 ?h4 ?h5 ?h6 ?h7 ?h8 ?h9 ?h10 ?h11 ?h12 ?h13 ?h14 ?h15 ?h16 ?h17 ?h18 ?h19 ?h20 ?h21 ?h22 ?h23 ?h24 ?h25 ?h26 ?h27 ?h28 ?h29 ?h30 ?h31 ?h32 ?h33 ?h34 ?h35 ?h36 ?h37 ?h38 ?h39 ?h40 ?h41 ?h42 ?h43 ?h44 ?h45 ?h46 ?h47 ?h48 ?h49 ?h50 ?h51 ?h52 ?h53 ?h54 ?h55 ?h56 ?h57 ?h58 ?h59 ?h60 ?h61 ?h62 ?h63 ?h64 ?h65 ?h66 ?h67 ?h68 ?h69 ?h70 ?h71 ?h72 ?h73 ?h74 ?h75 ?h76 ?h77 ?h78 ?h79 ?h80 ?h81 ?h82 ?h83 ?h84 ?h85 ?h86 ?h87 ?h88 ?h89 ?h90 ?h91 ?h92 ?h93 ?h94 ?h95 ?h96 ?h97 ?h98 ?h99 ?h100 ?h101 ?h102 ?h103 ?h104 ?h105 ?h106 ?h107 ?h108 ?h109 ?h110 ?h111 ?h112 ?h113 ?h114 ?h115 ?h116 ?h117 ?h118 ?h119 ?h120 ?h121 ?h122 ?h123 ?h124 ?h125 ?h126 ?h127 ?h128 ?h129 ?h130 ?h131 ?h132 ?h133 ?h134 ?h135 ?h136 ?h137 ?h138 ?h139 ?h140 ?h141 ?h142 ?h143 ?h144 ?h145 ?h146 ?h147 ?h148 ?h149 ?h150 ?h151 ?h152 ?h153 ?h154 ?h155 ?h156 ?h157 ?h158 ?h159 ?h160 ?h161 ?h162 ?h163 ?h164 ?h165 ?h166 ?h167 ?h168 ?h169 ?h170 ?h171 ?h172 ?h173 ?h174 ?h175 ?h176 ?h177 ?h178 ?h179 ?h180 ?h181 ?h182 ?h183 ?h184 ?h185 ?h186 ?h187 ?h188 ?h189 ?h190 ?h191 ?h192 ?h193 ?h194 ?h195 ?h196 ?h197 ?h198 ?h199 ?h200 ?h201 ?h202 ?h203 ?h204 ?h205 ?h206 ?h207 ?h208 ?h209 ?h210 ?h211 ?h212 ?h213 ?h214 ?h215 ?h216 ?h217 ?h218 ?h219 ?h220 ?h221 ?h222 ?h223 ?h224 ?h225 ?h226 ?h227 ?h228 ?h229 ?h230 ?h231 ?h232 ?h233 ?h234 ?h235 ?h236 ?h237 ?h238 ?h239 ?h240 ?h241 ?h242 ?h243 ?h244 ?h245 ?h246 ?h247 ?h248 ?h249 ?h250 ?h251 ?h252 ?h253 ?h254 ?h255 ?h256 ?h257 ?h258 ?h259 ?h260 ?h261 ?h262 ?h263 ?h264 ?h265 ?h266 ?h267 ?h268 ?h269 ?h270 ?h271 ?h272 ?h273 ?h274 ?h275 ?h276 ?h277 ?h278 ?h279 ?h280 ?h281 ?h282 ?h283 ?h284 ?h285 ?h286 ?h287 ?h288 ?h289 ?h290 ?h291 ?h292 ?h293 ?h294 ?h295 ?h296 ?h297 ?h298 ?h299 ?h300 ?h301 ?h302 ?h303 ?h304 ?h305 ?h306 ?h307 ?h308 ?h309 ?h310 ?h311 ?h312 ?h313 ?h314 ?h315 ?h316 ?h317 ?h318 ?h319 ?h320 ?h321 ?h322 ?h323 ?h324 ?h325 ?hFC ?hcd
  (case h0|h1|h2|h3|h4|h5|h6|h7|h8|h9|h10|h11|h12|h13|h14|h15|h16|h17|h18|h19|h20|h21|h22|h23|h24|h25|h26|h27|h28|h29|h30|h31|h32|h33|h34|h35|h36|h37|h38|h39|h40|h41|h42|h43|h44|h45|h46|h47|h48|h49|h50|h51|h52=>show _=_;k_is)
  (case h53|h54|h55|h56|h57|h58|h59|h60|h61|h62|h63|h64|h65|h66|h67|h68|h69=>first|k_is|rfl|decide)
  (case h70|h71|h72|h73|h74|h75|h76|h77|h78|h79|h80|h81|h82|h83|h84|h85|h86|h87|h88|h89|h90|h91|h92|h93|h94|h95|h96|h97|h98|h99|h100|h101|h102|h103|h104|h105|h106|h107|h108|h109|h110|h111|h112|h113|h114|h115|h116|h117|h118|h119|h120|h121|h122|h123|h124|h125|h126|h127|h128|h129|h130=>constructor<;>k_is)
  (case h131=>first|k_is|rfl|decide)
  (case h132=>constructor<;>first|k_is|rfl)
  (case h133|h134|h135|h136|h137|h138|h139|h140|h141|h142|h143|h144|h145|h146|h147|h148|h149|h150|h151|h152|h153|h154|h155|h156|h157|h158|h159|h160|h161|h162|h163|h164|h165|h166|h167|h168|h169|h170|h171|h172|h173|h174|h175|h176|h177|h178|h179|h180|h181|h182|h183|h184|h185|h186|h187|h188|h189|h190|h191|h192|h193|h194|h195=>exact L2.Mn (by k_is) (by k_is) (by k_is))
  (case h196=>exact L2.OD (by k_is) (by k_is) (by k_is))
  (case h197|h198|h199|h200|h201|h202|h203|h204|h205|h206|h207|h208|h209|h210|h211|h212|h213=>exact L2.Mn (by k_is) (by k_is) (by k_is))
  (case h214=>exact L2.OD (by k_is) (by k_is) (by k_is))
  (case h215|h216|h217|h218|h219|h220|h221|h222=>exact L2.Mn (by k_is) (by k_is) (by k_is))
  (case h223|h224|h225|h226|h227|h228=>first|k_is|rfl|decide)
  (case h229|h230|h231|h232|h233|h234|h235|h236=>constructor;(constructor<;>k_is);all_goals(show _=_;k_is))
  (case h237|h238=>first|k_is|rfl|decide|kernel_rfl)
  (case h239=>first|k_is|rfl|decide)
  (case h240=>rfl)
  (case h241|h242=>first|k_is|rfl|decide|kernel_rfl)
  (case h243=>first|k_is|rfl|decide)
  (case h244=>rfl)
  (case h245|h246=>first|k_is|rfl|decide|kernel_rfl)
  (case h247=>first|k_is|rfl|decide)
  (case h248=>rfl)
  (case h249|h250=>first|k_is|rfl|decide|kernel_rfl)
  (case h251=>first|k_is|rfl|decide)
  (case h252=>rfl)
  (case h253=>first|k_is|rfl|decide|kernel_rfl)
  (case h254=>rfl)
  (case h255|h256|h257|h258|h259=>first|k_is|rfl|decide)
  (case h260|h261=>rfl)
  (case h262=>first|k_is|rfl|decide|kernel_rfl)
  (case h263|h264=>first|k_is|rfl|decide)
  (case h265|h266|h267|h268|h269|h270|h271|h272|h273|h274|h275|h276=>first|k_is|rfl|decide|kernel_rfl)
  (case h277|h278=>constructor<;>k_is)
  (case h279|h280|h281|h282|h283|h284|h285|h286|h287|h288|h289|h290|h291|h292|h293|h294|h295|h296|h297|h298|h299|h300|h301|h302|h303|h304|h305|h306|h307|h308=>first|k_is|rfl|decide)
  (case h309|h310|h311|h312|h313|h314|h315|h316|h317|h318|h319|h320|h321|h322|h323|h324=>first|k_is|rfl|decide|kernel_rfl)
  (case h325=>first|k_is|rfl|decide)
  (case hFC=>exact K70.Wt (by k_is) (by k_is))
  (case hcd=>first|k_is|kernel_rfl|rfl|decide)
end
section
local macro_rules|`(tactic|omega)=>`(tactic|first|lia|omega +splitNatSub)
local macro_rules|`(tactic|show $t)=>`(tactic|refine $t)
local macro_rules|`(#[$a,$x,*])=>`(⟨$a,$x,*⟩)|`(#[$a])=>`(⟨$a⟩)
namespace L2
open PySem PySem.Spec PyProof.Rows
variable{us:List Yd}{a b it dx C:Yc}{u:Yd}{h h':YO}{items:Array Yd}{P:YU}{x name m qual:Yh}{e c tg value:YY}{pins:List (Yc×Y8)}{s s':Yi}{g':Array alf}{t' i j k n:Nat}{d':akP}{ch fp:List Yc}{M:amC}{E Q:Yd->Yi->Prop}{pos pos' p apos:adq}{op:akQ}{es:List YY}{body:List YI}{lo:Int}{g:Int->Int->Int}{f:Yd->Yd->ag1 Yd}{mA:Yh->Option Yd}{pl:ag1 Bool}{kw:List (Yh×Yd)}{fd:Yr}{ps:List Yh}{kindOf:Yh->Option ag4}{scope:agi}{id T:String}
variable{xs:List (List cj×Yc×Yd)}
theorem Rp(i:Int)(t:agl):ED (.inl i) (.int i t)=true:=by simp[ED,amW]
theorem Rq(x:Yh)(t:agl):ED (.inr x) (.str x t)=true:=by simp[ED,ams]
theorem tP(prog:YU)(w:YZ)(i:Int)(t:agl):(bB prog w).is (.inl i) (.int i t)=true:=Rp i t
theorem L7(prog:YU)(w:YZ)(x:Yh)(t:agl):(bB prog w).is (.inr x) (.str x t)=true:=Rq x t
variable{v y d:V}{vs:List V}{kvs:List (List cj×V)}
theorem Vals.length{xs:List V}(r:Vals xs us):xs.length=us.length:=Y2 r
theorem Vals.get:∀{xs:List V} {us:List Yd} {i:Nat} {x:V},Vals xs us->xs[i]?=Ya x->∃u,us[i]?=Ya u/\RelV x u:=by
 intro a b i x w
 induction w generalizing i with
 |nil=>show λe=>by simp at e
 |cons r _ ih=>
  intro e;cases i with
  |zero=>simp at e;subst e;show#[_,rfl,r]
  |succ i=>
   obtain⟨p,h1,h2⟩:=ih (i:=i) (by simpa using e);show#[p,by simpa using h1,h2]
theorem Vals.append:∀{xs ys:List V} {us ws:List Yd},Vals xs us->Vals ys ws->Vals (xs++ys) (us++ws):=by
 intro a b c d w h
 induction w with
 |nil=>show h
 |cons r _ ih=>show .cons r ih
theorem Vals.take:∀{xs:List V} {us:List Yd} (n:Nat),Vals xs us->Vals (xs.take n) (us.take n)
 |_,_,0,_=>.nil
 |_,_,_+ 1,.nil=>.nil
 |_,_,n+ 1,.cons r t=>.cons r (Vals.take n t)
theorem Vals.drop:∀{xs:List V} {us:List Yd} (n:Nat),Vals xs us->Vals (xs.drop n) (us.drop n)
 |_,_,0,r=>r
 |_,_,_+ 1,.nil=>.nil
 |_,_,n+ 1,.cons _ t=>Vals.drop n t
variable{o:HO}
variable{H H':Hp}{R:V->V->Hp->Prop}
noncomputable def upd(H:Hp)(a:Yc)(o:HO):Hp:=λb=>if b=a then Ya o else H b
theorem aj:upd H a o a=Ya o:=by unfold upd;rw[if_pos rfl]
theorem ak(h:b≠a):upd H a o b=H b:=by unfold upd;rw[if_neg h]
theorem Wa{u:HO}:upd (upd H a o) a u=upd H a u:=by
 funext b;unfold upd;split<;>rfl
theorem cG{u:HO}(h:H a=Ya o)(h':H b=Ya u)(d:o≠u):a≠b:=by
 intro e;subst e;rw[h]at h';show d (YM h')
theorem au(h:H a=Ya o)(h':H b=Yb):a≠b:=by
 intro e;subst e;rw[h]at h';cases h'
theorem qc.tup(x:qc h a items):amD h a items:=let ⟨o,e,c,n,d,_⟩:=x;#[o,e,c,n,d]
theorem qc.lt(x:qc h a items):a<h.objs.size:=x.tup.lt
theorem qc.new(h:YO)(items:Array Yd):qc (h.push {cls:=.type "tuple",data:=.seq items}) h.objs.size items:=#[_,Ys _ rfl,rfl,_,rfl,rfl,rfl]
section
variable{w:YZ}
theorem cO.lt(x:cO P w H h a o):a<h.objs.size:=by
 cases o with
 |lst xs=>obtain⟨_,_,_,_,e⟩:=x;show Yt e
 |tup xs=>obtain⟨_,_,_,p⟩:=x;show p.lt
 |dK kvs=>obtain⟨_,_,_,_,o,_,_,e,_⟩:=x;show Yt e
 |dT kvs=>obtain⟨_,_,_,_,o,_,_,e,_⟩:=x;show Yt e
 |set S n=>obtain⟨o,_,_,_,e,_⟩:=x;show Yt e
 |ins C dx fs=>obtain⟨_,_,_,e,_⟩:=x;show Yt e
 |own y=>obtain⟨_,e⟩:=x;show Yt e
 |xd fs=>obtain⟨_,⟨_,_,_,e,_⟩,_⟩:=x;show Yt e
 |rng lo hi=>obtain⟨_,_,_,e⟩:=x;show Yt e
 |frz ob u=>obtain⟨e,_⟩:=x;show Yt e
 |tbl ps=>show Yt (show h.get? a=Ya _ from x)
 |met f y=>show Yt (show h.get? a=Ya _ from x)
 |ext φ=>obtain⟨_,⟨_,e⟩,_⟩:=x;show Yt e
theorem Aq.mapP{α β:Type}{F G:α->β->Prop}:∀{l₁:List α} {l₂:List β},Aq F l₁ l₂->(∀a b,F a b->G a b)->Aq G l₁ l₂:=by
 intro a b w f
 induction w with
 |nil=>show .nil
 |cons r _ ih=>show .cons (f _ _ r) ih
theorem cO.stay(x:cO P w H h a o)(k:∀b u,(b=a∨H b=Ya (.own a))->h.get? b=Ya u->h'.get? b=Ya u)
  (ho:∀b,H b=Ya (.own a)->H' b=Ya (.own a)) (ht:∀b xs,H b=Ya (.tup xs)->H' b=Ya (.tup xs)):cO P w H' h' a o:=by
 induction o with
 |lst xs=>obtain⟨z,its,n,r,e⟩:=x;show#[z,its,n,r,k _ _ (.inl rfl) e]
 |tup xs=>obtain⟨z,its,r,ob,e,c⟩:=x;show#[z,its,r,ob,k _ _ (.inl rfl) e,c]
 |dK kvs=>obtain⟨z,y,vs,r,ob,es,ep,e,c⟩:=x;show#[z,y,vs,r,ob,es,ep,k _ _ (.inl rfl) e,c]
 |dT kvs=>
  obtain⟨z,y,xs,r,ob,es,ep,e,c⟩:=x;show#[z,y,xs,Aq.mapP r λp q z=>#[z.1,ht _ _ z.2.1,z.2.2],ob,es,ep,k _ _ (.inl rfl) e,c]
 |set S n=>obtain⟨ob,es,ep,t,e,c⟩:=x;show#[ob,es,ep,t,k _ _ (.inl rfl) e,c]
 |ins C dx fs=>
  obtain⟨d,z,ne,e,mA,⟨od,es,ep,e2,c⟩,r⟩:=x;show#[ho _ d,z,ne,k _ _ (.inl rfl) e,mA,#[od,es,ep,k _ _ (.inr d) e2,c],r]
 |own y=>obtain⟨ob,e⟩:=x;show#[ob,k _ _ (.inl rfl) e]
 |xd fs=>obtain⟨mA,⟨od,es,ep,e,c⟩,r⟩:=x;show#[mA,#[od,es,ep,k _ _ (.inl rfl) e,c],r]
 |rng lo hi=>obtain⟨t,u,v,e⟩:=x;show#[t,u,v,k _ _ (.inl rfl) e]
 |frz ob u ih=>obtain⟨e,q⟩:=x;show#[k _ _ (.inl rfl) e,ih q]
 |tbl ps=>
  have e:h.get? a=Ya {cls:=.none,data:=.fields ps}:=x;change h'.get? a=Ya {cls:=.none,data:=.fields ps};show k a _ (.inl rfl) e
 |met f y=>
  have e:h.get? a=Ya (aiS (.ref f) (.ref y)):=x;change h'.get? a=Ya (aiS (.ref f) (.ref y));show k a _ (.inl rfl) e
 |ext φ=>obtain⟨p,⟨o,e⟩,st⟩:=x;show#[st _ _ p λo q=>k _ _ (.inl rfl) q,#[o,k _ _ (.inl rfl) e],st]
theorem pG.lt(x:pG P w H h)(e:H a=Ya o):a<h.objs.size:=(x a o e).lt
theorem pG.fresh(x:pG P w H h)(e:h.objs.size<=a):H a=none:=by
 cases q:H a with
 |none=>rfl
 |some u=>show absurd (YT (x.lt q) e) (Y7 _)
theorem pG.kept(x:pG P w H h)(k:∀b u,h.get? b=Ya u->h'.get? b=Ya u):pG P w H h':=λa o e=>
 (x a o e).stay (λb u _ q=>k b u q) (λ_ q=>q) λ_ _ q=>q
theorem pG.laid(x:pG P w H h)(k:∀b u,h.get? b=Ya u->h'.get? b=Ya u)(hp:h.objs.size<=a)(new:cO P w (upd H a o) h' a o):pG P w (upd H a o) h':=λb u e=>by
 have hn:=x.fresh hp;by_cases hb:b=a
 .subst hb;rw[aj]at e;cases e;show new
 .rw[ak hb]at e;show(x b u e).stay (λc v _ q=>k c v q) (λc q=>by rw[ak (au q hn)];show q) λc xs q=>by rw[ak (au q hn)];show q
end
theorem Rd.ok{w:YZ}{u:HO}(r:Rd H a u)(x:pG P w H h):cO P w H h a u:=by
 rcases r with r|⟨o,r⟩
 .show x a u r
 .obtain⟨_,q⟩:=x a _ r;show q
def Mut:Option HO->Prop
 |some (.lst _)=>True
 |some (.dK _)=>True
 |some (.dT _)=>True
 |some (.set _ _)=>True
 |some (.ins _ _ _)=>True
 |some (.ext _)=>True
 |_=>False
section
variable{w:YZ}{x e:Yc}{o':HO}
theorem pG.write(ok:pG P w H h)(mu:Mut (H x))(he:e=x∨H e=Ya (.own x))(k:∀b u,b≠e->h.get? b=Ya u->h'.get? b=Ya u)(heo:∃u,h'.get? e=Ya u)
  (new:cO P w (upd H x o') h' x o'):pG P w (upd H x o') h':=λb u q=>by
 have nown:∀c y,H c=Ya (.own y)->c≠x:=λc y r z=>by subst z;rw[r]at mu;show mu
 have ntup:∀c xs,H c=Ya (.tup xs)->c≠x:=λc xs r z=>by subst z;rw[r]at mu;show mu
 by_cases hb:b=x
 .subst hb;rw[aj]at q;cases q;show new
 .rw[ak hb]at q;by_cases hbe:b=e
  .have q':H b=Ya (.own x):=by
    rcases he with z|z
    .show absurd (hbe.trans z) hb
    .rw[hbe];show z
   rw[q]at q';cases q';obtain⟨v,hv⟩:=heo;show#[v,by rw[hbe];show hv]
  .show(ok b u q).stay (λc v hc r=>k c v ?_ r) (λc r=>by rw[ak (nown c b r)];show r) λc xs r=>by rw[ak (ntup c xs r)];show r
   rcases hc with rfl|hc
   .show hbe
   .rintro rfl;rcases he with z|z
    .show nown c b hc z
    .rw[hc]at z;cases z;show hb rfl
end
section
variable{fs ex:List Yc}{x e:Yc}
theorem Un.kept(k:∀b u,h.get? b=Ya u->h'.get? b=Ya u):Un fs ex H H h h':=
 #[λb ob q _ _ _=>k b ob q,λb ob q _ _ _=>#[ob.slots,k b ob q],λ_ _ _ n _=>n,λb ob q _=>#[ob,k b ob q],λ_ _ q=>q,λ_ _ _ q=>q,λ_ ps q=>#[#[],by rw[q];simp]]
theorem Un.refl:Un fs ex H H h h:=Un.kept λ_ _ q=>q
theorem Un.laid(k:∀b u,h.get? b=Ya u->h'.get? b=Ya u)(hp:h.objs.size<=a)(hn:H a=Yb):Un fs ex H (upd H a o) h h' where
 keep:=λb u q _ _ _=>k b u q
 slot:=λb u q _ _ _=>#[u.slots,k b u q]
 free:=λb u q n _=>by rw[ak (YB (YT (Yt q) hp))];show n
 there:=λb u q _=>#[u,k b u q]
 tups:=λb xs q=>by rw[ak (au q hn)];show q
 frzs:=λb u xs q=>by rw[ak (au q hn)];show q
 tbls:=λb ps q=>#[#[],by rw[ak (au q hn),q];simp]
theorem Un.write(mu:Mut (H x))(he:e=x∨H e=Ya (.own x))(k:∀b u,b≠e->h.get? b=Ya u->h'.get? b=Ya u)(heo:∃u,h'.get? e=Ya u):Un fs ex H (upd H x o) h h':=by
 have hx:∀b,H b=Yb->b≠x:=λb n z=>by subst z;rw[n]at mu;show mu
 have hb:∀b,H b=Yb->b≠e:=λb n z=>by
  subst z;rcases he with r|r
  .show hx b n r
  .rw[n]at r;cases r
 have hm:∀b u,H b=Ya u->¬ Mut (Ya u)->b≠x:=λb u q nm z=>by subst z;rw[q]at mu;show nm mu
 show#[λb u q n _ _=>k b u (hb b n) q,λb u q n _ _=>#[u.slots,k b u (hb b n) q],λb u q n _=>by rw[ak (hx b n)];show n,λb u q _=>?_,
  λb xs q=>by rw[ak (hm b _ q λz=>z)];show q,λb u xs q=>by rw[ak (hm b _ q λz=>z)];show q,λb ps q=>#[#[],by rw[ak (hm b _ q λz=>z),q];simp]]
 by_cases hbe:b=e
 .subst hbe;show heo
 .show#[u,k b u hbe q]
end
variable{w:YZ}{X:Cx}{N:List Yh}{A:sq}{K:Ye}{prog:YU}{env:af7}{mg:Yh->Option Yd}{outer:List af7}
variable{fs:List (Yh×V)}
def Loc(sc:agi)(x:Yh):Prop:=sc.names.lookup x=Ya .local∨sc.names.lookup x=Ya .cell
section
variable{σ:List (Option V)}
theorem Cx.Ok.nofr(ok:X.Ok){o:Y8}(e:X.base.get? b=Ya o):b∉X.fs:=λhb=>by
 have:=(ok.funs.mem hb).1;rw[e]at this;cases this
theorem aM.bs(I:aM X pins σ H s):∀b o,X.base.get? b=Ya o->s.heap.get? b=Ya o/\H b=none:=λb o e=>
 #[I.base.keep b o (I.ok.bs b o e).1 (I.ok.bs b o e).2 (I.ok.nofr e) (I.ok.noex b o e),I.base.free b o (I.ok.bs b o e).1 (I.ok.bs b o e).2 (I.ok.noex b o e)]
theorem aM.bk(I:aM X pins σ H s):∀b o,X.base.get? b=Ya o->s.heap.get? b=Ya o:=λb o e=>(I.bs b o e).1
theorem aM.mod(I:aM X pins σ H s):Mod X.K X.mg X.base:=I.ok.mod
theorem aM.kIn(I:aM X pins σ H s):X.K.In s.heap:=I.ok.mod.kin.keeps I.bk
theorem aM.lt(I:aM X pins σ H s):X.env.locals<s.heap.objs.size:=let ⟨_,hn,_⟩:=I.loc;hn.lt
theorem aM.sz(I:aM X pins σ H s):X.s₀.heap.objs.size<=s.heap.objs.size:=oh I.ok.above (tm I.lt)
theorem aM.nofs(I:aM X pins σ H s)(h:s.heap.objs.size<=a):a∉X.fs:=λhb=>by
 obtain⟨_,o,ho,_⟩:=I.ok.funs.mem hb;show absurd (YT (Yt ho) (oh I.sz h)) (Y7 _)
theorem aM.funs(I:aM X pins σ H s):s.heap.FunFrames X.base X.outer:=by
 have all:∀(l:List af7),(∀b∈mX l,b∈X.fs)->X.s₀.heap.FunFrames X.base l->s.heap.FunFrames X.base l:=by
  intro l
  induction l with
  |nil=>intro _ _;trivial
  |cons env r ih=>
   intro hs hl;obtain⟨hk,⟨L,o,hf,hn,ho,hd⟩,hr⟩:=hl;have hL:L∈X.fs:=hs L (by unfold mX;rw[ahf,hf];show Yy);obtain⟨sl,e⟩:=I.base.slot L o ho (I.ok.frf L hL) hL λz=>I.ok.exfs L z hL;show#[hk,#[L,_,hf,hn,e,hd],ih (λb hb=>hs b (by unfold mX;rw[ahf,hf];show Yx _ hb)) hr]
 show all X.outer (λ_ hb=>hb) I.ok.funs
theorem aM.stack(I:aM X pins σ H s):s.heap.FunFrames X.base X.stack:=by
 rcases I.ok.stk with e|⟨e,hf⟩
 .rw[e];show I.funs
 .rw[e];obtain⟨m,hn,_⟩:=I.loc;show .cons (by rw[I.ok.kind];decide) hf hn ?_ I.funs;show akc (oh I.ok.bsz I.ok.above)
theorem aM.stkSub(I:aM X pins σ H s):∀b∈mX X.stack,b∈X.env.locals::X.fs:=λb hb=>by
 rcases I.ok.stk with e|⟨e,hf⟩
 .rw[e]at hb;show Yx _ hb
 .rw[e]at hb;unfold mX at hb;rw[ahf,hf]at hb;show hb
theorem aM.stkFree(I:aM X pins σ H s):∀b∈mX X.stack,H b=none:=λb hb=>by
 rcases Yq.mp (I.stkSub b hb)with e|hb
 .rw[e];show I.free
 .obtain⟨_,o,ho,_⟩:=I.ok.funs.mem hb;show I.base.free b o ho (I.ok.frf b hb) λz=>I.ok.exfs b z hb
theorem aM.call(I:aM X pins σ H s)(u:Un (mX X.stack) ch H H' s.heap h')(hok:pG X.prog X.w H' h')(hg:ahd g')(hch:∀b∈ch,(b∈X.ex∨X.s₀.heap.objs.size<=b)/\b≠X.env.locals/\(∀x c,X.env.cells.lookup x=Ya c->c≠b)/\∀p∈X.pn++pins,p.1≠b):
  aM X pins σ H' {s with heap:=h',gens:=g',drawn:=d',toks:=t'}:=by
 obtain⟨m,⟨o,es,ep,ho,r⟩,_⟩:=id I.loc;obtain⟨sl,hL⟩:=u.any ho I.free λz=>(hch _ z).2.1 rfl;show I.step (ch:=ch) hch (λb o hL hb hc e n=>u.keep b o e n (λz=>(Yq.mp (I.stkSub b z)).elim hL hb) hc) (λb o _ _ hc e n=>u.any e n hc) (λb o hc e n=>u.free b o e n hc) (λb o hc e=>u.there b o e hc) u.tups u.frzs u.tbls (λm' hm=>by
  obtain⟨o',es',ep',ho',r'⟩:=hm;rw[ho]at ho';cases ho';show#[_,es',ep',hL,r']) hok hg
theorem aM.turned(I:aM X pins σ H s)(k:∀b o,b≠it->s.heap.get? b=Ya o->h'.get? b=Ya o)(hn:H it=Yb)(hL:it≠X.env.locals)(h1:it∈X.ex∨X.s₀.heap.objs.size<=it)(h2:∀x c,X.env.cells.lookup x=Ya c->c≠it)(h3:∀p∈X.pn++pins,p.1≠it):aM X pins σ H {s with heap:=h',toks:=t'}:=by
 have nit:∀b u,H b=Ya u->b≠it:=λb u e z=>by rw[z,hn]at e;cases e
 show I.step (g':=s.gens) (d':=s.drawn) (ch:=[it]) (λb hb=>?_) (λb o _ _ hc e _=>k b o (λz=>hc (by simp[z])) e) (λb o _ _ hc e _=>#[o.slots,k b o (λz=>hc (by simp[z])) e]) (λ_ _ _ _ n=>n)
  (λb o hc e=>#[o,k b o (λz=>hc (by simp[z])) e]) (λ_ _ e=>e) (λ_ _ _ e=>e) (λb ps e=>#[#[],by rw[e];simp]) (λm hm=>?_) (λb u e=>?_) I.bare
 .have e:b=it:=by simpa using hb
  subst e;show#[h1,hL,h2,h3]
 .obtain⟨o,es,ep,ho,r⟩:=hm;show#[o,es,ep,k _ o (Ne.symm hL) ho,r]
 .show(I.hok b u e).stay (λc v hc q=>k c v ?_ q) (λ_ q=>q) λ_ _ q=>q;rcases hc with z|z
  .rw[z];show nit b u e
  .show nit c _ z
theorem aM.tok(I:aM X pins σ H s)(t:Nat):aM X pins σ H {s with toks:=t}:=I.un (h':=s.heap) (t':=t) Un.refl I.hok
theorem aM.kept(I:aM X pins σ H s)(k:∀b u,s.heap.get? b=Ya u->h'.get? b=Ya u):aM X pins σ H {s with heap:=h',toks:=t'}:=I.un (Un.kept k) (I.hok.kept k)
theorem aM.laid(I:aM X pins σ H s)(k:∀b u,s.heap.get? b=Ya u->h'.get? b=Ya u)(hp:s.heap.objs.size<=a)(new:cO X.prog X.w (upd H a o) h' a o):
  aM X pins σ (upd H a o) {s with heap:=h',toks:=t'}:=I.un (Un.laid k hp (I.hok.fresh hp)) (I.hok.laid k hp new)
theorem aM.write{x e:Yc}{o:HO}{t':Nat}(I:aM X pins σ H s)(mu:Mut (H x))(he:e=x∨H e=Ya (.own x))(k:∀b u,b≠e->s.heap.get? b=Ya u->h'.get? b=Ya u)(heo:∃u,h'.get? e=Ya u)
  (new:cO X.prog X.w (upd H x o) h' x o):aM X pins σ (upd H x o) {s with heap:=h',toks:=t'}:=I.un (Un.write mu he k heo) (I.hok.write mu he k heo new)
theorem aM.pins_of{pins':List (Yc×Y8)}(I:aM X pins σ H s)(h:∀p∈pins',s.heap.get? p.1=Ya p.2/\H p.1=Yb/\p.1≠X.env.locals/\p.1∉X.fs/\∀v,p.2.data≠.cell v):aM X pins' σ H s:=
 #[I.ok,I.os,I.bare,I.base,I.loc,I.cell,I.free,I.freeC,λp hp=>(YV.mp hp).elim (λz=>I.pin p (pe _ z)) (h p),I.hok,I.len]
theorem DC(hN:N.Nodup)(a:N[i]?=Ya x)(b:N[j]?=Ya x):i=j:=by
 obtain⟨h1,e1⟩:=Yp.mp a;obtain⟨h2,e2⟩:=Yp.mp b;show(List.getElem_inj hN).mp (e1.trans e2.symm)
theorem QZ{Q:Unit->Yi->Prop}(I:aM X pins σ H s)(hN:X.N.Nodup)(hi:X.N[i]?=Ya x)(hx:Loc X.env.scope x)(r:RelV v u)(h:∀s',aM X pins (σ.set i (Ya v)) H s'->(∃a,aaq a s.heap s'.heap/\(a=X.env.locals∨X.env.cells.lookup x=Ya a))->Q () s')(hf:autoParam (X.fn x=true∨X.env.scope.names.lookup x=Ya .local) aq2):Yl M A (storeName X.env x u) Q E s:=by
 obtain⟨m,hn,hl⟩:=id I.loc;have hcls:(X.env.scope.kind==.class||(X.env.scope.kind==.module&&X.env.locals !=X.env.globals))=false:=by rw[I.ok.kind];rfl
 have hiσ:i<σ.length:=by rw[I.len];show(Yp.mp hi).1
 have cne:=I.cne;have tracked:∀{a:Yc} {h':YO},(∃o,s.heap.get? a=Ya o/\H a=Yb)->aaq a s.heap h'->pG X.prog X.w H h':=fun{a h'} ha hs b ob e=>by
  obtain⟨_,_,hfree⟩:=ha;show(I.hok b ob e).stay (λc w' hc q=>(hs.2 c ?_).trans q) (λ_ q=>q) λ_ _ q=>q;rintro rfl;rcases hc with rfl|hc
  .rw[hfree]at e;cases e
  .rw[hfree]at hc;cases hc
 rcases hx with hk|hk
 .show wpAny_storeName_local hk hn (λh' hn' hs=>?_) hcls;obtain⟨oL,_,_,hoL,_⟩:=id hn;show h _ #[I.ok,I.os,I.bare,#[λb o e n hb hx=>?_,λb o e n hb hx=>?_,I.base.free,λb o e hx=>?_,I.base.tups,I.base.frzs,I.base.tbls],#[_,hn',λj y v' e1 e2 e3=>?_],λy c e=>?_,I.free,I.freeC,λp hp=>?_,tracked #[oL,hoL,I.free] hs,by simpa using I.len] #[_,hs,.inl rfl]
  .show(hs.2 b (YB (YT (Yt e) I.ok.above))).trans (I.base.keep b o e n hb hx)
  .obtain⟨sl,e1⟩:=I.base.slot b o e n hb hx;show#[sl,(hs.2 b (YB (YT (Yt e) I.ok.above))).trans e1]
  .obtain⟨o',e1⟩:=I.base.there b o e hx;show#[o',(hs.2 b (YB (YT (Yt e) I.ok.above))).trans e1]
  .by_cases hj:j=i
   .subst hj;rw[hi]at e1;cases e1;rw[agQ hiσ]at e2;cases e2;show#[u,r,.inl #[hk,by simp]]
   .rw[ag6 (Ne.symm hj)]at e2;obtain⟨u',r',q⟩:=hl j y v' e1 e2 e3;show#[u',r',?_];rcases q with⟨k,e⟩|⟨k,c,e,z⟩
    .show .inl #[k,?_];have:y≠x:=λe=>hj (DC hN e1 (e▸hi));simp[this,e]
    .show .inr #[k,c,e,z.sameBut hs (cne y c e)]
  .obtain⟨w',z⟩:=I.cell y c e;show#[w',z.sameBut hs (cne y c e)]
  .obtain⟨e,n,ne,nf,d⟩:=I.pin p hp;show#[(hs.2 p.1 ne).trans e,n,ne,nf,d]
 .have hfn:X.fn x=true:=by
   rcases hf with z|z
   .show z
   .rw[z]at hk;cases hk
  obtain⟨c,hc⟩:=I.ok.has x (.inl hk);obtain⟨w',z⟩:=I.cell x c hc;show wpAny_storeName_cell I.ok.kind hk hc z (λh' hc' hs=>?_);obtain⟨oc,hoc,hocd⟩:=id z;show h {s with heap:=h'} #[I.ok,I.os,I.bare,#[λb o e n hb hx=>?_,λb o e n hb hx=>?_,I.base.free,λb o e hx=>?_,I.base.tups,I.base.frzs,I.base.tbls],#[m,hn.sameBut hs (Ne.symm (cne x c hc)),λj y v' e1 e2 e3=>?_],λy c' e=>?_,I.free,I.freeC,λp hp=>?_,tracked #[oc,hoc,I.freeC x c hc] hs,by simpa using I.len] #[c,hs,.inr hc]
  .show(hs.2 b (YB (YT (Yt e) (I.ok.cab x c hfn hc)))).trans (I.base.keep b o e n hb hx)
  .obtain⟨sl,e1⟩:=I.base.slot b o e n hb hx;show#[sl,(hs.2 b (YB (YT (Yt e) (I.ok.cab x c hfn hc)))).trans e1]
  .obtain⟨o',e1⟩:=I.base.there b o e hx;show#[o',(hs.2 b (YB (YT (Yt e) (I.ok.cab x c hfn hc)))).trans e1]
  .by_cases hj:j=i
   .subst hj;rw[hi]at e1;cases e1;rw[agQ hiσ]at e2;cases e2;show#[u,r,.inr #[.inl hk,c,hc,hc']]
   .rw[ag6 (Ne.symm hj)]at e2;obtain⟨u',r',q⟩:=hl j y v' e1 e2 e3;show#[u',r',?_];rcases q with q|⟨k,c',e,z'⟩
    .show .inl q
    .show .inr #[k,c',e,z'.sameBut hs ?_];rintro rfl;show hj (DC hN e1 (I.ok.inj _ _ _ e hc▸hi))
  .by_cases hcc:c'=c
   .subst hcc;show#[_,hc']
   .obtain⟨w2,z2⟩:=I.cell y c' e;show#[w2,z2.sameBut hs hcc]
  .obtain⟨e,n,ne,nf,d⟩:=I.pin p hp;show#[(hs.2 p.1 ?_).trans e,n,ne,nf,d];intro q;rw[q,hoc]at e;have q':oc=p.2:=YM e;show d w' (by rw[←q'];show hocd)
theorem zI{Q:Unit->Yi->Prop}(I:aM X pins σ H s)(hN:X.N.Nodup)(hi:X.N[i]?=Ya x)(hx:Loc X.env.scope x)(r:RelV v u)(h:∀s',aM X pins (σ.set i (Ya v)) H s'->Q () s')(hf:autoParam (X.fn x=true∨X.env.scope.names.lookup x=Ya .local) aq2):Yl M A (storeName X.env x u) Q E s:=
 QZ I hN hi hx r (λs' I' _=>h s' I') hf
theorem aM.call'(I:aM X pins σ H s)(ho:s'.os=s.os)(u:Un (mX X.stack) ch H H' s.heap s'.heap)(hok:pG X.prog X.w H' s'.heap)(hg:ahd s'.gens)(hch:∀b∈ch,(b∈X.ex∨X.s₀.heap.objs.size<=b)/\b≠X.env.locals/\(∀x c,X.env.cells.lookup x=Ya c->c≠b)/\∀p∈X.pn++pins,p.1≠b):aM X pins σ H' s':=by
 obtain⟨h',g',d',t',o'⟩:=s';have e:o'=s.os:=ho;subst e;show I.call (g':=g') (t':=t') (d':=d') u hok hg hch
end
abbrev St:=List (Option V)
variable{σ:St}
abbrev TE:=St->Hp->VK->Prop
variable{ta te tv td ty:TE}
abbrev TT:=St->Hp->(Bool->Hp->Prop)->Prop
variable{tc:TT}
abbrev TA:=St->Hp->(List V->Hp->Prop)->Prop
structure q8 where
 nx:St->Hp->Prop
 rt:VK
 bk:St->Hp->Prop:=λ_ _=>False
 ct:St->Hp->Prop:=λ_ _=>False
variable{D:q8}
abbrev TS:=q8->St->Hp->Prop
variable{tb:TS}
def EP(X:Cx)(pins:List (Yc×Y8))(σ:St)(Q:VK)(u:Yd)(s':Yi):Prop:=∃v H',aM X pins σ H' s'/\RelV v u/\Q v H'
def TP(X:Cx)(pins:List (Yc×Y8))(σ:St)(Q:Bool->Hp->Prop)(b:Bool)(s':Yi):Prop:=∃H',aM X pins σ H' s'/\Q b H'
def AP(X:Cx)(pins:List (Yc×Y8))(σ:St)(Q:List V->Hp->Prop)(us:List Yd)(s':Yi):Prop:=∃vs H',aM X pins σ H' s'/\Vals vs us/\Q vs H'
def SP(X:Cx)(pins:List (Yc×Y8))(D:q8)(f:Flow)(s':Yi):Prop:=
 match f with
 | .next=>∃σ' H',aM X pins σ' H' s'/\D.nx σ' H'
 | .brk=>∃σ' H',aM X pins σ' H' s'/\D.bk σ' H'
 | .cont=>∃σ' H',aM X pins σ' H' s'/\D.ct σ' H'
 | .ret u=>∃v σ' H',aM X pins σ' H' s'/\RelV v u/\D.rt v H'
def PE(X:Cx)(e:YY)(t:TE):Prop:=
 ∀(pins:List (Yc×Y8)) (s:Yi) (σ:St) (H:Hp) (Q:VK),aM X pins σ H s->t σ H Q->Yl (Yn X.prog X.w) X.A (Y3 e X.env) (EP X pins σ Q) X.xe s
def PT(X:Cx)(e:YY)(t:TT):Prop:=
 ∀(pins:List (Yc×Y8)) (s:Yi) (σ:St) (H:Hp) (Q:Bool->Hp->Prop),aM X pins σ H s->t σ H Q->Yl (Yn X.prog X.w) X.A (alH e X.env (Y3 e X.env)) (TP X pins σ Q) X.xe s
def PW(X:Cx)(e:YY)(t:TT):Prop:=
 ∀(whole:ag1 Yd) (pins:List (Yc×Y8)) (s:Yi) (σ:St) (H:Hp) (Q:Bool->Hp->Prop),aM X pins σ H s->t σ H Q->Yl (Yn X.prog X.w) X.A (alH e X.env whole) (TP X pins σ Q) X.xe s
theorem PW.pt{t:TT}(h:PW X e t):PT X e t:=h _
def PA(X:Cx)(es:List YY)(t:TA):Prop:=
 ∀(pos:adq) (pins:List (Yc×Y8)) (s:Yi) (σ:St) (H:Hp) (Q:List V->Hp->Prop),aM X pins σ H s->t σ H Q->Yl (Yn X.prog X.w) X.A (spliced (tq pos (YC es X.env))) (AP X pins σ Q) X.xe s
def PS(X:Cx)(st:YI)(t:TS):Prop:=
 ∀(pins:List (Yc×Y8)) (s:Yi) (σ:St) (H:Hp) (D:q8),aM X pins σ H s->t D σ H->Yl (Yn X.prog X.w) X.A (exec st X.env) (SP X pins D) X.xe s
def IK(X:Cx)(st:List YI)(t:TS):Prop:=
 ∀(pins:List (Yc×Y8)) (s:Yi) (σ:St) (H:Hp) (D:q8),aM X pins σ H s->t D σ H->Yl (Yn X.prog X.w) X.A (execs st X.env) (SP X pins D) X.xe s
theorem cR{α:Type}{t:ag1 α}{Q Q':α->Yi->Prop}(h:Yl M A t Q E s)(hQ:∀a s,Q a s->Q' a s):Yl M A t Q' E s:=pk h hQ λ_ _ x=>x
section
theorem bin{a b:YY}{tb:TE}(ha:PE X a ta)(hb:PE X b tb)(I:aM X pins σ H s)(h:ta σ H λx H1=>tb σ H1 λy H2=>R x y H2){α:Type}{Q:α->Yi->Prop}{f:Yd->Yd->ag1 α}(hf:∀v u s2 x y H2,aM X pins σ H2 s2->RelV x v->RelV y u->R x y H2->Yl (Yn X.prog X.w) X.A (f v u) Q X.xe s2):
  Yl (Yn X.prog X.w) X.A (Y3 a X.env) (λv s₁=>Yl (Yn X.prog X.w) X.A (Y3 b X.env) (λu s₂=>Yl (Yn X.prog X.w) X.A (f v u) Q X.xe s₂) X.xe s₁) X.xe s:=by
 show cR (ha pins s σ H _ I h) λv s1 zz=>?_;obtain⟨x,H1,I1,r1,q1⟩:=zz;show cR (hb pins s1 σ H1 _ I1 q1) λu s2 zz=>?_;obtain⟨y,H2,I2,r2,q2⟩:=zz;show hf v u s2 x y H2 I2 r1 r2 q2
def Rm(i:Nat):TE:=λσ H Q=>∃v,σ[i]?=Ya (Ya v)/\Q v H
def tC(v:V):TE:=λ_ H Q=>Q v H
theorem acw(hN:X.N[i]?=Ya x)(hv:Vis X.env.scope x)(hd:autoParam ((x==("__debug__":Yh))=false) aq1)(hcd:autoParam ((x==("__classdict__":Yh))=false) aq1):PE X (.Name x pos) (Rm i):=by
 intro pins s σ H Q I h;obtain⟨v,e,h⟩:=h;obtain⟨m,hn,hl⟩:=I.loc;obtain⟨u,r,l⟩:=hl i x v hN e hv;have fin:EP X pins σ Q u s:=#[v,H,I,r,h];rcases l with⟨hk,hm⟩|⟨hk,c,hc,hcell⟩
 .show alI (wpAny_loadName_local I.ok.kind hk hn hm fin) hd
 .rcases hk with hk|hk
  .show alI (wpAny_loadName_cell I.ok.kind hk hc hcell fin) hd
  .show alI (wpAny_loadName_free I.ok.kind hk hc hcell fin hcd) hd
theorem ax{i j pos}:PE X (.Constant (.int i) j pos) (tC (.int i)):=λ_ _ _ H _ I h=>wpAny_Constant_int #[.int i,H,I.tok _,#[_,rfl],h]
theorem dB{b j pos}:PE X (.Constant (.bool b) j pos) (tC (.bl b)):=λ_ _ _ H _ I h=>Constant_bool #[.bl b,H,I,rfl,h]
theorem cE{j pos}:PE X (.Constant .none j pos) (tC .non):=λ_ _ _ H _ I h=>Constant_none #[.non,H,I,rfl,h]
theorem eW{x j pos}:PE X (.Constant (.str x) j pos) (tC (.str x)):=λ_ _ _ H _ I h=>Calls.Constant_str #[.str x,H,I.tok _,#[_,rfl],h]
def Gl(X:Cx)(x:Yh):Prop:=X.env.kindOf x=Ya .globalImplicit
theorem lq(I:aM X pins σ H s)(hg:Gl X x)(hm:X.mg x=Ya u)(h:Q u s)(hd:autoParam ((x==("__debug__":Yh))=false) aq1):Yl (Yn X.prog X.w) X.A (Y3 (.Name x pos) X.env) Q E s:=
 aiH I.ok.kind hg (Calls.loadGlobal_global (by rw[I.ok.glob];show I.mod.glob.keeps I.bk) hm h) hd
theorem xC(I:aM X pins σ H s)(hg:Gl X x)(hm:X.mg x=Yb)(hv:afm x=Ya u)(h:Q u s)(hn:autoParam (x≠"__name__") aq1)(hd:autoParam ((x==("__debug__":Yh))=false) aq1):Yl (Yn X.prog X.w) X.A (Y3 (.Name x pos) X.env) Q E s:=by
 obtain⟨mb,h1,h2⟩:=I.mod.blt;show aiH I.ok.kind hg (Calls.loadGlobal_builtin (by rw[I.ok.glob];show I.mod.glob.keeps I.bk) hm (by rw[I.ok.blt];show h1.keeps I.bk) ((h2 x hn).trans hv) h) hd
theorem jT(hg:Gl X x)(hm:X.mg x=Ya u)(r:RelV v u)(hd:autoParam ((x==("__debug__":Yh))=false) aq1):PE X (.Name x pos) (tC v):=
 λ_ _ _ H _ I h=>lq I hg hm #[v,H,I,r,h] hd
theorem Xn(hg:Gl X x)(hm:X.mg x=Yb)(hv:afm x=Ya u)(r:RelV v u)(hn:autoParam (x≠"__name__") aq1)(hd:autoParam ((x==("__debug__":Yh))=false) aq1):PE X (.Name x pos) (tC v):=
 λ_ _ _ H _ I h=>xC I hg hm hv #[v,H,I,r,h] hn hd
variable{a b:YY}{tb:TE}
def PC(X:Cx)(op:akQ)(a b:YY)(t:TE):Prop:=
 ∀(pins:List (Yc×Y8)) (s:Yi) (σ:St) (H:Hp) (Q:VK),aM X pins σ H s->t σ H Q->
  Yl (Yn X.prog X.w) X.A (Y3 a X.env) (λv s₁=>Yl (Yn X.prog X.w) X.A (Y3 b X.env) (λu s₂=>Yl (Yn X.prog X.w) X.A (xk op v u) (EP X pins σ Q) X.xe s₂) X.xe s₁) X.xe s
def tB(t:TE):TT:=λσ H Q=>t σ H λx H1=>∃c,x=.bl c/\Q c H1
theorem acP{t:TE}(h:PC X op a b t)(h1:ahQ op b=false:=by first|show nobehind _ (by decide) (by decide)|rfl):PT X (.Compare a [op] [b] pos) (tB t):=by
 intro pins s σ H Q I hw;show ajY (cR (h pins s σ H _ I hw) λv s1 h1=>cR h1 λu s2 h2=>cR h2 λc s3 zz=>?_) h1;obtain⟨x,H1,I1,r1,q1⟩:=zz;obtain⟨d,rfl,q⟩:=q1;cases r1;show adW #[H1,I1,q]
variable{tA tB':TT}{rest:List YY}
def aer(t u:TT):TT:=λσ H Q=>t σ H λc H1=>if c=true then u σ H1 Q else Q false H1
def tOr(t u:TT):TT:=λσ H Q=>t σ H λc H1=>if c=true then Q true H1 else u σ H1 Q
def ae0(t:TT):TT:=λσ H Q=>t σ H λc H1=>Q (!c) H1
theorem IJ(ha:PT X a tA):PW X (.BoolOp .And [a] pos) tA:=by
 intro wh pins s σ H Q I h;show isTrue_and (cR (ha pins s σ H Q I h) λc s1 e=>?_);cases c with
 |true=>show isTrue_and_nil e
 |false=>show e
theorem wN(ha:PT X a tA):PW X (.BoolOp .Or [a] pos) tA:=by
 intro wh pins s σ H Q I h;show isTrue_or (cR (ha pins s σ H Q I h) λc s1 e=>?_);cases c with
 |false=>show isTrue_or_nil e
 |true=>show e
theorem MJ(ha:PT X a tA)(hb:PW X (.BoolOp .And (b::rest) pos) tB'):PW X (.BoolOp .And (a::b::rest) pos) (aer tA tB'):=by
 intro wh pins s σ H Q I h;show isTrue_and (cR (ha pins s σ H _ I h) λc s1 zz=>?_);obtain⟨H1,I1,q1⟩:=zz;cases c with
 |true=>show hb wh pins s1 σ H1 Q I1 q1
 |false=>show#[H1,I1,q1]
theorem pZ(ha:PT X a tA)(hb:PW X (.BoolOp .Or (b::rest) pos) tB'):PW X (.BoolOp .Or (a::b::rest) pos) (tOr tA tB'):=by
 intro wh pins s σ H Q I h;show isTrue_or (cR (ha pins s σ H _ I h) λc s1 zz=>?_);obtain⟨H1,I1,q1⟩:=zz;cases c with
 |true=>show#[H1,I1,q1]
 |false=>show hb wh pins s1 σ H1 Q I1 q1
theorem oW(ha:PT X a tA):PT X (.UnaryOp .Not a pos) (ae0 tA):=by
 intro pins s σ H Q I h;show isTrue_not (ha pins s σ H (λc H1=>Q (!c) H1) I h)
def aaI(ta tb:TE):TE:=λσ H Q=>ta σ H λx H1=>∃c,x=.bl c/\if c=true then tb σ H1 Q else Q (.bl false) H1
def ad2(ta tb:TE):TE:=λσ H Q=>ta σ H λx H1=>∃c,x=.bl c/\if c=true then Q (.bl true) H1 else tb σ H1 Q
def aaw(ta:TE):TE:=λσ H Q=>ta σ H λx H1=>∃c,x=.bl c/\Q (.bl (!c)) H1
theorem kE{op}{t:TE}(h:PE X a t):PE X (.BoolOp op [a] pos) t:=λpins s σ H Q I hw=>BoolOp_one (h pins s σ H Q I hw)
theorem iJ(ha:PE X a ta)(hb:PE X (.BoolOp .And (b::rest) pos) tb):PE X (.BoolOp .And (a::b::rest) pos) (aaI ta tb):=by
 intro pins s σ H Q I h;show BoolOp_and (cR (ha pins s σ H _ I h) λv s1 zz=>?_);obtain⟨x,H1,I1,r1,q1⟩:=zz;obtain⟨c,rfl,q1⟩:=q1;cases r1;show adW ?_;cases c with
 |true=>show hb pins s1 σ H1 Q I1 q1
 |false=>show#[.bl false,H1,I1,rfl,q1]
theorem aeF(ha:PE X a ta)(hb:PE X (.BoolOp .Or (b::rest) pos) tb):PE X (.BoolOp .Or (a::b::rest) pos) (ad2 ta tb):=by
 intro pins s σ H Q I h;show BoolOp_or (cR (ha pins s σ H _ I h) λv s1 zz=>?_);obtain⟨x,H1,I1,r1,q1⟩:=zz;obtain⟨c,rfl,q1⟩:=q1;cases r1;show adW ?_;cases c with
 |false=>show hb pins s1 σ H1 Q I1 q1
 |true=>show#[.bl true,H1,I1,rfl,q1]
theorem U7(ha:PE X a ta):PE X (.UnaryOp .Not a pos) (aaw ta):=by
 intro pins s σ H Q I h;show UnaryOp_ (cR (ha pins s σ H _ I h) λv s1 zz=>?_);obtain⟨x,H1,I1,r1,q1⟩:=zz;obtain⟨c,rfl,q1⟩:=q1;cases r1;show not_of (adW #[.bl (!c),H1,I1,rfl,q1])
def tIf(t:TT)(ta tb:TE):TE:=λσ H Q=>t σ H λc H1=>if c=true then ta σ H1 Q else tb σ H1 Q
theorem j6(hc:PT X c tA)(ha:PE X a ta)(hb:PE X b tb):PE X (.IfExp c a b pos) (tIf tA ta tb):=by
 intro pins s σ H Q I h;show wpAny_IfExp (cR (hc pins s σ H _ I h) λd s1 zz=>?_);obtain⟨H1,I1,q1⟩:=zz;cases d with
 |true=>show ha pins s1 σ H1 Q I1 q1
 |false=>show hb pins s1 σ H1 Q I1 q1
end
def c8(K:Ye)(H:Hp)(a:Yc)(xs:List V):Prop:=
 Rd H a (.tup xs)∨
  ∃(o:Y8) (its:Array Yd) (n:Nat),K.lookup a=Ya o/\o.cls=.type "tuple"/\o.data=.seq its n/\its.size<=Yu/\Vals xs its.toList
noncomputable def afE:Yd->Option V
 | .none=>Ya .non
 | .bool b=>Ya (.bl b)
 | .int i _=>Ya (.int i)
 | .str x _=>Ya (.str x)
 | .bytes b _=>Ya (.byt b)
 | .float b _=>Ya (.flt b)
 | .ref a=>Ya (.ref a)
 | .type n=>Ya (.ty n)
 |_=>Yb
theorem RelV.abs{x:V}(r:RelV x u):afE u=Ya x:=by
 cases x with
 |non=>cases r;rfl
 |bl _=>cases r;rfl
 |int _=>obtain⟨t,rfl⟩:=r;rfl
 |str _=>obtain⟨t,rfl⟩:=r;rfl
 |byt _=>obtain⟨t,rfl⟩:=r;rfl
 |flt _=>obtain⟨t,rfl⟩:=r;rfl
 |ref _=>cases r;rfl
 |ty _=>cases r;rfl
theorem RelV.inj{x:V}(r:RelV x u)(q:RelV y u):x=y:=YM (r.abs.symm.trans q.abs)
theorem Vals.inj:∀{xs ys:List V} {us:List Yd},Vals xs us->Vals ys us->xs=ys:=by
 intro xs ys us h
 induction h generalizing ys with
 |nil=>
  intro h;cases h;rfl
 |cons r t ih=>
  intro h;cases h with|cons r' t'=>
  rw[r.inj r',ih t']
section
variable{xs ys:List V}
theorem bZ.of(h:H a=Ya (.lst xs)):bZ K H a xs:=.inl (.inl h)
theorem c8.of(h:H a=Ya (.tup xs)):c8 K H a xs:=.inl (.inl h)
theorem aM.list(I:aM X pins σ H s)(h:bZ X.K H a xs):∃its:List Yd,Vals xs its/\PlainL s.heap a its.toArray/\xs.length<=Yu:=by
 rcases h with h|⟨o,its,n,hk,hc,hd,hs,hz,r⟩
 .obtain⟨z,its,n,r,e⟩:=h.ok I.hok;show#[its,r,#[_,n,e,rfl,rfl,rfl],z]
 .show#[its.toList,r,#[o,n,I.kIn a o hk,hc,hd,by simpa using hs],?_];have e:=r.length;simp only[mr]at e;omega
theorem aM.tuple(I:aM X pins σ H s)(h:c8 X.K H a xs):∃its:List Yd,Vals xs its/\amD s.heap a its.toArray/\xs.length<=Yu:=by
 rcases h with h|⟨o,its,n,hk,hc,hs,hz,r⟩
 .obtain⟨z,its,r,p⟩:=h.ok I.hok;show#[its,r,p.tup,z]
 .show#[its.toList,r,#[o,I.kIn a o hk,hc,n,by simpa using hs],?_];have e:=r.length;simp only[mr]at e;omega
theorem aM.list_inj(I:aM X pins σ H s)(h:bZ X.K H a xs)(h':bZ X.K H a ys):xs=ys:=by
 obtain⟨its,r,⟨o,n,e,_,_,d⟩,_⟩:=I.list h;obtain⟨its',r',⟨o',n',e',_,_,d'⟩,_⟩:=I.list h';rw[e]at e';cases e';rw[d]at d';injection d' with d1 _;have:its=its':=by simpa using congrArg akD d1
 subst this;show r.inj r'
theorem aM.tuple_inj(I:aM X pins σ H s)(h:c8 X.K H a xs)(h':c8 X.K H a ys):xs=ys:=by
 obtain⟨its,r,⟨o,e,_,n,d⟩,_⟩:=I.tuple h;obtain⟨its',r',⟨o',e',_,n',d'⟩,_⟩:=I.tuple h';rw[e]at e';cases e';rw[d]at d';injection d' with d1 _;have:its=its':=by simpa using congrArg akD d1
 subst this;show r.inj r'
end
noncomputable abbrev Cx.wish(X:Cx)(E:Yd->Yi->Prop):Cx:={X with xe:=E}
noncomputable abbrev Cx.nox(X:Cx):Cx:=X.wish λ_ _=>False
theorem Cx.Ok.wish(ok:X.Ok)(E:Yd->Yi->Prop):(X.wish E).Ok:=
 #[ok.mod,ok.kind,ok.glob,ok.blt,ok.above,ok.inj,ok.has,ok.cab,ok.hd,ok.frames,ok.stk,ok.exf,ok.bs,ok.bsz,ok.noex,ok.exfs,ok.funs,ok.frf]
theorem Cx.Ok.unwish(ok:(X.wish E).Ok):X.Ok:=
 #[ok.mod,ok.kind,ok.glob,ok.blt,ok.above,ok.inj,ok.has,ok.cab,ok.hd,ok.frames,ok.stk,ok.exf,ok.bs,ok.bsz,ok.noex,ok.exfs,ok.funs,ok.frf]
section
theorem aM.wish(I:aM X pins σ H s)(E:Yd->Yi->Prop):aM (X.wish E) pins σ H s:=#[I.ok.wish E,I.os,I.bare,I.base,I.loc,I.cell,I.free,I.freeC,I.pin,I.hok,I.len]
theorem aM.unwish(I:aM (X.wish E) pins σ H s):aM X pins σ H s:=#[I.ok.unwish,I.os,I.bare,I.base,I.loc,I.cell,I.free,I.freeC,I.pin,I.hok,I.len]
theorem SP.unwish{f:Flow}(h:SP (X.wish E) pins D f s'):SP X pins D f s':=by
 cases f with
 |next=>obtain⟨σ',H',I,q⟩:=h;show#[σ',H',I.unwish,q]
 |brk=>obtain⟨σ',H',I,q⟩:=h;show#[σ',H',I.unwish,q]
 |cont=>obtain⟨σ',H',I,q⟩:=h;show#[σ',H',I.unwish,q]
 |ret u=>obtain⟨v,σ',H',I,r,q⟩:=h;show#[v,σ',H',I.unwish,r,q]
theorem IK.nox{st:List YI}{t:TS}(h:IK X.nox st t):IK X st t:=λpins s σ H D I hw=>
 pk (h pins s σ H D (I.wish _) hw) (λ_ _ q=>q.unwish) λ_ _ z=>ir z
end
section
variable{st:YI}{rest:List YI}{t u:TS}
def OE:TS:=λD σ H=>D.nx σ H
def aL(t u:TS):TS:=λD σ H=>t {D with nx:=u D} σ H
theorem bC:IK X [] OE:=λ_ _ σ H _ I h=>ahj #[σ,H,I,h]
theorem af(h1:PS X st t)(h2:IK X rest u):IK X (st::rest) (aL t u):=by
 intro pins s σ H D I h;show ali (cR (h1 pins s σ H {D with nx:=u D} I h) λf s1 q=>?_);cases f with
 |next=>
  obtain⟨σ',H',I',q⟩:=q;show h2 pins s1 σ' H' D I' q
 |ret v=>show q
 |brk=>show q
 |cont=>show q
theorem ai(h1:PS X st t):IK X [st] t:=by
 intro pins s σ H D I h;show ali (cR (h1 pins s σ H D I h) λf s1 q=>?_);cases f with
 |next=>show ahj q
 |ret v=>show q
 |brk=>show q
 |cont=>show q
def U3:TS:=λD σ H=>D.bk σ H
theorem To:PS X (.Break pos) U3:=λ_ _ σ H _ I h=>wpAny_Break #[σ,H,I,h]
theorem aM.quiet(I:aM X pins σ H s):interactive X.env=false:=by simp[interactive,I.ok.kind]
def Ti(te:TE):TS:=λD σ H=>te σ H λ_ H1=>D.nx σ H1
theorem bV(he:PE X e te)(hs:autoParam (aiB e Yb pos.line X.env=pure false) aq0):PS X (.Expr e pos) (Ti te):=by
 intro pins s σ H D I h;show wpAny_Expr_any (cR (he pins s σ H _ I h) λv s1 ⟨x,H1,I1,r1,q1⟩=>#[σ,H1,I1,q1]) I.quiet hs
def aaR(te:TE):TS:=λD σ H=>te σ H D.rt
theorem aF(he:PE X e te):PS X (.Return (Ya e) pos) (aaR te):=by
 intro pins s σ H D I h;show wpAny_Return_some (cR (he pins s σ H _ I h) λv s1 ⟨x,H1,I1,r1,q1⟩=>#[x,σ,H1,I1,r1,q1])
def aek:TS:=λD _ H=>D.rt .non H
theorem X1:PS X (.Return Yb pos) aek:=λ_ _ σ H _ I h=>wpAny_Return_none #[.non,σ,H,I,rfl,h]
def Xj(c:TT)(t u:TS):TS:=λD σ H=>c σ H λb H1=>if b=true then t D σ H1 else u D σ H1
theorem cW{a b:List YI}(hc:PT X c tc)(ha:IK X a t)(hb:IK X b u):PS X (.If c a b pos) (Xj tc t u):=by
 intro pins s σ H D I h;show wpAny_If (cR (hc pins s σ H _ I h) λd s1 zz=>?_);obtain⟨H1,I1,q1⟩:=zz;cases d with
 |true=>show ha pins s1 σ H1 D I1 q1
 |false=>show hb pins s1 σ H1 D I1 q1
def U4:TS:=λ_ _ _=>False
theorem cS:PS X st U4:=λ_ _ _ _ _ _ h=>h.elim
end
abbrev TG:=V->St->Hp->(St->Hp->Prop)->Prop
abbrev VY:=List V->St->Hp->(St->Hp->Prop)->Prop
def PG(X:Cx)(target:YY)(t:TG):Prop:=
 ∀(pins:List (Yc×Y8)) (s:Yi) (σ:St) (H:Hp) (v:V) (u:Yd) (Q:St->Hp->Prop),aM X pins σ H s->RelV v u->t v σ H Q->
  Yl (Yn X.prog X.w) X.A (assign target X.env u) (λ_ s'=>∃σ' H',aM X pins σ' H' s'/\Q σ' H') X.xe s
def PGs(X:Cx)(ts:List YY)(t:VY):Prop:=
 ∀(pins:List (Yc×Y8)) (s:Yi) (σ:St) (H:Hp) (vs:List V) (us:List Yd) (Q:St->Hp->Prop),aM X pins σ H s->Vals vs us->t vs σ H Q->
  Yl (Yn X.prog X.w) X.A (assignInOrder ((ahx ts X.env).map (·.2)) us) (λ_ s'=>∃σ' H',aM X pins σ' H' s'/\Q σ' H') X.xe s
section
def Gx(i:Nat):TG:=λv σ H Q=>Q (σ.set i (Ya v)) H
theorem bR(hN:X.N.Nodup)(hi:X.N[i]?=Ya x)(hx:Loc X.env.scope x)(hf:autoParam (X.fn x=true∨X.env.scope.names.lookup x=Ya .local) aq2):PG X (.Name x pos) (Gx i):=by
 intro pins s σ H v u Q I r h;show wpAny_assign_Name (zI I hN hi hx r (λs' I'=>#[_,H,I',h]) hf)
def acr:VY:=λvs σ H Q=>vs=[]/\Q σ H
def N9(t:TG)(u:VY):VY:=λvs σ H Q=>∃v r,vs=v::r/\t v σ H λσ' H'=>u r σ' H' Q
theorem HU:PGs X [] acr:=by
 intro pins s σ H vs us Q I r h;obtain⟨e,h⟩:=h;subst e;cases r;show assignInOrder_nil #[σ,H,I,h]
theorem qK{t:TG}{u:VY}(h1:PG X e t)(h2:PGs X es u)(hs:autoParam ((ahx (e::es) X.env).map (·.2)=assign e X.env::(ahx es X.env).map (·.2)) aq0):PGs X (e::es) (N9 t u):=by
 intro pins s σ H vs us Q I r h;obtain⟨v,vr,e1,h⟩:=h;subst e1;cases r with
 |cons r rr=>
  rw[hs];show assignInOrder_cons (cR (h1 pins s σ H _ _ _ I r h) λ_ s1 zz=>?_);obtain⟨σ1,H1,I1,q1⟩:=zz;show h2 pins s1 σ1 H1 _ _ Q I1 rr q1
def Xc(K:Ye)(n:Nat)(t:VY):TG:=λv σ H Q=>∃a xs,v=.ref a/\c8 K H a xs/\xs.length=n/\t xs σ H Q
theorem abU{t:VY}(hc:X.calm=true)(h:PGs X es t)(hn:autoParam ((ahx es X.env).length=n) aq0)(hst:autoParam ((ahx es X.env).findIdx? (·.1)=none) aq0):PG X (.Tuple es k pos) (Xc X.K n t):=by
 intro pins s σ H v u Q I r hw;obtain⟨a,xs,e1,hq,hl,hw⟩:=hw;subst e1;cases r;obtain⟨its,rv,ht,hz⟩:=I.tuple hq;show assign_Tuple_tuple (I.ok.hd hc) ht (by simp[hn,←hl,rv.length]) hst λh' hx=>?_;have I1:aM X pins σ H {s with heap:=h'}:=I.kept (t':=s.toks) λb o e=>hx b o (YB (Yt e)) e;show h pins _ σ H xs _ Q I1 (by simpa using rv) hw
def abn(te:TE)(g:TG):TS:=λD σ H=>te σ H λx H1=>g x σ H1 D.nx
theorem bh(hN:X.N.Nodup)(hi:X.N[i]?=Ya x)(hx:Loc X.env.scope x)(he:PE X e te)(hs:autoParam (aiB e (Ya (.Name x pos')) pos.line X.env=pure false) aq0)(hf:autoParam (X.fn x=true∨X.env.scope.names.lookup x=Ya .local) aq2):
  PS X (.Assign [.Name x pos'] e pos) (abn te (Gx i)):=by
 intro pins s σ H D I h;show wpAny_Assign_Name (cR (he pins s σ H _ I h) λv s1 zz=>?_) hs;obtain⟨y,H1,I1,r1,q1⟩:=zz;show zI I1 hN hi hx r1 (λs2 I2=>#[_,H1,I2,q1]) hf
end
section
def Nk(c:TT)(tb:TS):TS:=λD σ H=>∃W:Nat->St->Hp->Prop,(∃m,W m σ H)/\∀m σ H,W m σ H->
 c σ H λb H1=>if b=true then∃N:St->Hp->Prop,(∀σ' H',N σ' H'->∃m',m'<m/\W m' σ' H')/\tb {D with nx:=N,ct:=N,bk:=D.nx} σ H1 else D.nx σ H1
theorem Ez(hp:PassesOwn (Yn X.prog X.w) X.A X.env X.xe)(hc:PT X c tc)(hb:IK X body tb):PS X (.While c body [] pos) (Nk tc tb):=by
 intro pins s σ H D I h;obtain⟨W,⟨m0,w0⟩,turn⟩:=h;show wpAny_While (codeAny_whileLoop (λn s'=>∃σ' H',aM X pins σ' H' s'/\W n σ' H') ?_ m0 #[σ,H,I,w0]);rintro n s1 ⟨σ1,H1,I1,w1⟩;show agb hp (cR (hc pins s1 σ1 H1 _ I1 (turn n σ1 H1 w1)) λb s2 zz=>?_);obtain⟨H2,I2,q2⟩:=zz;cases b with
 |true=>
  obtain⟨N,hN,q2⟩:=q2;rw[if_pos rfl];show agb hp (cR (hb pins s2 σ1 H2 _ I2 q2) λf s3 q3=>?_);cases f with
  |next=>
   obtain⟨σ3,H3,I3,n3⟩:=q3;obtain⟨m',hm,w3⟩:=hN σ3 H3 n3;show#[m',hm,σ3,H3,I3,w3]
  |cont=>
   obtain⟨σ3,H3,I3,n3⟩:=q3;obtain⟨m',hm,w3⟩:=hN σ3 H3 n3;show#[m',hm,σ3,H3,I3,w3]
  |brk=>show q3
  |ret v=>show q3
 |false=>
  rw[if_neg YQ];show ahj #[σ1,H2,I2,q2]
end
structure It where
 go:Nat->Hp->Prop
 yld:Nat->Hp->V->Hp->Prop
 stop:Nat->Hp->Prop
def ya(X:Cx)(pins:List (Yc×Y8))(H:Hp)(b:Yc):Prop:=
 H b=Yb/\b≠X.env.locals/\b∉X.fs/\(b∈X.ex∨X.s₀.heap.objs.size<=b)/\(∀x c,X.env.cells.lookup x=Ya c->c≠b)/\∀p∈X.pn++pins,p.1≠b
theorem aM.fpOk(I:aM X pins σ H s)(hb:s.heap.objs.size<=b)(hn:H' b=Yb):ya X pins H' b:=by
 show#[hn,agu (YT I.lt hb),I.nofs hb,.inr (oh I.sz hb),λx c e z=>?_,λp hp z=>?_]
 .obtain⟨v,q⟩:=I.cell x c e;show absurd (YT q.lt (by rw[z];show hb)) (Y7 _)
 .show absurd (YT (Yt (I.pin p hp).1) (by rw[z];show hb)) (Y7 _)
structure Turn(P:YU)(w:YZ)(K:Ye)(tg:YY)(J:It)(fp:List Yc)(it:Yc)(tn:Nat->YO->Prop):Prop where
 mem:it∈fp
 obj:∀i h,tn i h->∀b∈fp,∃o,h.get? b=Ya o/\∀v,o.data≠.cell v
 keep:∀i h h',tn i h->(∀b∈fp,∀o,h.get? b=Ya o->h'.get? b=Ya o)->tn i h'
 item:∀(X:Cx),X.prog=P->X.w=w->X.K=K->X.calm=true->∀(i:Nat) (pins:List (Yc×Y8)) (s:Yi) (σ:St) (H:Hp) (E:Yd->Yi->Prop),aM X pins σ H s->(∀b∈fp,ya X pins H b)->tn i s.heap->J.go i H->
  Yl (Yn P w) X.A (adi (.ref it)) (λr s1=>∃u,r=Ya u/\
   Yl (Yn P w) X.A (ah3 tg (.ref it) u) (λ_ s2=>∃x H',aM X pins σ H' s2/\RelV x u/\J.yld i H x H'/\tn (i+ 1) s2.heap/\∀b∈fp,H' b=Yb) E s1) E s
 done:∀(X:Cx),X.prog=P->X.w=w->X.K=K->X.calm=true->∀(i:Nat) (pins:List (Yc×Y8)) (s:Yi) (σ:St) (H:Hp) (E:Yd->Yi->Prop),aM X pins σ H s->(∀b∈fp,ya X pins H b)->tn i s.heap->J.stop i H->
  Yl (Yn P w) X.A (adi (.ref it)) (λr s1=>r=Yb/\aM X pins σ H s1) E s
 self:∀(A:sq) (i:Nat) (s:Yi) (Q:Yd->Yi->Prop) (E:Yd->Yi->Prop),tn i s.heap->Q (.ref it) s->Yl (Yn P w) A (aiC (.ref it)) Q E s
abbrev TI:=St->Hp->(It->Hp->Prop)->Prop
def PIE(X:Cx)(pins:List (Yc×Y8))(σ:St)(tg:YY)(R:It->Hp->Prop)(itv:Yd)(s2:Yi):Prop:=
 ∃(it:Yc) (fp:List Yc) (tn:Nat->YO->Prop) (J:It) (H':Hp),itv=.ref it/\aM X pins σ H' s2/\Turn X.prog X.w X.K tg J fp it tn/\tn 0 s2.heap/\(∀b∈fp,ya X pins H' b)/\R J H'
def PI(X:Cx)(tg iter:YY)(wi:TI):Prop:=
 ∀(pins:List (Yc×Y8)) (s:Yi) (σ:St) (H:Hp) (R:It->Hp->Prop),aM X pins σ H s->wi σ H R->
  Yl (Yn X.prog X.w) X.A (Y3 iter X.env) (λv s1=>Yl (Yn X.prog X.w) X.A (aiC v) (PIE X pins σ tg R) X.xe s1) X.xe s
theorem Pz{o:Y8}{n:String}{vs:Array Yd}{Q:Unit->Yi->Prop}(ho:s.heap.get? it=Ya o)(hc:o.cls=.type n)(hd:o.data=.fields vs)(hn:["enumerate","zip","dict_itemiterator","dict_reverseitemiterator","odict_iterator","itertools.zip_longest","itertools.pairwise"].contains n=false)(hQ:Q () s):Yl M A (ah3 tg (.ref it) u) Q E s:=by
 unfold ah3;cases tg<;>first
  |show Yk hQ
  |(cases u<;>first
    |show Yk hQ
    |(show Yf (wpAny_load ho ?_)
      rw[hc,hd];change Yl M A (if(["enumerate","zip","dict_itemiterator","dict_reverseitemiterator","odict_iterator","itertools.zip_longest","itertools.pairwise"].contains n&&vs[0]?==Ya (rawInt _))=true then _ else _) Q E s;rw[if_neg (by intro h;rw[hn,agr]at h;cases h)];show Yk hQ))
noncomputable def U0(K:Ye)(a:Yc):It:=
 #[λi H=>∃xs x,bZ K H a xs/\xs[i]?=Ya x,λi H x H'=>H'=H/\∀xs,bZ K H a xs->xs[i]?=Ya x,λi H=>∃xs,bZ K H a xs/\xs.length<=i]
noncomputable def Wr(K:Ye)(a:Yc):It:=
 #[λi H=>∃xs x,c8 K H a xs/\xs[i]?=Ya x,λi H x H'=>H'=H/\∀xs,c8 K H a xs->xs[i]?=Ya x,λi H=>∃xs,c8 K H a xs/\xs.length<=i]
noncomputable def V1(lo:Int)(n:Nat):It:=#[λi _=>i<n,λi H x H'=>H'=H/\x=.int (lo+ i),λi _=>n<=i]
theorem Gf(a it:Yc):Turn P w K tg (U0 K a) [it] it (λi h=>h.IsListIter it a i) where
 mem:=by simp
 obj:=λi h st b hb=>by
  have e:b=it:=by simpa using hb
  subst e;obtain⟨o,e,c,d⟩:=st;show#[o,e,λv z=>by rw[d]at z;cases z]
 keep:=λi h h' st k=>st.at λo e=>k it (by simp) o e
 item:=by
  intro X hP hw hK hc i pins s σ H E I hf st hg;subst hP hw hK;obtain⟨xs,x,hq,hx⟩:=hg;obtain⟨its,rv,p,hz⟩:=I.list hq;obtain⟨u,hu,ru⟩:=rv.get hx;obtain⟨f0,f1,f2,f3,f4,f5⟩:=hf it (by simp);show wpAny_pyNext_list_item st p.isList (x:=u) (by simpa using hu) λh' st' sb=>?_;have I1:aM X pins σ H {s with heap:=h'}:=I.turned (t':=s.toks) (λb o hb e=>(sb.2 b hb).trans e) f0 f1 f3 f4 f5;obtain⟨o,e,c,d⟩:=id st';show#[u,rfl,Pz (s:={s with heap:=h'}) e c d (by decide) #[x,H,I1,ru,#[rfl,λys hy=>by rw[I.list_inj hy hq];show hx],st',λb hb=>(hf b hb).1]]
 done:=by
  intro X hP hw hK hc i pins s σ H E I hf st hg;subst hP hw hK;obtain⟨xs,hq,hx⟩:=hg;obtain⟨its,rv,p,hz⟩:=I.list hq;obtain⟨f0,f1,f2,f3,f4,f5⟩:=hf it (by simp);have hl:=rv.length;show wpAny_pyNext_list_end (I.ok.hd hc) st p.isList (by simp;omega) λh' eb=>#[rfl,I.turned (t':=s.toks) (λb o hb e=>eb b o hb e) f0 f1 f3 f4 f5]
 self:=λ_ _ _ _ _ st h=>wpAny_pyIter_listiter st h
theorem NB(a it:Yc):Turn P w K tg (Wr K a) [it] it (λi h=>h.IsTupleIter it a i) where
 mem:=by simp
 obj:=λi h st b hb=>by
  have e:b=it:=by simpa using hb
  subst e;obtain⟨o,e,c,d⟩:=st;show#[o,e,λv z=>by rw[d]at z;cases z]
 keep:=λi h h' st k=>st.at λo e=>k it (by simp) o e
 item:=by
  intro X hP hw hK hc i pins s σ H E I hf st hg;subst hP hw hK;obtain⟨xs,x,hq,hx⟩:=hg;obtain⟨its,rv,p,hz⟩:=I.tuple hq;obtain⟨u,hu,ru⟩:=rv.get hx;obtain⟨f0,f1,f2,f3,f4,f5⟩:=hf it (by simp);show wpAny_pyNext_tuple_item st (show s.heap.IsTuple a its.toArray from p) (x:=u) (by simpa using hu) λh' st' sb=>?_;have I1:aM X pins σ H {s with heap:=h'}:=I.turned (t':=s.toks) (λb o hb e=>(sb.2 b hb).trans e) f0 f1 f3 f4 f5;obtain⟨o,e,c,d⟩:=id st';show#[u,rfl,Pz (s:={s with heap:=h'}) e c d (by decide) #[x,H,I1,ru,#[rfl,λys hy=>by rw[I.tuple_inj hy hq];show hx],st',λb hb=>(hf b hb).1]]
 done:=by
  intro X hP hw hK hc i pins s σ H E I hf st hg;subst hP hw hK;obtain⟨xs,hq,hx⟩:=hg;obtain⟨its,rv,p,hz⟩:=I.tuple hq;obtain⟨f0,f1,f2,f3,f4,f5⟩:=hf it (by simp);have hl:=rv.length;show wpAny_pyNext_tuple_end (I.ok.hd hc) st (show s.heap.IsTuple a its.toArray from p) (by simp;omega) λh' eb=>#[rfl,I.turned (t':=s.toks) (λb o hb e=>eb b o hb e) f0 f1 f3 f4 f5]
 self:=λ_ _ _ _ _ st h=>wpAny_pyIter_tupleiter st h
theorem Ni(it:Yc)(lo:Int)(n:Nat):Turn P w K tg (V1 lo n) [it] it (λi h=>IsRangeIter h it (lo+ (i:Nat)*1) ((n:Int)-(i:Nat)) 1) where
 mem:=by simp
 obj:=λi h st b hb=>by
  have e:b=it:=by simpa using hb
  subst e;show#[_,st,λv z=>by
   have z':Data.fields _=Data.cell v:=z;cases z']
 keep:=λi h h' st k=>k it (by simp) _ st
 item:=by
  intro X hP hw hK hc i pins s σ H E I hf st hg;subst hP hw hK;obtain⟨f0,f1,f2,f3,f4,f5⟩:=hf it (by simp);have W:=Walks.range (prog:=X.prog) (w:=X.w) (I.ok.hd hc) it lo 1 n;show W.item i s _ _ hg st λv h' tk hv st' kk=>?_;obtain⟨t,rfl⟩:=hv;have I1:aM X pins σ H {s with heap:=h',toks:=tk}:=I.turned (λb o hb e=>kk b o (by simpa using hb) e) f0 f1 f3 f4 f5;show#[_,rfl,Pz (s:={s with heap:=h',toks:=tk}) (n:="range_iterator") st' rfl rfl (by decide) #[.int (lo+ i),H,I1,#[t,?_],#[rfl,rfl],st',λb hb=>(hf b hb).1]];rw[Int.mul_one]
 done:=by
  intro X hP hw hK hc i pins s σ H E I hf st hg;subst hP hw hK;obtain⟨f0,f1,f2,f3,f4,f5⟩:=hf it (by simp);show wpAny_pyNext_range_end (I.ok.hd hc) st (by have:n<=i:=hg;omega) λh' eb=>#[rfl,I.turned (t':=s.toks) (λb o hb e=>eb b o hb e) f0 f1 f3 f4 f5]
 self:=λ_ _ _ _ _ st h=>wpAny_pyIter_rangeiter st h
section
def Uj(K:Ye)(tl:TE):TI:=λσ H R=>tl σ H λx H1=>∃a,x=.ref a/\(∃xs,bZ K H1 a xs)/\R (U0 K a) H1
theorem V8{l:YY}{tl:TE}(hl:PE X l tl):PI X tg l (Uj X.K tl):=by
 intro pins s σ H R I h;show cR (hl pins s σ H _ I h) λv s1 zz=>?_;obtain⟨x,H1,I1,r1,q1⟩:=zz;obtain⟨a,e,⟨xs,hq⟩,q⟩:=q1;subst e;cases r1;obtain⟨its,rv,p,hz⟩:=I1.list hq;show afG p.isList ?_;show#[s1.heap.objs.size,[s1.heap.objs.size],_,_,H1,rfl,I1.kept (t':=s1.toks) λb o e=>Yg _ e,Gf a _,#[_,Ys _ rfl,rfl,rfl],λb hb=>?_,q];have e:b=s1.heap.objs.size:=by simpa using hb
 subst e;show I1.fpOk (Ym _) (I1.hok.fresh (Ym _))
theorem Ue{R:It->Hp->Prop}{hi:Int}{t u v:agl}{tk:Nat}(I:aM X pins σ H s)(h1:-(2^62)<=lo)(h2:lo<2^62)(h3:-(2^62)<=hi)(h4:hi<2^62)(q:R (V1 lo (hi-lo).toNat) H):Yl (Yn X.prog X.w) X.A (aiC (.ref s.heap.objs.size)) (PIE X pins σ tg R) E {s with heap:=s.heap.push {cls:=.type "range",data:=.fields (afs [.int lo t,.int hi u,.int 1 v])},toks:=tk}:=by
 show wpAny_pyIter_range (IsRange.new ..) (small_one h1 h2 h3 h4) ?_;have I1:aM X pins σ H {s with heap:=s.heap.push {cls:=.type "range",data:=.fields (afs [.int lo t,.int hi u,.int 1 v])},toks:=tk}:=I.kept λb o e=>Yg _ e;show#[(s.heap.push {cls:=.type "range",data:=.fields (afs [.int lo t,.int hi u,.int 1 v])}).objs.size,[(s.heap.push {cls:=.type "range",data:=.fields (afs [.int lo t,.int hi u,.int 1 v])}).objs.size],_,_,H,rfl,
  I1.kept (t':=tk) λb o e=>Yg _ e,Ni _ lo (hi-lo).toNat,?_,λb hb=>?_,q]
 .have e1:lo+ ((0:Nat):Int)*1=lo:=by simp
  have e2:(((hi-lo).toNat:Nat):Int)-((0:Nat):Int)=Builtin.Range.rangeSize lo hi 1:=by rw[rangeSize_one];split<;>omega
  change IsRangeIter _ _ (lo+ ((0:Nat):Int)*1) ((((hi-lo).toNat:Nat):Int)-((0:Nat):Int)) 1;rw[e1,e2];show Ys _ rfl
 .have e:b=(s.heap.push {cls:=.type "range",data:=.fields (afs [.int lo t,.int hi u,.int 1 v])}).objs.size:=by simpa using hb
  subst e;show I1.fpOk (Ym _) (I1.hok.fresh (Ym _))
def aaC(ta:TA):TI:=λσ H R=>ta σ H λvs H1=>∃j:Int,vs=[.int j]/\-(2^62)<=j/\j<2^62/\R (V1 0 j.toNat) H1
theorem AD{a:YY}{ta:TA}(hg:Gl X "range")(hm:X.mg "range"=Yb)(ha:PA X [a] ta)(hs:autoParam (YC [a] X.env=[(false,Y3 a X.env)]) aq0):PI X tg (.Call (.Name "range" p) [a] [] pos) (aaC ta):=by
 intro pins s σ H R I h;show Call_ (xC I hg hm boot_range (aiD (cR (ha pos pins s σ H _ I h) λus s1 zz=>?_) hs rfl));obtain⟨vs,H1,I1,r1,q1⟩:=zz;obtain⟨j,e,q1,q2,q⟩:=q1;subst e;cases r1 with
 |cons r rr=>
  cases rr;obtain⟨t,rfl⟩:=r;show call_range_1 (Ue I1 (by omega) (by omega) q1 q2 (by simpa using q))
def WV(wi:TI)(g:TG)(tb:TS):TS:=λD σ H=>wi σ H λJ H1=>∃W:Nat->Nat->St->Hp->Prop,(∃m,W 0 m σ H1)/\∀i m σ H,W i m σ H->
 (J.stop i H/\D.nx σ H)∨(J.go i H/\∃N:St->Hp->Prop,(∀σ' H',N σ' H'->∃m',m'<m/\W (i+ 1) m' σ' H')/\∀x H',J.yld i H x H'->g x σ H' λσ2 H2=>tb {D with nx:=N,ct:=N,bk:=D.nx} σ2 H2)
noncomputable def AL(fp:List Yc)(h:YO):List (Yc×Y8):=fp.filterMap λb=>(h.get? b).map λo=>(b,o)
theorem js{o:Y8}(hb:b∈fp)(e:h.get? b=Ya o):(b,o)∈AL fp h:=agK.mpr #[b,hb,by rw[e];rfl]
theorem Rf{p:Yc×Y8}(hp:p∈AL fp h):p.1∈fp/\h.get? p.1=Ya p.2:=by
 obtain⟨b,hb,e⟩:=agK.mp hp;cases q:h.get? b with
 |none=>rw[q]at e;cases e
 |some o=>
  rw[q]at e;have e':(b,o)=p:=YM e;subst e';show#[hb,q]
theorem aM.pinned(I:aM X pins σ H s)(hf:∀b∈fp,ya X pins H b)(ho:∀b∈fp,∃o,s.heap.get? b=Ya o/\∀v,o.data≠.cell v):aM X (pins++AL fp s.heap) σ H s:=
 I.pins_of λp hp=>(YV.mp hp).elim (λz=>I.pin p (YE _ z)) λz=>by
  obtain⟨hb,e⟩:=Rf z;obtain⟨f0,f1,f2,_⟩:=hf p.1 hb;obtain⟨o,e',d⟩:=ho p.1 hb;rw[e]at e';cases e';show#[e,f0,f1,f2,d]
theorem aM.unpinned{pl:List (Yc×Y8)}(I:aM X (pins++pl) σ H s):aM X pins σ H s:=I.pins_of λp hp=>I.pin p (YE _ (pe _ hp))
theorem pO{iter:YY}{wi:TI}{g:TG}(hp:PassesOwn (Yn X.prog X.w) X.A X.env X.xe)(hc:X.calm=true)(hi:PI X tg iter wi)(hg:PG X tg g)(hb:IK X body tb)(hs:autoParam (∀x,akW iter X.env x=pure x) aq4):PS X (.For tg iter body [] pos) (WV wi g tb):=by
 intro pins s σ H D I h;show wpAny_For (cR (hi pins s σ H _ I h) λv s1 h1=>cR h1 λitv s2 h2=>?_) hs;obtain⟨it,fp,tn,J,H2,e,I2,T,st2,f2,W,⟨m0,w0⟩,turn⟩:=h2;subst e
 -- what stays true of the iterator's objects through the loop
 have stat:∀{H':Hp},(∀b∈fp,H' b=Yb)->∀b∈fp,ya X pins H' b:=λhn b hb=>#[hn b hb,(f2 b hb).2];show codeAny_forLoop_any (λn s'=>∃i σ' H',aM X pins σ' H' s'/\tn i s'.heap/\(∀b∈fp,H' b=Yb)/\W i n σ' H') ?_ m0 #[0,σ,H2,I2,st2,λb hb=>(f2 b hb).1,w0];rintro n s3 ⟨i,σ3,H3,I3,st3,fr3,w3⟩;rcases turn i n σ3 H3 w3 with⟨stop,qn⟩|⟨go,N,hN,step⟩
 .show agb hp (cR (T.done X rfl rfl rfl hc i pins s3 σ3 H3 X.xe I3 (stat fr3) st3 stop) λr s4 zz=>?_);obtain⟨hr,I4⟩:=zz;subst hr;show ahj #[σ3,H3,I4,qn]
 .show agb hp (cR (T.item X rfl rfl rfl hc i pins s3 σ3 H3 X.xe I3 (stat fr3) st3 go) λr s4 zz=>?_);obtain⟨u,hr,h4⟩:=zz;subst hr;show agb hp (cR h4 λ_ s5 zz=>?_);obtain⟨x,H5,I5,r5,y5,st5,fr5⟩:=zz;have I5':=I5.pinned (stat fr5) (T.obj _ _ st5);show agb hp (cR (hg _ s5 σ3 H5 x u _ I5' r5 (step x H5 y5)) λ_ s6 zz=>?_);obtain⟨σ6,H6,I6,q6⟩:=zz;show agb hp (cR (hb _ s6 σ6 H6 _ I6 q6) λf s7 q7=>?_);have again:∀{σ7:St} {H7:Hp},aM X (pins++AL fp s5.heap) σ7 H7 s7->N σ7 H7->∃m,m<n/\∃i σ' H',aM X pins σ' H' s7/\tn i s7.heap/\(∀b∈fp,H' b=Yb)/\W i m σ' H':=fun{σ7 H7} I7 n7=>by
   obtain⟨m',hm,w7⟩:=hN σ7 H7 n7;show#[m',hm,i+ 1,σ7,H7,I7.unpinned,T.keep _ _ _ st5 λb hb o e=>(I7.pin (b,o) (YE _ (YE _ (js hb e)))).1,λb hb=>?_,w7];obtain⟨o,e,d⟩:=T.obj _ _ st5 b hb;show(I7.pin (b,o) (YE _ (YE _ (js hb e)))).2.1
  cases f with
  |next=>obtain⟨σ7,H7,I7,n7⟩:=q7;show again I7 n7
  |cont=>obtain⟨σ7,H7,I7,n7⟩:=q7;show again I7 n7
  |brk=>obtain⟨σ7,H7,I7,q7⟩:=q7;show#[σ7,H7,I7.unpinned,q7]
  |ret v=>obtain⟨x7,σ7,H7,I7,r7,q7⟩:=q7;show#[x7,σ7,H7,I7.unpinned,r7,q7]
end
theorem j0{xs:List V}{g:TG}(Pv:Nat->St->Hp->Prop)(h0:Pv 0 σ H)(hl:∀i σ H,i<=xs.length->Pv i σ H->bZ K H a xs)(hs:∀i x σ H,xs[i]?=Ya x->Pv i σ H->g x σ H λσ2 H2=>tb {D with nx:=Pv (i+ 1),ct:=Pv (i+ 1),bk:=D.nx} σ2 H2)(hd:∀σ H,Pv xs.length σ H->D.nx σ H):
  ∃W:Nat->Nat->St->Hp->Prop,(∃m,W 0 m σ H)/\∀i m σ H,W i m σ H->
   ((U0 K a).stop i H/\D.nx σ H)∨((U0 K a).go i H/\∃N:St->Hp->Prop,(∀σ' H',N σ' H'->∃m',m'<m/\W (i+ 1) m' σ' H')/\∀x H',(U0 K a).yld i H x H'->g x σ H' λσ2 H2=>tb {D with nx:=N,ct:=N,bk:=D.nx} σ2 H2):=by
 show#[λi m σ H=>m=xs.length-i/\i<=xs.length/\Pv i σ H,#[xs.length,by simp,Y1 _,h0],?_];rintro i m σ H ⟨rfl,hi,p⟩;have q:=hl i σ H hi p;by_cases hlt:i<xs.length
 .show .inr #[#[xs,xs[i],q,by simp[hlt]],Pv (i+ 1),λσ' H' p'=>#[xs.length-(i+ 1),by omega,rfl,hlt,p'],λx H' y=>?_];obtain⟨e,y⟩:=y;subst e;show hs i x σ _ (y xs q) p
 .have e:i=xs.length:=by omega
  subst e;show .inl #[#[xs,q,Ym _],hd σ H p]
theorem W5{xs:List V}{g:TG}(Pv:Nat->St->Hp->Prop)(h0:Pv 0 σ H)(hl:∀i σ H,i<=xs.length->Pv i σ H->c8 K H a xs)(hs:∀i x σ H,xs[i]?=Ya x->Pv i σ H->g x σ H λσ2 H2=>tb {D with nx:=Pv (i+ 1),ct:=Pv (i+ 1),bk:=D.nx} σ2 H2)(hd:∀σ H,Pv xs.length σ H->D.nx σ H):
  ∃W:Nat->Nat->St->Hp->Prop,(∃m,W 0 m σ H)/\∀i m σ H,W i m σ H->
   ((Wr K a).stop i H/\D.nx σ H)∨((Wr K a).go i H/\∃N:St->Hp->Prop,(∀σ' H',N σ' H'->∃m',m'<m/\W (i+ 1) m' σ' H')/\∀x H',(Wr K a).yld i H x H'->g x σ H' λσ2 H2=>tb {D with nx:=N,ct:=N,bk:=D.nx} σ2 H2):=by
 show#[λi m σ H=>m=xs.length-i/\i<=xs.length/\Pv i σ H,#[xs.length,by simp,Y1 _,h0],?_];rintro i m σ H ⟨rfl,hi,p⟩;have q:=hl i σ H hi p;by_cases hlt:i<xs.length
 .show .inr #[#[xs,xs[i],q,by simp[hlt]],Pv (i+ 1),λσ' H' p'=>#[xs.length-(i+ 1),by omega,rfl,hlt,p'],λx H' y=>?_];obtain⟨e,y⟩:=y;subst e;show hs i x σ _ (y xs q) p
 .have e:i=xs.length:=by omega
  subst e;show .inl #[#[xs,q,Ym _],hd σ H p]
theorem Hg{g:TG}(Pv:Nat->St->Hp->Prop)(h0:Pv 0 σ H)(hs:∀i σ H,i<n->Pv i σ H->g (.int (lo+ i)) σ H λσ2 H2=>tb {D with nx:=Pv (i+ 1),ct:=Pv (i+ 1),bk:=D.nx} σ2 H2)(hd:∀σ H,Pv n σ H->D.nx σ H):
  ∃W:Nat->Nat->St->Hp->Prop,(∃m,W 0 m σ H)/\∀i m σ H,W i m σ H->
   ((V1 lo n).stop i H/\D.nx σ H)∨((V1 lo n).go i H/\∃N:St->Hp->Prop,(∀σ' H',N σ' H'->∃m',m'<m/\W (i+ 1) m' σ' H')/\∀x H',(V1 lo n).yld i H x H'->g x σ H' λσ2 H2=>tb {D with nx:=N,ct:=N,bk:=D.nx} σ2 H2):=by
 show#[λi m σ H=>m=n-i/\i<=n/\Pv i σ H,#[n,by simp,Y1 _,h0],?_];rintro i m σ H ⟨rfl,hi,p⟩;by_cases hlt:i<n
 .show .inr #[hlt,Pv (i+ 1),λσ' H' p'=>#[n-(i+ 1),by omega,rfl,hlt,p'],λx H' y=>?_];obtain⟨e,y⟩:=y;subst e y;show hs i σ _ hlt p
 .have e:i=n:=by omega
  subst e;show .inl #[Ym _,hd σ H p]
abbrev R2:=V->V->Hp->VK->Prop
variable{r:R2}
def sI(X:Cx)(f:Yd->Yd->ag1 Yd)(r:R2):Prop:=
 ∀(pins:List (Yc×Y8)) (s:Yi) (σ:St) (H:Hp) (x y:V) (v u:Yd) (Q:VK),aM X pins σ H s->RelV x v->RelV y u->r x y H Q->
  Yl (Yn X.prog X.w) X.A (f v u) (EP X pins σ Q) X.xe s
def UnR(X:Cx)(f:Yd->ag1 Yd)(r:V->Hp->VK->Prop):Prop:=
 ∀(pins:List (Yc×Y8)) (s:Yi) (σ:St) (H:Hp) (x:V) (v:Yd) (Q:VK),aM X pins σ H s->RelV x v->r x H Q->
  Yl (Yn X.prog X.w) X.A (f v) (EP X pins σ Q) X.xe s
def eU(X:Cx)(f:Yd)(r:List V->Hp->VK->Prop):Prop:=
 ∀(pins:List (Yc×Y8)) (s:Yi) (σ:St) (H:Hp) (xs:List V) (us:List Yd) (Q:VK),aM X pins σ H s->Vals xs us->r xs H Q->
  Yl (Yn X.prog X.w) X.A (call f us) (EP X pins σ Q) X.xe s
def afA(X:Cx)(r:V->Hp->(Bool->Hp->Prop)->Prop):Prop:=
 ∀(pins:List (Yc×Y8)) (s:Yi) (σ:St) (H:Hp) (x:V) (v:Yd) (Q:Bool->Hp->Prop),aM X pins σ H s->RelV x v->r x H Q->
  Yl (Yn X.prog X.w) X.A (truthy v) (TP X pins σ Q) X.xe s
def tOp(r:R2)(ta tb:TE):TE:=λσ H Q=>ta σ H λx H1=>tb σ H1 λy H2=>r x y H2 Q
def tUn(r:V->Hp->VK->Prop)(ta:TE):TE:=λσ H Q=>ta σ H λx H1=>r x H1 Q
def rI(C:Int->Int->Prop)(g:Int->Int->V):R2:=λx y H Q=>∃i j,x=.int i/\y=.int j/\C i j/\Q (g i j) H
def RV(g:Int->Int->V):R2:=λx y H Q=>∃i j,x=.int i/\y=.int j/\Q (g i j) H
def rU(g:Int->V):V->Hp->VK->Prop:=λx H Q=>∃i,x=.int i/\Q (g i) H
section
variable{a b:YY}{tb:TE}
theorem acE(ha:PE X a ta)(hb:PE X b tb)(I:aM X pins σ H s)(h:ta σ H λx H1=>tb σ H1 λy H2=>R x y H2)(hf:∀v u s2 x y H2,aM X pins σ H2 s2->RelV x v->RelV y u->R x y H2->Yl (Yn X.prog X.w) X.A (f v u) Q X.xe s2):
  Yl (Yn X.prog X.w) X.A (Y3 a X.env) (λv s₁=>Yl (Yn X.prog X.w) X.A (Y3 b X.env) (λu s₂=>Yl (Yn X.prog X.w) X.A (f v u) Q X.xe s₂) X.xe s₁) X.xe s:=by
 show cR (ha pins s σ H _ I h) λv s1 zz=>?_;obtain⟨x,H1,I1,r1,q1⟩:=zz;show cR (hb pins s1 σ H1 _ I1 q1) λu s2 zz=>?_;obtain⟨y,H2,I2,r2,q2⟩:=zz;show hf v u s2 x y H2 I2 r1 r2 q2
theorem bw{op:Operator}(ho:sI X (agv op) r)(ha:PE X a ta)(hb:PE X b tb):PE X (.BinOp a op b pos) (tOp r ta tb):=by
 intro pins s σ H Q I h;show wpAny_BinOp (acE ha hb I h λv u s2 x y H2 I2 rx ry q=>ho pins s2 σ H2 x y v u Q I2 rx ry q)
theorem Eg{op:UnaryOp}{r:V->Hp->VK->Prop}(ho:UnR X (am6 op) r)(ha:PE X a ta):PE X (.UnaryOp op a pos) (tUn r ta):=by
 intro pins s σ H Q I h;show UnaryOp_ (cR (ha pins s σ H _ I h) λv s1 ⟨x,H1,I1,r1,q1⟩=>ho pins s1 σ H1 x v Q I1 r1 q1)
theorem opI{C:Int->Int->Prop}(rule:∀(i j:Int) (t u:agl) (s:Yi) (Q:Yd->Yi->Prop) (E:Yd->Yi->Prop),C i j->Q (.int (g i j) s.toks) {s with toks:=s.toks+ 1}->Yl (Yn X.prog X.w) X.A (f (.int i t) (.int j u)) Q E s):
  sI X f (rI C λi j=>.int (g i j)):=by
 intro pins s σ H x y v u Q I rx ry h;obtain⟨i,j,rfl,rfl,hc,q⟩:=h;obtain⟨t,rfl⟩:=rx;obtain⟨t',rfl⟩:=ry;show rule i j t t' s _ _ hc #[.int (g i j),H,I.tok _,#[_,rfl],q]
theorem Wm(rule:∀(i j:Int) (t u:agl) (s:Yi) (Q:Yd->Yi->Prop) (E:Yd->Yi->Prop),Q (.int (g i j) s.toks) {s with toks:=s.toks+ 1}->Yl (Yn X.prog X.w) X.A (f (.int i t) (.int j u)) Q E s):
  sI X f (RV λi j=>.int (g i j)):=by
 intro pins s σ H x y v u Q I rx ry h;obtain⟨i,j,rfl,rfl,q⟩:=h;obtain⟨t,rfl⟩:=rx;obtain⟨t',rfl⟩:=ry;show rule i j t t' s _ _ #[.int (g i j),H,I.tok _,#[_,rfl],q]
theorem WT{g:Int->Int->Bool}(rule:∀(i j:Int) (t u:agl) (s:Yi) (Q:Yd->Yi->Prop) (E:Yd->Yi->Prop),Q (.bool (g i j)) s->Yl (Yn X.prog X.w) X.A (f (.int i t) (.int j u)) Q E s):
  sI X f (RV λi j=>.bl (g i j)):=by
 intro pins s σ H x y v u Q I rx ry h;obtain⟨i,j,rfl,rfl,q⟩:=h;obtain⟨t,rfl⟩:=rx;obtain⟨t',rfl⟩:=ry;show rule i j t t' s _ _ #[.bl (g i j),H,I,rfl,q]
def afx(i j:Int):Prop:=0<j/\j<1073741824
def BU(i j:Int):Prop:=0<=j/\j<=1000000/\i.natAbs<2^64
def UA(i j:Int):Prop:=(-(2^64)<i/\i<2^64)∨(-(2^64)<j/\j<2^64)
theorem UA.ok{i j:Int}(h:UA i j):IntMulOk i j:=by
 rcases h with⟨h1,h2⟩|⟨h1,h2⟩
 .show .of_left (amu h1 h2)
 .show .of_right (amu h1 h2)
theorem Ee(k:Nat):(0:Int)<=2^k:=by
 rw[two_pow_cast];show aiE _
theorem iV:sI X (agv .Add) (RV λi j=>.int (i+ j)):=Wm λ_ _ _ _ _ _ _ q=>add_int q
theorem NF:sI X (agv .Sub) (RV λi j=>.int (i-j)):=Wm λ_ _ _ _ _ _ _ q=>sub_int q
theorem VL:sI X (agv .Mult) (rI UA λi j=>.int (i*j)):=opI λ_ _ _ _ _ _ _ hc q=>mul_int q hc.ok
theorem CK:sI X (agv .FloorDiv) (rI afx λi j=>.int (i / j)):=opI λi j _ _ _ _ _ hc q=>by
 have h1:(0:Int)<j:=hc.1;have h2:j<1073741824:=hc.2;show amH (by omega) (by rw[aiI i (by omega)];show q) (.inl (PyProof.noPylong_small (by omega)))
theorem ji:sI X (agv .Mod) (rI (λ_ j=>0<j) λi j=>.int (i%j)):=opI λi j _ _ _ _ _ hc q=>by
 have h1:(0:Int)<j:=hc;show mod_int' (by omega) (by rw[Int.fmod_eq_emod_of_nonneg i (by omega)];show q)
theorem Ja:sI X (agv .Pow) (rI BU λi j=>.int (i^j.toNat)):=opI λ_ _ _ _ _ _ _ hc q=>pow_int_small hc.1 hc.2.1 hc.2.2 q
theorem oY:sI X (agv .LShift) (rI BU λi j=>.int (i*2^j.toNat)):=opI λ_ _ _ _ _ _ _ hc q=>lshift_int_small hc.1 hc.2.1 hc.2.2 q
theorem Dh:sI X (agv .BitAnd) (RV λi j=>.int (abJ i j)):=Wm λ_ _ _ _ _ _ _ q=>and_int q
theorem Uc:sI X (agv .BitOr) (RV λi j=>.int (acZ i j)):=Wm λ_ _ _ _ _ _ _ q=>or_int q
theorem unI{f:Yd->ag1 Yd}{g:Int->Int}
  (rule:∀(i:Int) (t:agl) (s:Yi) (Q:Yd->Yi->Prop) (E:Yd->Yi->Prop),Q (.int (g i) s.toks) {s with toks:=s.toks+ 1}->Yl (Yn X.prog X.w) X.A (f (.int i t)) Q E s):
  UnR X f (rU λi=>.int (g i)):=by
 intro pins s σ H x v Q I rx h;obtain⟨i,rfl,q⟩:=h;obtain⟨t,rfl⟩:=rx;show rule i t s _ _ #[.int (g i),H,I.tok _,#[_,rfl],q]
theorem Nb:UnR X (am6 .USub) (rU λi=>.int (-i)):=unI λ_ _ _ _ _ q=>neg_int q
theorem IH:UnR X (am6 .Invert) (rU λi=>.int (Y9 i)):=unI λ_ _ _ _ _ q=>invert_int q
end
noncomputable def aeP:V->V->Bool
 | .non,.non=>true| .non,.int _=>true| .int _,.non=>true| .non,.bl _=>true| .bl _,.non=>true| .non,.str _=>true| .str _,.non=>true
 | .int _,.int _=>true| .bl _,.bl _=>true| .str _,.str _=>true| .byt _,.byt _=>true
 | .int _,.str _=>true| .str _,.int _=>true| .bl _,.str _=>true| .str _,.bl _=>true
 |_,_=>false
def rEq:R2:=λx y H Q=>aeP x y=true/\Q (.bl (decide (x=y))) H
def rNe:R2:=λx y H Q=>aeP x y=true/\Q (.bl (!decide (x=y))) H
theorem Oj{i j:Int}:decide (V.int i=V.int j)=(i==j):=by
 rw[agL];simp
theorem Vm{i j:Bool}:decide (V.bl i=V.bl j)=(i==j):=by
 rw[agL];simp
theorem Og{i j:Yh}:decide (V.str i=V.str j)=(i==j):=by
 rw[agL];simp
theorem OR{i j:Array UInt8}:decide (V.byt i=V.byt j)=(i.toList==j.toList):=by
 rw[agL];cases i;cases j;simp
section
variable{a b:YY}{tb tc:TE}
theorem cF{Q:VK}{k k':Bool}(I:aM X pins σ H s)(q:Q (.bl k) H)(e:k=k'):EP X pins σ Q (.bool k') s:=by
 subst e;show#[.bl k,H,I,rfl,q]
theorem tJ:sI X (xk .Eq) rEq:=by
 intro pins s σ H x y v u Q I rx ry h;obtain⟨hs,q⟩:=h;cases x with
 |non=>
  cases rx;cases y with
  |non=>cases ry;show PySem.EqNone.eq_none_none (cF I q (by simp))
  |bl j=>cases ry;show PySem.EqNone.eq_none_bool (cF I q (by simp))
  |int j=>obtain⟨t',rfl⟩:=ry;show PySem.EqNone.eq_none_int (cF I q (by simp))
  |str j=>obtain⟨t',rfl⟩:=ry;show PySem.EqNone.eq_none_str (cF I q (by simp))
  |_=>show absurd (show false=true from hs) YQ
 |bl i=>
  cases rx;cases y with
  |non=>cases ry;show PySem.EqNone.eq_bool_none (cF I q (by simp))
  |bl j=>cases ry;show eq_bool (cF I q Vm)
  |str j=>obtain⟨t',rfl⟩:=ry;show PySem.EqMixed.eq_bool_str (cF I q (by simp))
  |_=>show absurd (show false=true from hs) YQ
 |int i=>
  obtain⟨t,rfl⟩:=rx;cases y with
  |non=>cases ry;show PySem.EqNone.eq_int_none (cF I q (by simp))
  |int j=>obtain⟨t',rfl⟩:=ry;show eq_int (cF I q Oj)
  |str j=>obtain⟨t',rfl⟩:=ry;show PySem.EqMixed.eq_int_str (cF I q (by simp))
  |_=>show absurd (show false=true from hs) YQ
 |str i=>
  obtain⟨t,rfl⟩:=rx;cases y with
  |non=>cases ry;show PySem.EqNone.eq_str_none (cF I q (by simp))
  |bl j=>cases ry;show PySem.EqMixed.eq_str_bool (cF I q (by simp))
  |int j=>obtain⟨t',rfl⟩:=ry;show PySem.EqMixed.eq_str_int (cF I q (by simp))
  |str j=>obtain⟨t',rfl⟩:=ry;show eq_str (cF I q Og)
  |_=>show absurd (show false=true from hs) YQ
 |byt i=>
  obtain⟨t,rfl⟩:=rx;cases y with
  |byt j=>obtain⟨t',rfl⟩:=ry;show PySem.W.eq_bytes (cF I q OR)
  |_=>show absurd (show false=true from hs) YQ
 |_=>cases y<;>show absurd (show false=true from hs) YQ
theorem aei:sI X (xk .NotEq) rNe:=by
 intro pins s σ H x y v u Q I rx ry h;obtain⟨hs,q⟩:=h;cases x with
 |non=>
  cases rx;cases y with
  |non=>cases ry;show PySem.EqNone.ne_none_none (cF I q (by simp))
  |bl j=>cases ry;show PySem.EqNone.ne_none_bool (cF I q (by simp))
  |int j=>obtain⟨t',rfl⟩:=ry;show PySem.EqNone.ne_none_int (cF I q (by simp))
  |str j=>obtain⟨t',rfl⟩:=ry;show PySem.EqNone.ne_none_str (cF I q (by simp))
  |_=>show absurd (show false=true from hs) YQ
 |bl i=>
  cases rx;cases y with
  |non=>cases ry;show PySem.EqNone.ne_bool_none (cF I q (by simp))
  |bl j=>cases ry;show ne_bool (cF I q (congrArg not Vm))
  |str j=>obtain⟨t',rfl⟩:=ry;show PySem.EqMixed.ne_bool_str (cF I q (by simp))
  |_=>show absurd (show false=true from hs) YQ
 |int i=>
  obtain⟨t,rfl⟩:=rx;cases y with
  |non=>cases ry;show PySem.EqNone.ne_int_none (cF I q (by simp))
  |int j=>obtain⟨t',rfl⟩:=ry;show ne_int (cF I q (congrArg not Oj))
  |str j=>obtain⟨t',rfl⟩:=ry;show PySem.EqMixed.ne_int_str (cF I q (by simp))
  |_=>show absurd (show false=true from hs) YQ
 |str i=>
  obtain⟨t,rfl⟩:=rx;cases y with
  |non=>cases ry;show PySem.EqNone.ne_str_none (cF I q (by simp))
  |bl j=>cases ry;show PySem.EqMixed.ne_str_bool (cF I q (by simp))
  |int j=>obtain⟨t',rfl⟩:=ry;show PySem.EqMixed.ne_str_int (cF I q (by simp))
  |str j=>obtain⟨t',rfl⟩:=ry;show ne_str (cF I q (congrArg not Og))
  |_=>show absurd (show false=true from hs) YQ
 |byt i=>
  obtain⟨t,rfl⟩:=rx;cases y with
  |byt j=>obtain⟨t',rfl⟩:=ry;show PySem.W.ne_bytes (cF I q (congrArg not OR))
  |_=>show absurd (show false=true from hs) YQ
 |_=>cases y<;>show absurd (show false=true from hs) YQ
theorem GS:sI X (xk .Lt) (RV λi j=>.bl (decide (i<j))):=WT λ_ _ _ _ _ _ _ q=>alC q
theorem Pe:sI X (xk .LtE) (RV λi j=>.bl (decide (i<=j))):=WT λ_ _ _ _ _ _ _ q=>le_int q
theorem aak:sI X (xk .Gt) (RV λi j=>.bl (decide (j<i))):=WT λ_ _ _ _ _ _ _ q=>gt_int q
theorem K2:sI X (xk .GtE) (RV λi j=>.bl (decide (j<=i))):=WT λ_ _ _ _ _ _ _ q=>ge_int q
theorem uN:sI X (xk .Is) (λx y H Q=>y=.non/\Q (.bl (decide (x=.non))) H):=by
 intro pins s σ H x y v u Q I rx ry h;obtain⟨rfl,q⟩:=h;cases ry;show is_none_gen (cF I q ?_);cases x<;>first
  |(cases rx;rfl)
  |(obtain⟨t,rfl⟩:=rx;rfl)
theorem jY:sI X (xk .IsNot) (λx y H Q=>y=.non/\Q (.bl (!decide (x=.non))) H):=by
 intro pins s σ H x y v u Q I rx ry h;obtain⟨rfl,q⟩:=h;cases ry;show isnot_none_gen (cF I q ?_);cases x<;>first
  |(cases rx;rfl)
  |(obtain⟨t,rfl⟩:=rx;rfl)
theorem aP(b:YY)(h:autoParam (op≠.In) aq1)(h2:autoParam (op≠.NotIn) aq1):ahQ op b=false:=by
 have e1:(op==CmpOp.In)=false:=by cases op<;>first|rfl|show absurd rfl h
 have e2:(op==CmpOp.NotIn)=false:=by cases op<;>first|rfl|show absurd rfl h2
 cases b<;>simp[ahQ,e1,e2]
theorem eT(ho:sI X (xk op) r)(ha:PE X a ta)(hb:PE X b tb)(hm:ahQ op b=false):PE X (.Compare a [op] [b] pos) (tOp r ta tb):=by
 intro pins s σ H Q I h;show wpAny_Compare1 (acE ha hb I h λv u s2 x y H2 I2 rx ry q=>ho pins s2 σ H2 x y v u Q I2 rx ry q) hm
def Sq(t:TE):TT:=λσ H Q=>t σ H λx H'=>∃k,x=.bl k/\Q k H'
theorem aW(ho:sI X (xk op) r)(ha:PE X a ta)(hb:PE X b tb)(hm:ahQ op b=false):PT X (.Compare a [op] [b] pos) (Sq (tOp r ta tb)):=by
 intro pins s σ H Q I h;show ajY (cR (ha pins s σ H _ I h) λv s1 zz=>?_) hm;obtain⟨x,H1,I1,r1,q1⟩:=zz;show cR (hb pins s1 σ H1 _ I1 q1) λu s2 zz=>?_;obtain⟨y,H2,I2,r2,q2⟩:=zz;show cR (ho pins s2 σ H2 x y v u _ I2 r1 r2 q2) λc s3 zz=>?_;obtain⟨z,H3,I3,r3,k,e,q3⟩:=zz;subst e;cases r3;show adW #[H3,I3,q3]
def aa1(r r':R2)(ta tb tc:TE):TE:=λσ H Q=>ta σ H λx H1=>tb σ H1 λy H2=>r x y H2 λz H3=>∃k,z=.bl k/\
 (if k=true then tc σ H3 λw' H4=>r' y w' H4 Q else Q (.bl false) H3)
theorem Lh{op':akQ}{r':R2}(ho:sI X (xk op) r)(ho':sI X (xk op') r')(ha:PE X a ta)(hb:PE X b tb)(hc:PE X c tc)(hm:lastMarks [op,op'] [b,c]=false:=by with_unfolding_all rfl):PE X (.Compare a [op,op'] [b,c] pos) (aa1 r r' ta tb tc):=by
 intro pins s σ H Q I h;show Compare_chain (cR (ha pins s σ H _ I h) λv s1 zz=>?_) hm;obtain⟨x,H1,I1,r1,q1⟩:=zz;show chain_link (cR (hb pins s1 σ H1 _ I1 q1) λu s2 zz=>?_);obtain⟨y,H2,I2,r2,q2⟩:=zz;show cR (ho pins s2 σ H2 x y v u _ I2 r1 r2 q2) λd s3 zz=>?_;obtain⟨z,H3,I3,r3,k,e,q3⟩:=zz;subst e;cases r3;show adW ?_;cases k with
 |false=>show ite_ff #[.bl false,H3,I3,rfl,q3]
 |true=>show ite_tt (chain_last (cR (hc pins s3 σ H3 _ I3 q3) λw' s4 ⟨z',H4,I4,r4,q4⟩=>ho' pins s4 σ H4 y z' u w' Q I4 r2 r4 q4))
def Tz(K:Ye)(x:V)(H:Hp)(k:Bool):Prop:=
 match x with
 | .non=>k=false
 | .bl b=>k=b
 | .int i=>k=(i !=0)
 | .str y=>y.length<=Yu/\k=((y.length:Int) !=0)
 | .byt y=>y.size<=Yu/\k=((y.size:Int) !=0)
 | .ref p=>(∃xs,bZ K H p xs/\k=!xs.isEmpty)∨(∃xs,c8 K H p xs/\k=!xs.isEmpty)∨∃kvs,H p=Ya (.dK kvs)/\k=!kvs.isEmpty
 |_=>False
theorem MB{κ:Type}{kvs:List (κ×V)}{vs:List (κ×Yd)}(r:KV kvs vs):(!vs.isEmpty)=!kvs.isEmpty:=by
 cases r<;>rfl
theorem DX{xs:List V}{its:List Yd}(r:Vals xs its):(!its.toArray.isEmpty)=!xs.isEmpty:=by
 cases r<;>simp
theorem Dv:(Yu:Nat)<2^63:=by rw[adm];decide
theorem abQ:afA X (λx H Q=>∃k,Tz X.K x H k/\Q k H):=by
 intro pins s σ H x v Q I rx h;obtain⟨k,e,q⟩:=h;have hl:=Dv;have hs:Yu=16777216:=adm;cases x with
 |non=>
  cases rx;have e':k=false:=e;subst e';show truthy_none #[H,I,q]
 |bl b=>
  cases rx;have e':k=b:=e;subst e';show adW #[H,I,q]
 |int i=>
  obtain⟨t,rfl⟩:=rx;have e':k=(i !=0):=e;subst e';show PySem.P.truthy_int #[H,I,q]
 |str y=>
  obtain⟨t,rfl⟩:=rx;obtain⟨hy,e'⟩:y.length<=Yu/\k=((y.length:Int) !=0):=e;subst e';show PySem.P.truthy_str (by omega) #[H,I.tok _,q]
 |byt y=>
  obtain⟨t,rfl⟩:=rx;obtain⟨hy,e'⟩:y.size<=Yu/\k=((y.size:Int) !=0):=e;subst e';show PySem.W.truthy_bytes (by omega) #[H,I.tok _,q]
 |ref p=>
  cases rx;have e':(∃xs,bZ X.K H p xs/\k=!xs.isEmpty)∨(∃xs,c8 X.K H p xs/\k=!xs.isEmpty)∨∃kvs,H p=Ya (.dK kvs)/\k=!kvs.isEmpty:=e;rcases e' with⟨xs,hx,e'⟩|⟨xs,hx,e'⟩|⟨kvs,hx,e'⟩
  .subst e';obtain⟨its,r,pl,hz⟩:=I.list hx;have hlen:=r.length;show wpAny_truthy_list pl.isList (by simp only[YA];omega) #[H,I.tok _,by rw[DX r];show q]
  .subst e';obtain⟨its,r,pl,hz⟩:=I.tuple hx;have hlen:=r.length;show truthy_tuple pl (by simp only[YA];omega) #[H,I.tok _,by rw[DX r];show q]
  .subst e';obtain⟨hz,hS,vs,r,m⟩:kvs.length<=Yu/\(p==RW)=false/\∃vs,KV kvs vs/\s.heap.DictOf (bB X.prog X.w) p vs:=I.hok p _ hx;have hlen:kvs.length=vs.length:=Y2 r;show wpAny_truthy_dict hS m (by omega) #[H,I.tok _,by rw[MB r];show q]
 |_=>show(show False from e).elim
theorem S1(ha:PE X a ta)(he:∀whole,alH a X.env whole=(do let v←whole;agX a.pos;afR [v] (truthy v))):
  PT X a (λσ H Q=>ta σ H λx H'=>∃k,Tz X.K x H' k/\Q k H'):=by
 intro pins s σ H Q I h;show isTrue_plain (cR (ha pins s σ H _ I h) λv s1 ⟨x,H1,I1,r1,q1⟩=>abQ pins s1 σ H1 x v Q I1 r1 q1) (he _)
theorem ij{x:V}(r:Vals [x] us):∃u,us=[u]/\RelV x u:=by
 cases r with
 |cons r1 r2=>cases r2;show#[_,rfl,r1]
theorem Hu{x:V}(r:Vals [x,y] us):∃u w',us=[u,w']/\RelV x u/\RelV y w':=by
 cases r with
 |cons r1 r2=>
  cases r2 with
  |cons r3 r4=>cases r4;show#[_,_,rfl,r1,r3]
theorem SA:eU X (.builtin "abs") (λxs H Q=>∃i,xs=[.int i]/\Q (.int (if i<0 then-i else i)) H):=by
 intro pins s σ H xs us Q I r h;obtain⟨i,rfl,q⟩:=h;obtain⟨u,rfl,t,rfl⟩:=ij r;show call_abs_int λu tk=>#[.int (if i<0 then-i else i),H,I.tok _,#[_,rfl],q]
theorem Ha(hc:X.calm=true):eU X (.builtin "max") (λxs H Q=>∃i j,xs=[.int i,.int j]/\Q (.int (if j>i then j else i)) H):=by
 intro pins s σ H xs us Q I r h;obtain⟨i,j,rfl,q⟩:=h;obtain⟨u,w',rfl,⟨t,rfl⟩,⟨t',rfl⟩⟩:=Hu r;show max_two_ints (I.ok.hd hc) λh' tk k=>#[_,H,I.kept k,?_,q];by_cases hj:j>i
 .rw[if_pos hj,if_pos hj];show#[_,rfl]
 .rw[if_neg hj,if_neg hj];show#[_,rfl]
end
structure M6(h:YO)(x dx C:Yc)(mA:Yh->Option Yd):Prop where
 obj:h.get? x=Ya (afl C dx)
 ns:h.Ns1 dx mA
 ne:dx≠x
theorem QS(n:h.Ns1 dx mA):∃od,h.get? dx=Ya od/\∀name,aio name od=Ya (mA name):=by
 obtain⟨o,es,ep,ho,hd,hk,_,hm⟩:=n;show#[o,ho,λname=>?_];have e:=hm name;unfold nsFind findBy at e;rw[←Array.find?_toList]at e;unfold aio;rw[hd];dsimp only;split
 .rename_i y q;rw[q]at e;show congrArg Ya e
 .rename_i q;rw[q]at e;have a:es.toList.any (·.refKey)=false:=by
   rw[aiU];intro y hy;obtain⟨z,t,hkey⟩:=hk y (Array.mem_toList_iff.mp hy);simp[DictEntry.refKey,hkey]
  have a':¬ es.toList.any (·.refKey)=true:=by rw[a];show YQ
  rw[if_neg a'];show congrArg Ya e
theorem M6.look{x:Yc}(I:M6 h x dx C mA):∃od,PySem.W.InstAt h x (afl C dx) C (Ya od)/\∀name,aio name od=Ya (mA name):=
 let ⟨od,ho,hl⟩:=QS I.ns
 #[od,#[I.obj,rfl,rfl,ho],hl]
section
variable{x f:Yc}{v:Yd}
theorem Xd{expr:Bool}(X:K.In s.heap)(I:M6 s.heap x dx C mA)(hg:ahS K C name=true)(hh:ahG K C=true)(ha:YR K (.ref C) name=Ya Yb)(hv:mA name=Ya v)(hv':ai9 v=true)(h:Q v {s with toks:=s.toks+ 1}):
  Yl (Yn prog w) A (akR (.ref x) name expr) Q E s:=by
 obtain⟨od,J,hl⟩:=I.look;show PySem.W.get_value X J (aif hg).1 (PySem.W.findObj_own hh ha rfl (by rw[hl,hv])) hv' h
theorem Tw{Q:Yd×List Yd->Yi->Prop}(X:K.In s.heap)(I:M6 s.heap x dx C mA)(hg:ahS K C name=true)(hf:YR K (.ref C) name=Ya (Ya (.ref f)))(ht:akA K (.ref f)=true)(hv:mA name=Yb)(h:Q (.ref f,[.ref x]) s):
  Yl (Yn prog w) A (agm (.ref x) name pl) Q E s:=by
 obtain⟨od,J,hl⟩:=I.look;show PySem.W.method_fn X J (aif hg).1 (aif hg).2 hf (beq_iff_eq.mp ht) (by change(aio name od).map (·.isSome)=Ya false;rw[hl,hv];rfl) h
theorem W4{ns:List Yh}{Q:Unit->Yi->Prop}(X:K.In s.heap)(I:M6 s.heap x dx C mA)
  (hs:YR K (.ref C) "__setattr__"=Ya (Ya (.builtin "object.__setattr__"))) (hp:akV K C=true) (ht:ajF K C name=Ya Yb) (hh:ahG K C=true)
  (hw:aiz mA ns) (hsz:ns.length<=Yu)
  (h:∀h',M6 h' x dx C (λy=>if y=name then Ya v else mA y)->aaq dx s.heap h'->Q () {s with heap:=h',toks:=s.toks+ 2}):
  Yl (Yn prog w) A (ajZ (.ref x) name v) Q E s:=by
 obtain⟨od,J,hl⟩:=I.look;show aiV X J hs (PySem.W.osa_open (s:={s with toks:=s.toks+ 1}) (r:=Yb) X J hp ht λb=>?_);obtain⟨cd,hc,hd'⟩:=PySem.W.any_some hh;have hx:s.heap.get? x=Ya #[.ref C,Ya dx,.plain,#[]]:=I.obj;show Yf (Yk (Yf (Yf (ahy hx (Yf (aiF (s:={s with toks:=s.toks+ 1}) (aih X hc) ?_))))));rw[hd'];show Yk (a:=Ya dx) (Yf (Yk (Yf ?_)));show amI (s:={s with toks:=s.toks+ 1}) I.ns λh' hn2 hs2=>?_;obtain⟨oD,esD,epD,hoD,hdD,hcD⟩:=hn2.count (PySem.Within.cons name v hw);show Yf (alj hoD (by rw[hdD];show alk (oh hcD (by rw[cT];omega))) ?_);show Yk (h _ #[(hs2.2 _ (Ne.symm I.ne)).trans I.obj,hn2,I.ne] hs2)
theorem JP{R:agt->Yi->Prop}{vs:List Yd}(X:K.In s.heap)(hm:alF K C=true)(hi:YR K (.ref C) "__init__"=Ya (Ya (.ref f)))(hf:al2 K (.ref f)=Ya (.type "function"))(h:rl (Yn prog w) (A.under (.builtin "type.__call__" #[.ref C::vs,kw])) (.call (.ref f) #[.ref (s.heap.objs.size+ 1)::vs,kw]) (alm (s.heap.objs.size+ 1) R)
   {s with heap:=(s.heap.push adf).push (afl C s.heap.objs.size)}):
  rl (Yn prog w) A (.call (.ref C) #[vs,kw]) R s:=by
 obtain⟨hh,g,d,t,os⟩:=s;show PySem.W.make_core (PySem.W.makes_of X hm) (PySem.W.looks_findIn X hi) (λself=>PySem.W.bind_fn X self hf) (.inl rfl) h
end
noncomputable def bY(f:Yh)(v:V):List (Yh×V)->List (Yh×V)
 |[]=>[(f,v)]
 |(g,x)::r=>if g=f then(g,v)::r else(g,x)::bY f v r
theorem uJ(f g:Yh)(v:V):∀fs:List (Yh×V),(bY f v fs).lookup g=if g=f then Ya v else fs.lookup g
 |[]=>by
  change agn g [(f,v)]=_;by_cases h:g=f
  .have hb:(g==f)=true:=beq_iff_eq.mpr h;simp only[agn,hb,if_pos h]
  .have hb:(g==f)=false:=beq_eq_false_iff_ne.mpr h;simp only[agn,hb,if_neg h]
 |(k,x)::r=>by
  have ih:=uJ f g v r;rw[show bY f v ((k,x)::r)=(if k=f then(k,v)::r else(k,x)::bY f v r)from rfl];by_cases hk:k=f
  .rw[if_pos hk];by_cases h:g=k
   .have hb:(g==k)=true:=beq_iff_eq.mpr h;simp only[agn,hb,if_pos (h.trans hk)]
   .have hb:(g==k)=false:=beq_eq_false_iff_ne.mpr h;simp only[agn,hb,if_neg (λe:g=f=>h (e.trans hk.symm))]
  .rw[if_neg hk];by_cases h:g=k
   .have hb:(g==k)=true:=beq_iff_eq.mpr h;simp only[agn,hb,if_neg (λe:g=f=>hk (h.symm.trans e))]
   .have hb:(g==k)=false:=beq_eq_false_iff_ne.mpr h;simp only[agn,hb];show ih
theorem qi(f:Yh)(v:V):∀fs:List (Yh×V),f∈(bY f v fs).map (·.1)/\∀g,g∈fs.map (·.1)->g∈(bY f v fs).map (·.1)
 |[]=>#[by simp[bY],λg h=>by simp at h]
 |(k,x)::r=>by
  obtain⟨i1,i2⟩:=qi f v r;rw[show bY f v ((k,x)::r)=(if k=f then(k,v)::r else(k,x)::bY f v r)from rfl];by_cases hk:k=f
  .rw[if_pos hk];subst hk;show#[by simp,λg h=>by simpa using h]
  .rw[if_neg hk];show#[?_,λg h=>?_]
   .rw[YL];show Yx _ i1
   .rw[YL]at h⊢;rcases Yq.mp h with e|e
    .show Yq.mpr (.inl e)
    .show Yx _ (i2 g e)
theorem Br(f:Yh)(v:V):∀fs:List (Yh×V),(bY f v fs).length<=fs.length+ 1
 |[]=>by simp[bY]
 |(k,x)::r=>by
  have ih:=Br f v r;rw[show bY f v ((k,x)::r)=(if k=f then(k,v)::r else(k,x)::bY f v r)from rfl];by_cases hk:k=f
  .rw[if_pos hk,cT,cT];omega
  .rw[if_neg hk,cT,cT];omega
theorem mY.some_of{o:Option Yd}(r:mY (Ya v) o):∃u,o=Ya u/\RelV v u:=by
 cases o with
 |none=>show(show False from r).elim
 |some u=>show#[u,rfl,r]
theorem mY.none_of{o:Option Yd}(r:mY Yb o):o=none:=by
 cases o with
 |none=>rfl
 |some u=>show(show False from r).elim
theorem F8(r:RelV v u):ai9 u=true:=by
 cases v with
 |non=>cases (show u=abl from r);rfl
 |bl b=>cases (show u=ag5 b from r);rfl
 |int i=>obtain⟨t,e⟩:=(show∃t,u=agI i t from r);cases e;rfl
 |str x=>obtain⟨t,e⟩:=(show∃t,u=ajE x t from r);cases e;rfl
 |byt b=>obtain⟨t,e⟩:=(show∃t,u=amX b t from r);cases e;rfl
 |flt b=>obtain⟨t,e⟩:=(show∃t,u=ald b t from r);cases e;rfl
 |ref a=>cases (show u=Yv a from r);rfl
 |ty n=>cases (show u=xi n from r);rfl
section
theorem Cu(hok:pG P w H h)(e:H a=Ya (.ins C dx fs)):∃mA,M6 h a dx C mA/\(∀f,mY (fs.lookup f) (mA f))/\aiz mA (fs.map (·.1))/\fs.length<=1000/\H dx=Ya (.own a):=by
 obtain⟨d,z,ne,ob,mA,n,r,q⟩:=(show cO P w H h a (.ins C dx fs)from hok a _ e);show#[mA,#[ob,n,ne],r,q,z,d]
end
theorem CJ.get(c:CJ K C)(f:Yh):ahS K C f=true:=c.pg
theorem bu.taker{f:Yh}(n:bu K C f):ajF K C f=Ya none:=by
 unfold ajF;rw[show YR K (.ref C) f=Ya Yb from n];rfl
section
variable{f:Yh}
theorem M7{b:Bool}(I:aM X pins σ H s)(e:H a=Ya (.ins C dx fs))(c:CJ X.K C)(n:bu X.K C f)(l:fs.lookup f=Ya v)(h:∀u s',aM X pins σ H s'->RelV v u->Q u s'):Yl (Yn X.prog X.w) A (akR (.ref a) f b) Q E s:=by
 obtain⟨mA,O,r,_,_,_⟩:=Cu I.hok e;obtain⟨u,hu,ru⟩:=mY.some_of (v:=v) (o:=mA f) (by rw[←l];show r f);show Xd I.kIn O (c.get f) c.hd n hu (F8 ru) (h u _ (I.tok _) ru)
theorem gX{g:Yc}{Q:Yd×List Yd->Yi->Prop}(I:aM X pins σ H s)(e:H a=Ya (.ins C dx fs))(c:CJ X.K C)(k:aX X.K C m g)(l:fs.lookup m=Yb)(h:Q (.ref g,[.ref a]) s):Yl (Yn X.prog X.w) A (agm (.ref a) m pl) Q E s:=by
 obtain⟨mA,O,r,_,_,_⟩:=Cu I.hok e;have hn:mA m=none:=mY.none_of (by rw[←l];show r m);show Tw I.kIn O (c.get m) k.at_ k.fn hn h
theorem ND{Q:Unit->Yi->Prop}(I:aM X pins σ H s)(e:H a=Ya (.ins C dx fs))(c:CJ X.K C)(n:bu X.K C f)(hl:fs.length<1000)(ry:RelV y u)(h:∀s',aM X pins σ (upd H a (.ins C dx (bY f y fs))) s'->Q () s'):Yl (Yn X.prog X.w) A (ajZ (.ref a) f u) Q E s:=by
 obtain⟨mA,O,r,wi,_,ho⟩:=Cu I.hok e;have hz:(fs.map (·.1)).length<=Yu:=by rw[Yj,adm];omega
 show W4 I.kIn O c.sa c.po n.taker c.hd wi hz λh' O' sb=>h _ ?_;have hd:∃o,h'.get? dx=Ya o:=let ⟨o,_,_,e',_⟩:=O'.ns;#[o,e'];show I.write (x:=a) (e:=dx) (by rw[e];show ado) (.inr ho) (λb q hb z=>(sb.2 b hb).trans z) hd ?_;show#[by rw[ak O.ne];show ho,?_,O.ne,O'.obj,_,O'.ns,λg=>?_,λg hg=>?_]
 .have:=Br f y fs;omega
 .change mY ((bY f y fs).lookup g) (if g=f then Ya u else mA g);rw[uJ];by_cases q:g=f
  .rw[if_pos q,if_pos q];show ry
  .rw[if_neg q,if_neg q];show r g
 .by_cases q:g=f
  .rw[q];show(qi f y fs).1
  .show(qi f y fs).2 g (wi g λz=>hg ?_);change(if g=f then Ya u else mA g)=Yb;rw[if_neg q];show z
theorem aM.made(I:aM X pins σ H s):aM X pins σ (upd (upd H s.heap.objs.size (.own (s.heap.objs.size+ 1))) (s.heap.objs.size+ 1) (.ins C s.heap.objs.size []))
  {s with heap:=(s.heap.push adf).push (afl C s.heap.objs.size)}:=by
 have e1:(s.heap.push adf).get? s.heap.objs.size=Ya adf:=Ys s.heap rfl;have e2:((s.heap.push adf).push (afl C s.heap.objs.size)).get? (s.heap.objs.size+ 1)=Ya (afl C s.heap.objs.size):=by
  have:=Ys (s.heap.push adf) (o:=afl C s.heap.objs.size) rfl;rwa [afj]at this
 have e3:(s.heap.push adf).Ns s.heap.objs.size (λ_=>Yb):=#[adf,#[],_,e1,rfl,(λe he=>absurd he (by simp)),λ_=>rfl];have I1:=I.laid (a:=s.heap.objs.size) (o:=.own (s.heap.objs.size+ 1)) (h':=s.heap.push adf) (t':=s.toks) (λb u q=>Yg _ q) (Ym _) #[_,e1];show I1.laid (a:=s.heap.objs.size+ 1) (o:=.ins C s.heap.objs.size []) (t':=s.toks) (λb u q=>Yg _ q) (ah2 (afj _ _)) ?_;have ne:s.heap.objs.size≠s.heap.objs.size+ 1:=YB (afS _);show#[by rw[ak ne,aj],Y1 _,ne,e2,λ_=>Yb,(Heap.Ns1.of_empty e3).at λo q=>Yg _ q,λ_=>ado,λy hy=>absurd rfl hy]
theorem O1{f:Yh}(hb:afd e f env (Y3 e env)=Y3 e env)(h:Yl (Yn prog w) A (Y3 e env) (λo s₁=>Yl (Yn prog w) A (akR o f true) Q E s₁) E s):Yl (Yn prog w) A (Y3 (.Attribute e f pos) env) Q E s:=
 Attribute_any_ h (by rw[arm_eval_Attribute,hb])
end
def acU(K:Ye)(ta:TE)(f:Yh):TE:=λσ H Q=>ta σ H λx H1=>∃a C dx fs v,x=.ref a/\H1 a=Ya (.ins C dx fs)/\CJ K C/\bu K C f/\fs.lookup f=Ya v/\Q v H1
def U9(K:Ye)(ta tv:TE)(f:Yh):TS:=λD σ H=>tv σ H λy H1=>ta σ H1 λx H2=>∃a C dx fs,x=.ref a/\H2 a=Ya (.ins C dx fs)/\CJ K C/\bu K C f/\fs.length<1000/\
 D.nx σ (upd H2 a (.ins C dx (bY f y fs)))
section
variable{o:YY}{f:Yh}
theorem acX(he:PE X e ta)(hb:afd e f X.env (Y3 e X.env)=Y3 e X.env):PE X (.Attribute e f pos) (acU X.K ta f):=by
 intro pins s σ H Q I h;show O1 hb (cR (he pins s σ H _ I h) λu s1 zz=>?_);obtain⟨x,H1,I1,rx,a,C,dx,fs,v,ex,ea,c,n,l,q⟩:=zz;subst ex;obtain rfl:u=Yv a:=rx;show M7 I1 ea c n l λu' s2 I2 ru=>#[v,H1,I2,ru,q]
theorem abK(ha:PE X o ta)(hv:PE X value tv)(hs:aiB value (Ya (.Attribute o f pos')) pos.line X.env=pure false):PS X (.Assign [.Attribute o f pos'] value pos) (U9 X.K ta tv f):=by
 intro pins s σ H D I h;show ah1 (cR (hv pins s σ H _ I h) λu s1 zz=>?_) hs;obtain⟨y,H1,I1,ry,q⟩:=zz;show cR (ha pins s1 σ H1 _ I1 q) λov s2 zz=>?_;obtain⟨x,H2,I2,rx,a,C,dx,fs,ex,ea,c,n,l,q2⟩:=zz;subst ex;obtain rfl:ov=Yv a:=rx;show ND I2 ea c n l ry λs3 I3=>#[σ,_,I3,q2]
theorem aax{args:List YY}(he:PE X e te)(I:aM X pins σ H s)(h:te σ H λx H1=>∃a C dx fs g,x=.ref a/\H1 a=Ya (.ins C dx fs)/\CJ X.K C/\aX X.K C m g/\fs.lookup m=Yb/\
   ∀s1,aM X pins σ H1 s1->Yl (Yn X.prog X.w) X.A (ag7 pos (.ref g) [.ref a] (tq pos (YC args X.env)) (adj pos (BD [] X.env))) Q X.xe s1) (ht:Y3 (.Call (.Attribute e m apos) args [] pos) X.env=(do
   let ov←Y3 e X.env
   agX apos.atName
   let (f,first)←afR [ov] (agm ov m pl)
   ag7 pos f first (tq pos (YC args X.env)) (adj pos (BD [] X.env)))):
  Yl (Yn X.prog X.w) X.A (Y3 (.Call (.Attribute e m apos) args [] pos) X.env) Q X.xe s:=by
 show KW (pl:=pl) (cR (he pins s σ H _ I h) λu s1 zz=>?_) ht;obtain⟨x,H1,I1,rx,a,C,dx,fs,g,ex,ea,c,k,l,q⟩:=zz;subst ex;obtain rfl:u=Yv a:=rx;show gX I1 ea c k l (q s1 I1)
end
section
variable{c:Yd}{b:Bool}
inductive yl (K:Ye) (H:Hp):V->Yd->Prop where
 |non:yl K H .non (.type "NoneType")
 |bl (x:Bool):yl K H (.bl x) (.type "bool")
 |int (i:Int):yl K H (.int i) (.type "int")
 |str (x:Yh):yl K H (.str x) (.type "str")
 |flt (x:UInt64):yl K H (.flt x) (.type "float")
 |lst {a:Yc} {xs:List V} (e:H a=Ya (.lst xs)):yl K H (.ref a) (.type "list")
 |frz {a:Yc} {o:Y8} {xs:List V} (e:H a=Ya (.frz o (.lst xs))):yl K H (.ref a) (.type "list")
 |tup {a:Yc} {xs:List V} (e:H a=Ya (.tup xs)):yl K H (.ref a) (.type "tuple")
 |dK {a:Yc} {kvs:List (cj×V)} (e:H a=Ya (.dK kvs)):yl K H (.ref a) (.type "dict")
 |dT {a:Yc} {kvs:List (List cj×V)} (e:H a=Ya (.dT kvs)):yl K H (.ref a) (.type "dict")
 |ins {a C dx:Yc} {fs:List (Yh×V)} (e:H a=Ya (.ins C dx fs)) (cl:CJ K C) (ha:YR K (.ref C) "__class__"=Ya (Ya (.builtin "object.__class__")))
   (hn:aiT K (.builtin "object.__class__") "__get__"=Ya (Ya (.builtin "getset_descriptor.__get__"))) (htk:alJ K (.builtin "object.__class__")=Ya true)
   (hm:ahR K C (.type "object")=Ya true):yl K H (.ref a) (.ref C)
theorem Ru{x:V}{t:Yd}(I:aM X pins σ H s)(rx:RelV x u)(ty:yl X.K H x t)(e:cw X.K t c=Ya b)(h:∀tk,Q (.bool b) {s with toks:=tk}):
  Yl (Yn X.prog X.w) A (call (.builtin "isinstance") [u,c]) Q E s:=by
 cases ty with
 |non=>cases (show u=abl from rx);show aar PySem.W.kitx_none I.kIn ado e (λz=>nomatch z) h
 |bl y=>cases (show u=ag5 y from rx);show aar PySem.W.kitx_bool I.kIn ado e (λz=>nomatch z) h
 |int i=>obtain⟨t,q⟩:=(show∃t,u=agI i t from rx);cases q;show aar PySem.W.kitx_int I.kIn ado e (λz=>nomatch z) h
 |str y=>obtain⟨t,q⟩:=(show∃t,u=ajE y t from rx);cases q;show aar PySem.W.kitx_str I.kIn ado e (λz=>nomatch z) h
 |flt y=>obtain⟨t,q⟩:=(show∃t,u=ald y t from rx);cases q;show aar PySem.W.kitx_float I.kIn ado e (λz=>nomatch z) h
 |@lst a xs ea=>
  cases (show u=Yv a from rx);obtain⟨_,_,n,_,h1⟩:=(show cO X.prog X.w H s.heap a (.lst xs)from I.hok a _ ea);show aar akX I.kIn #[_,h1,rfl] e (λz=>nomatch z) h
 |@frz a ob xs ea=>
  cases (show u=Yv a from rx);obtain⟨_,_,_,n,_,h1⟩:=(show cO X.prog X.w H s.heap a (.frz ob (.lst xs))from I.hok a _ ea);show aar akX I.kIn #[_,h1,rfl] e (λz=>nomatch z) h
 |@tup a xs ea=>
  cases (show u=Yv a from rx);obtain⟨_,_,_,p⟩:=(show cO X.prog X.w H s.heap a (.tup xs)from I.hok a _ ea);obtain⟨o,h1,h2,_⟩:=p;show aar PySem.W.kitx_tuple I.kIn #[o,h1,h2] e (λz=>nomatch z) h
 |@dK a kvs ea=>
  cases (show u=Yv a from rx);obtain⟨_,_,vs,_,p⟩:=(show cO X.prog X.w H s.heap a (.dK kvs)from I.hok a _ ea);obtain⟨o,es,ep,h1,h2,_⟩:=p;show aar akY I.kIn #[o,h1,h2.1] e (λz=>nomatch z) h
 |@dT a kvs ea=>
  cases (show u=Yv a from rx);obtain⟨_,_,xs,_,o,es,ep,h1,h2,_⟩:=(show cO X.prog X.w H s.heap a (.dT kvs)from I.hok a _ ea);show aar akY I.kIn #[o,h1,h2.1] e (λz=>nomatch z) h
 |@ins a C dx fs ea cl ha hn htk hm=>
  cases (show u=Yv a from rx);obtain⟨mA,O,_⟩:=Cu I.hok ea;obtain⟨od,J,_⟩:=O.look;show aar (PySem.W.kitx_own (cl.get _) cl.hd ha hn htk hm) I.kIn J e (λz=>nomatch z) h
end
theorem cV.mono(r:cV k A)(h:j<=k):cV j A:=#[r.hd,by have:=r.dp;omega,by have:=r.un;omega]
theorem cV.deeper(r:cV (k+ 1) A)(env:af7):cV k (A.deeper env):=
 #[r.hd,by have:=r.dp;change A.depth+ 1+ 3*k+ 5<_;omega,by have:=r.un;change A.units+ 3+ 16*k+ 200<_;omega]
theorem MF:(A.under (.builtin "type.__call__" #[.ref C::us,kw])).depth=A.depth+ 1:=by
 first|rfl|simp[Around.under,Code.weight,Code.isCreation,Code.isGuard,Code.isCaller,amY,akE,guardIds]
theorem Nz:(A.under (.builtin "type.__call__" #[.ref C::us,kw])).units=A.units+ 1:=by
 first|rfl|simp[Around.under,Code.cUnits,amY,akE]
theorem cV.make(r:cV (k+ 1) A)(C:Yc)(us:List Yd)(kw:List (Yh×Yd)):cV k (A.under (.builtin "type.__call__" #[.ref C::us,kw])):=
 #[r.hd,by have:=r.dp;rw[MF];omega,by have:=r.un;rw[Nz];omega]
theorem cV.depth(r:cV k A):A.depth<ain:=by have:=r.dp;omega
theorem cV.units(r:cV k A):A.units+ 64<ab0:=by have:=r.un;omega
theorem cV.units0(r:cV k A):A.units<ab0:=by have:=r.un;omega
def KZ:TA:=λ_ H Q=>Q [] H
def Fs(ta:TE)(tr:TA):TA:=λσ H Q=>ta σ H λx H1=>tr σ H1 λxs H2=>Q (x::xs) H2
section
variable{t:TA}
theorem ae:PA X [] KZ:=λ_ _ _ _ H Q I h=>aiW #[[],H,I,.nil,h]
theorem aa(ha:PE X e te)(hr:PA X es t)(hs:autoParam (YC (e::es) X.env=(false,Y3 e X.env)::YC es X.env) aq0):PA X (e::es) (Fs te t):=by
 intro pos pins s σ H Q I h;rw[hs];change Yl _ _ (spliced ((false,Y3 e X.env)::tq pos (YC es X.env))) _ _ s;show aho (cR (ha pins s σ H _ I h) λu s1 zz=>?_);obtain⟨x,H1,I1,r1,q1⟩:=zz;show cR (hr pos pins s1 σ H1 _ I1 q1) λus s2 ⟨xs,H2,I2,r2,q2⟩=>#[x::xs,H2,I2,.cons r1 r2,q2]
def acS(t:TA):TE:=λσ H Q=>t σ H λxs H1=>xs.length<=Yu/\∀p,H1 p=Yb->Q (.ref p) (upd H1 p (.tup xs))
def adt(t:TA):TE:=λσ H Q=>t σ H λxs H1=>xs.length<=Yu/\∀p,H1 p=Yb->Q (.ref p) (upd H1 p (.lst xs))
theorem cY{x1}(h:PA X es t):PE X (.Tuple es x1 pos) (acS t):=by
 intro pins s σ H Q I hq;show wpAny_Tuple_spliced (cR (h pos pins s σ H _ I hq) λus s1 ⟨xs,H1,I1,r,z,q⟩=>#[by rw[←r.length];show z,?_]);have hf:H1 s1.heap.objs.size=none:=I1.hok.fresh (Ym _);show#[.ref s1.heap.objs.size,upd H1 s1.heap.objs.size (.tup xs),I1.laid (t':=s1.toks) (λb u e=>Yg _ e) (Ym _) ?_,rfl,q _ hf];show#[z,us,r,qc.new _ _]
theorem bS(h:PA X es t):PE X (.List es pos) (adt t):=by
 intro pins s σ H Q I hq;show wpAny_List_spliced (cR (h pos pins s σ H _ I hq) λus s1 ⟨xs,H1,I1,r,z,q⟩=>#[by rw[←r.length];show z,?_]);have hf:H1 s1.heap.objs.size=none:=I1.hok.fresh (Ym _);show#[.ref s1.heap.objs.size,upd H1 s1.heap.objs.size (.lst xs),I1.laid (t':=s1.toks) (λb u e=>Yg _ e) (Ym _) ?_,rfl,q _ hf];show#[z,us,0,r,Ys _ rfl]
end
variable{sp:Sp}
variable{CX:CXT}
theorem aw.mono{base:YO}{f:Yc}(F:aw P w K mg base CX j f fd ps sp)(h:j<=k):
  aw P w K mg base CX k f fd ps sp:=#[F.len,λA outer s H args us vs Q E hr=>F.run A outer s H args us vs Q E (hr.mono h)]
theorem Me.make{base:YO}(e:Me P w K mg base A outer s H)(C:Yc)(us:List Yd)(kw:List (Yh×Yd)):
  Me P w K mg base (A.under (.builtin "type.__call__" #[.ref C::us,kw])) outer s H:=#[by first|show e.frames|(simpa [Around.under,Code.envs,akE,pushEnvs]using e.frames),e.mod,e.bs,e.bsz,e.funs,e.frf,e.hok,e.bare]
section
theorem aM.env0(I:aM X pins σ H s):Me X.prog X.w X.K X.mg X.base X.A X.stack s H:=
 #[I.ok.frames,I.ok.mod,I.bs,oh I.ok.bsz I.sz,I.stack,I.stkFree,I.hok,I.bare]
theorem aM.after{Q:VK}(I:aM X pins σ H s)(h:CE X.stack X.prog X.w H s Q u s'):EP X pins σ Q u s':=by
 obtain⟨v,H',os,bare,un,hok,r,q⟩:=h;obtain⟨hh,g,d,t,os'⟩:=s';obtain rfl:os'=s.os:=os;show#[v,H',I.call (h':=hh) (g':=g) (d':=d) (t':=t) (ch:=[]) un hok bare (λb z=>absurd z (by simp)),r,q]
end
def N1(sp:Sp)(dvs:List V)(E:XK)(t:TA):TE:=λσ H Q=>t σ H λvs H1=>sp (vs++dvs) H1 Q E
def Vi(C:Yc)(m:Yh)(sp:Sp)(dvs:List V)(E:XK)(ta:TE)(t:TA):TE:=λσ H Q=>ta σ H λx H1=>∃a dx fs,x=.ref a/\H1 a=Ya (.ins C dx fs)/\fs.lookup m=Yb/\
 t σ H1 λvs H2=>sp (x::(vs++dvs)) H2 Q E
def UZ(C:Yc)(sp:Sp)(dvs:List V)(E:XK)(t:TA):TE:=λσ H Q=>t σ H λvs H1=>∀x dx,H1 x=Yb->H1 dx=Yb->dx≠x->
 sp (.ref x::(vs++dvs)) (upd (upd H1 dx (.own x)) x (.ins C dx [])) (λv H2=>v=.non/\Q (.ref x) H2) E
def Binds(K:Ye)(fd:Yr)(ps:List Yh)(ds:List Yd):Prop:=
 ∀(s:Yi) (us:List Yd),K.In s.heap->(us++ds).length=ps.length->ajX s fd #[us,[]] (ps.zip (us++ds))
theorem Binds.all(h:∀us:List Yd,us.length=ps.length->akd fd #[us,[]]=pure (ps.zip us)):Binds K fd ps []:=λs us _ hl=>by
 rw[Y4]at hl⊢;show .of_eq (h us hl)
def oZ(CX:CXT)(X:Cx)(E:XK):Prop:=∀(pins:List (Yc×Y8)) (σ:St) (H:Hp) (s:Yi) (e:Yd) (s':Yi),aM X pins σ H s->CX X.stack H s E e s'->X.xe e s'
section
variable{f:Yc}{dvs:List V}{ds:List Yd}{E:XK}{o:YY}{t:TA}
theorem uH{Q:VK}(F:aw X.prog X.w X.K X.mg X.base CX k f fd ps sp)(hr:cV k X.A)(hb:Binds X.K fd ps ds)(hd:Vals dvs ds)(hx:oZ CX X E)(I:aM X pins σ H s)(r:Vals vs us)(h:sp (vs++dvs) H Q E):Yl (Yn X.prog X.w) X.A (call (.ref f) us) (EP X pins σ Q) X.xe s:=by
 have r2:Vals (vs++dvs) (us++ds):=r.append hd;have hl:(us++ds).length=ps.length:=by rw[←r2.length];show F.len _ _ _ _ h
 show afn (codeAny_mono (F.run X.A X.stack s H #[us,[]] (us++ds) (vs++dvs) Q E hr I.env0 (hb s us I.kIn hl) r2 h) λr s' hq=>?_);cases r with
 |error e=>show hx pins σ H s e s' I hq
 |ok fl=>
  cases fl with
  |ret u=>show I.after hq
  |next=>show ir hq
  |brk=>show ir hq
  |cont=>show ir hq
theorem Xx(F:aw X.prog X.w X.K X.mg X.base CX k f fd ps sp)(hr:cV k X.A)(hg:Gl X x)(hm:X.mg x=Ya (.ref f))(hk:afQ X.K (.ref f)=true)(hb:Binds X.K fd ps ds)(hd:Vals dvs ds)(hx:oZ CX X E)
  (ha:PA X (e::es) t) (hdb:autoParam ((x==("__debug__":Yh))=false) aq1) (he:autoParam (YC (e::es) X.env=(false,Y3 e X.env)::YC es X.env) aq0) (hpl:autoParam ((tq pos (YC es X.env)).any (·.1)=false) aq0):
  PE X (.Call (.Name x p) (e::es) [] pos) (N1 sp dvs E t):=by
 intro pins s σ H Q I h;show acb (lq I hg hm ?_ hdb);show acD (h₀:=X.base) I.ok.mod.kin hk (cR (ha pos pins s σ H _ I h) λus s1 ⟨vs,H1,I1,r,q⟩=>#[I1.kIn,?_]) he hpl;show uH F hr hb hd hx I1 r q
theorem N0(he:PE X o ta)(c:CJ X.K C)(hm:aX X.K C m f)(F:aw X.prog X.w X.K X.mg X.base CX k f fd ps sp)(hr:cV k X.A)(hb:Binds X.K fd ps ds)(hd:Vals dvs ds)(hx:oZ CX X E)(ha:PA X (e::es) t)(hst:autoParam (YC (e::es) X.env=(false,Y3 e X.env)::YC es X.env) aq0)(hpl:autoParam ((tq pos (YC es X.env)).any (·.1)=false) aq0)(ht:autoParam (Y3 (.Call (.Attribute o m apos) (e::es) [] pos) X.env=(do
   let ov←Y3 o X.env
   agX apos.atName
   let (f,first)←afR [ov] (agm ov m pl)
   ag7 pos f first (tq pos (YC (e::es) X.env)) (adj pos (BD [] X.env)))) aq0):
  PE X (.Call (.Attribute o m apos) (e::es) [] pos) (Vi C m sp dvs E ta t):=by
 intro pins s σ H Q I h;show KW (pl:=pl) (cR (he pins s σ H _ I h) λu s1 zz=>?_) ht;obtain⟨x,H1,I1,rx,a,dx,fs,ex,ea,l,q⟩:=zz;subst ex;obtain rfl:u=Yv a:=rx;show gX I1 ea c hm l ?_;show acD (first:=[.ref a]) (h₀:=X.base) I.ok.mod.kin hm.kp (cR (ha pos pins s1 σ H1 _ I1 q) λus s2 ⟨vs,H2,I2,r,q2⟩=>#[I2.kIn,?_]) hst hpl;show uH (us:=.ref a::us) (vs:=.ref a::vs) F hr hb hd hx I2 (.cons rfl r) q2
theorem uD(he:PE X o ta)(c:CJ X.K C)(hm:aX X.K C m f)(F:aw X.prog X.w X.K X.mg X.base CX k f fd ps sp)(hr:cV k X.A)(hb:Binds X.K fd ps ds)(hd:Vals dvs ds)(hx:oZ CX X E)(ht:autoParam (Y3 (.Call (.Attribute o m apos) [] [] pos) X.env=(do
   let ov←Y3 o X.env
   agX apos.atName
   let (f,first)←afR [ov] (agm ov m pl)
   ag7 pos f first (tq pos (YC [] X.env)) (adj pos (BD [] X.env)))) aq0):
  PE X (.Call (.Attribute o m apos) [] [] pos) (Vi C m sp dvs E ta KZ):=by
 intro pins s σ H Q I h;show KW (pl:=pl) (cR (he pins s σ H _ I h) λu s1 zz=>?_) ht;obtain⟨x,H1,I1,rx,a,dx,fs,ex,ea,l,q⟩:=zz;subst ex;obtain rfl:u=Yv a:=rx;show gX I1 ea c hm l ?_;show aii (first:=[.ref a]) I1.kIn hm.kp (uH (us:=[.ref a]) (vs:=[.ref a]) F hr hb hd hx I1 (.cons rfl .nil) q)
theorem VP{Q:VK}(M:Mk X.K C f)(F:aw X.prog X.w X.K X.mg X.base CX k f fd ps sp)(hr:cV (k+ 1) X.A)(hb:Binds X.K fd ps ds)(hd:Vals dvs ds)(hx:oZ CX X E)(I:aM X pins σ H s)(r:Vals vs us)(h:∀x dx,H x=Yb->H dx=Yb->dx≠x->sp (.ref x::(vs++dvs)) (upd (upd H dx (.own x)) x (.ins C dx [])) (λv H2=>v=.non/\Q (.ref x) H2) E):
  Yl (Yn X.prog X.w) X.A (call (.ref C) us) (EP X pins σ Q) X.xe s:=by
 have hq:=h (s.heap.objs.size+ 1) s.heap.objs.size (I.hok.fresh (aeO _)) (I.hok.fresh (Ym _)) (YB (afS _));have I2:=aM.made (C:=C) I;have r2:Vals (V.ref (s.heap.objs.size+ 1)::(vs++dvs)) (Yv (s.heap.objs.size+ 1)::(us++ds)):=.cons rfl (r.append hd);have hl:(Yv (s.heap.objs.size+ 1)::us++ds).length=ps.length:=by
  have e:=r2.length;rw[F.len _ _ _ _ hq]at e;show e.symm
 show afn (JP (f:=f) I.kIn M.makes M.init (beq_iff_eq.mp M.fn) (codeAny_mono (F.run _ X.stack _ _ #[Yv (s.heap.objs.size+ 1)::us,[]] (Yv (s.heap.objs.size+ 1)::(us++ds)) _ _ E (hr.make C us [])
  (I2.env0.make C us []) (hb _ (Yv (s.heap.objs.size+ 1)::us) I2.kIn hl) r2 hq) λr s' hq'=>?_))
 cases r with
 |error e=>show hx pins σ _ _ e s' I2 hq'
 |ok fl=>
  cases fl with
  |ret u=>
   obtain⟨v,H',I3,rv,ev,q3⟩:=I2.after hq';subst ev;show#[rv,#[V.ref (s.heap.objs.size+ 1),H',I3,rfl,q3]]
  |next=>show ir hq'
  |brk=>show ir hq'
  |cont=>show ir hq'
theorem iA(M:Mk X.K C f)(F:aw X.prog X.w X.K X.mg X.base CX k f fd ps sp)(hr:cV (k+ 1) X.A)(hg:Gl X x)(hm:X.mg x=Ya (.ref C))(hb:Binds X.K fd ps ds)(hd:Vals dvs ds)(hx:oZ CX X E)
  (ha:PA X (e::es) t) (hdb:autoParam ((x==("__debug__":Yh))=false) aq1) (he:autoParam (YC (e::es) X.env=(false,Y3 e X.env)::YC es X.env) aq0) (hpl:autoParam ((tq pos (YC es X.env)).any (·.1)=false) aq0):
  PE X (.Call (.Name x p) (e::es) [] pos) (UZ C sp dvs E t):=by
 intro pins s σ H Q I h;show acb (lq I hg hm ?_ hdb);show acD (h₀:=X.base) I.ok.mod.kin M.kp (cR (ha pos pins s σ H _ I h) λus s1 ⟨vs,H1,I1,r,q⟩=>#[I1.kIn,?_]) he hpl;show VP M F hr hb hd hx I1 r q
end
def PK(X:Cx)(kws:List ahW)(t:TA):Prop:=
 ∀(pos:adq) (pins:List (Yc×Y8)) (s:Yi) (σ:St) (H:Hp) (Q:List V->Hp->Prop),aM X pins σ H s->t σ H Q->Yl (Yn X.prog X.w) X.A (evalAll ((adj pos (BD kws X.env)).map (·.2))) (AP X pins σ Q) X.xe s
section
variable{kpos:adq}{kws:List ahW}{t:TA}{nm:Option Yh}
theorem acB:PK X [] KZ:=λ_ _ _ _ H Q I h=>wpAny_evalAll_nil #[[],H,I,.nil,h]
theorem Xi(ha:PE X e te)(hr:PK X kws t):PK X (#[nm,e,kpos]::kws) (Fs te t):=by
 intro pos pins s σ H Q I h;change Yl _ _ (evalAll ((do let v←Y3 e X.env;agX pos;pure v)::(adj pos (BD kws X.env)).map (·.2))) _ _ s;show wpAny_evalAll_cons (Yf (cR (ha pins s σ H _ I h) λu s1 zz=>?_));obtain⟨x,H1,I1,r1,q1⟩:=zz;show Yf (aiJ (Yk ?_));show cR (hr pos pins s1 σ H1 _ I1 q1) λus s2 ⟨xs,H2,I2,r2,q2⟩=>#[x::xs,H2,I2,.cons r1 r2,q2]
end
structure aq(N P:List Yh)(sc:agi):Prop where
 kind:sc.kind=.function
 co:sc.isCoroutine=false
 gen:sc.isGenerator=false
 nd:N.Nodup
 pre:N.take P.length=P
 par:∀x∈P,sc.names.lookup x=Ya .local∨sc.names.lookup x=Ya .cell
 nofree:∀y∈sc.names,y.2≠.free
theorem GZ{kindOf:Yh->Option ag4}{x:Yh}:∀{binds:List (Yh×Yd)} {m:Yh->Option Yd},(∀v,(x,v)∉binds)->ake kindOf binds m x=m x
 |[],_,_=>rfl
 |(n,v)::r,m,h=>by
  unfold ake;rw[GZ λw hw=>h w (Yx _ hw)];split
  .have:x≠n:=by rintro rfl;show h v Yy
   simp[this]
  .rfl
theorem GF{kindOf:Yh->Option ag4}{x:Yh}:∀{binds:List (Yh×Yd)} {m:Yh->Option Yd},(∀v,(x,v)∉binds)->akf kindOf binds m x=m x
 |[],_,_=>rfl
 |(n,v)::r,m,h=>by
  unfold akf;rw[GF λw hw=>h w (Yx _ hw)];split
  .rfl
  .have:x≠n:=by rintro rfl;show h v Yy
   simp[this]
theorem Gq{kindOf:Yh->Option ag4}{x:Yh}{v:Yd}:∀{P:List Yh} {vs:List Yd} {i:Nat} {m:Yh->Option Yd},P.Nodup->P[i]?=Ya x->vs[i]?=Ya v->kindOf x=Ya .local->
  ake kindOf (P.zip vs) m x=Ya v
 |[],_,_,_,_,h,_,_=>by simp at h
 |_::_,[],_,_,_,_,h,_=>by simp at h
 |p::P,w::vs,0,m,nd,h1,h2,hk=>by
  simp at h1 h2;subst h1;subst h2;change ake kindOf ((p,w)::P.zip vs) m p=_;unfold ake;rw[GZ λv hv=>(xp.mp nd).1 (agc hv).1,if_pos hk];simp
 |p::P,w::vs,i+ 1,m,nd,h1,h2,hk=>by
  change ake kindOf ((p,w)::P.zip vs) m x=_;unfold ake;show Gq (i:=i) (xp.mp nd).2 (by simpa using h1) (by simpa using h2) hk
theorem GL{kindOf:Yh->Option ag4}{x:Yh}{v:Yd}:∀{P:List Yh} {vs:List Yd} {i:Nat} {m:Yh->Option Yd},P.Nodup->P[i]?=Ya x->vs[i]?=Ya v->kindOf x≠Ya .local->
  akf kindOf (P.zip vs) m x=Ya v
 |[],_,_,_,_,h,_,_=>by simp at h
 |_::_,[],_,_,_,_,h,_=>by simp at h
 |p::P,w::vs,0,m,nd,h1,h2,hk=>by
  simp at h1 h2;subst h1;subst h2;change akf kindOf ((p,w)::P.zip vs) m p=_;unfold akf;rw[GF λv hv=>(xp.mp nd).1 (agc hv).1,if_neg hk];simp
 |p::P,w::vs,i+ 1,m,nd,h1,h2,hk=>by
  change akf kindOf ((p,w)::P.zip vs) m x=_;unfold akf;show GL (i:=i) (xp.mp nd).2 (by simpa using h1) (by simpa using h2) hk
noncomputable def start(N:List Yh)(vs:List V):St:=vs.map Ya++al3 (N.length-vs.length) Yb
noncomputable def iX(CX:CXT)(P:YU)(w:YZ)(K:Ye)(mg:Yh->Option Yd)(base:YO)(N:List Yh)(qual:Yh)(scope:agi)(f:Yc)(cd:Yd)(A:sq)(outer:List af7)(s:Yi)(H:Hp)(E:XK):Cx where
 prog:=P
 w:=w
 K:=K
 mg:=mg
 base:=base
 A:=A.deeper (agw qual scope s.heap.objs.size f cd)
 N:=N
 s₀:=s
 H₀:=H
 env:=agw qual scope s.heap.objs.size f cd
 outer:=outer
 stack:=agw qual scope s.heap.objs.size f cd::outer
 ex:=[]
 calm:=true
 fn:=λ_=>true
 pn:=[]
 xe:=λe s'=>Yl (Yn P w) (A.deeper (agw qual scope s.heap.objs.size f cd)) (am7 (agw qual scope s.heap.objs.size f cd) e) (λ_ s''=>CX outer H s E e s'') (λe' s''=>CX outer H s E e' s'') s'
theorem KG{sc:agi}(h:sc.names.lookup x=Ya .cell):∃c,(amm n sc.names []).lookup x=Ya c:=by
 have q:=ajJ sc.names n [] (.inl h);show aja.mp q
theorem Q6{base:YO}{f:Yc}{cd:Yd}{s1:Yi}{E:XK}(S:aq N ps scope)(hd:A.handled=Yb)(e0:Me P w K mg base A outer s H)(hl:vs.length=ps.length)(r:Vals vs us)(x:InCallC s s.heap.objs.size (ake (agw qual scope s.heap.objs.size f cd).kindOf (ps.zip us) λ_=>Yb) (amm (s.heap.objs.size+ 1) scope.names []) (akf (agw qual scope s.heap.objs.size f cd).kindOf (ps.zip us) λ_=>Yb) s1):
  aM (iX CX P w K mg base N qual scope f cd A outer s H E) [] (start N vs) H s1:=by
 have hpl:ps.length<=N.length:=by have:=congrArg amZ S.pre;rw[CA]at this;omega
 obtain⟨h1,tk,rfl,hk⟩:=x.done;have noA:∀b:Yc,b∉(iX CX P w K mg base N qual scope f cd A outer s H E).ex:=λb z=>absurd (show b∈([]:List Yc)from z) (by simp);show#[#[e0.mod,S.kind,rfl,rfl,Ym _,λy z c h1 h2=>?_,λy hy=>?_,λy c _ h=>?_,λ_=>hd,Around.frames_deeper e0.frames,.inr #[rfl,rfl],λb z=>absurd z (noA b),e0.bs,e0.bsz,λb _ _=>noA b,λb z=>absurd z (noA b),e0.funs,e0.frf],
  rfl,e0.bare,Un.kept hk,#[_,x.toInCall.ns,λi y v h1 h2 h3=>?_],λy c h=>#[_,x.cell y c h],e0.hok.fresh (Ym _),λy c h=>?_,λp hp=>absurd (show p∈([]:List (Yc×Y8))from hp) (by simp),e0.hok.kept hk,?_]
 .show name_of_addr x.apart (adg h1) (adg h2)
 .have hy:scope.names.lookup y=Ya .cell∨scope.names.lookup y=Ya .free:=hy;rcases hy with hy|hy
  .show KG hy
  .show absurd rfl (S.nofree _ (adg hy))
 .show tm (x.above y c (adg h))
 .have hi:i<vs.length:=by
   unfold start at h2;by_cases hi:i<vs.length
   .show hi
   .rw[aiK (by simpa using hi)]at h2;rw[List.getElem?_replicate]at h2;split at h2<;>cases h2
  have ha:vs[i]?=Ya v:=by
   unfold start at h2;rw[ai0 (by simpa using hi),YJ]at h2;cases e:vs[i]? with
   |none=>rw[e]at h2;cases h2
   |some a=>rw[e]at h2;cases h2;rfl
  obtain⟨u,hu,rv⟩:=r.get ha;have hp:ps[i]?=Ya y:=by
   rw[←S.pre,List.getElem?_take_of_lt (by omega)];show h1
  have ndP:ps.Nodup:=by rw[←S.pre];show S.nd.sublist (aiX _ _)
  show#[u,rv,?_];rcases S.par y (Y0 hp)with k|k
  .show .inl #[k,Gq ndP hp hu k]
  .obtain⟨c,e⟩:=KG (n:=s.heap.objs.size+ 1) k;show .inr #[.inl k,c,e,?_];have q:=x.cell y c e;rw[GL ndP hp hu (by change scope.names.lookup y≠_;rw[k];decide)]at q;show q
 .show e0.hok.fresh (tm (x.above y c (adg h)))
 .unfold start;change _=N.length;rw[Yz,Yj,List.length_replicate];omega
theorem O2{base:YO}{f:Yc}{params:akC}{dV kV doc pm cdv ct oc:Yd}{an od:Option Yc}{osl:Array (Option Yd)}(lk:K.lookup f=Ya #[oc,od,.func (aal name qual params body scope dV kV doc pm an cdv ct),osl])(hcd:agq K cdv qual=true)(S:aq N ps scope)(len:∀vs H Q E,sp vs H Q E->vs.length=ps.length)(hbody:∀(A:sq) (outer:List af7) (s:Yi) (H:Hp) (vs:List V) (Q:VK) (E:XK),cV k (A.deeper (agw qual scope s.heap.objs.size f cdv))->sp vs H Q E->
   ∃t,IK (iX CX P w K mg base N qual scope f cdv A outer s H E) body t/\t {nx:=λ_ H'=>Q .non H',rt:=Q} (start N vs) H):
  aw P w K mg base CX (k+ 1) f (aal name qual params body scope dV kV doc pm an cdv ct) ps sp:=by
 show#[len,λA outer s H args us vs Q E hr e0 hb r hsp=>?_];have hl:=len _ _ _ _ hsp;have KX:K.In s.heap:=e0.mod.kin.keeps λb o e=>(e0.bs b o e).1;have lim:s.heap.NoLimit:=e0.mod.nolimit.keeps λb o e=>(e0.bs b o e).1;have hkind:∀y∈ps.zip us,scope.names.lookup y.1=Ya .local∨(scope.names.lookup y.1=Ya .cell/\((amm (s.heap.objs.size+ 1) scope.names []).lookup y.1).isSome=true):=fun⟨n,v⟩ hy=>by
  rcases S.par n (agc hy).1 with q|q
  .show .inl q
  .show .inr #[q,ajJ _ _ _ (.inl q)]
 show codeAny_call_function hr.depth (KX _ _ lk) rfl S.co S.gen rfl (PySem.W.codeRec_of KX hcd) (hb _ _ _ _ ?_);show wpAny_newFunctionEnv_cells S.kind hkind λenv he s1 x=>?_;subst he;show#[lim.keeps x.toInCall.keep,codeAny_func ?_];obtain⟨t,ht,hq⟩:=hbody A outer s H vs Q E (hr.deeper _) hsp;have I:aM (iX CX P w K mg base N qual scope f cdv A outer s H E) [] (start N vs) H s1:=Q6 S hr.hd e0 hl r x;show pk (ht [] s1 (start N vs) H _ I hq) (λfl s' hs=>?_) λe s' hs=>hs;have fin:∀{σ':St} {H':Hp} {v:V} {u:Yd},aM (iX CX P w K mg base N qual scope f cdv A outer s H E) [] σ' H' s'->RelV v u->Q v H'->CE outer P w H s Q u s':=
  fun{σ' H' v u} J rv q=>#[v,H',J.os,J.bare,J.base,J.hok,rv,q]
 cases fl with
 |ret u=>
  obtain⟨v,σ',H',J,rv,q⟩:=hs;show fin J rv q
 |next=>
  obtain⟨σ',H',J,q⟩:=hs;show fin (v:=V.non) (u:=abl) J rfl q
 |brk=>
  obtain⟨_,_,_,q⟩:=hs;show ir q
 |cont=>
  obtain⟨_,_,_,q⟩:=hs;show ir q
section
variable{t:TA}{r:List V->Hp->VK->Prop}
def tCB(r:List V->Hp->VK->Prop)(t:TA):TE:=λσ H Q=>t σ H λvs H1=>r vs H1 Q
theorem bF(hc:eU X (.builtin id) r)(hg:Gl X x)(hm:X.mg x=Yb)(hv:afm x=Ya (.builtin id))(ha:PA X (e::es) t)(hn:autoParam (x≠"__name__") aq1)(hdb:autoParam ((x==("__debug__":Yh))=false) aq1)
  (he:autoParam (YC (e::es) X.env=(false,Y3 e X.env)::YC es X.env) aq0) (hpl:autoParam ((tq pos (YC es X.env)).any (·.1)=false) aq0):PE X (.Call (.Name x p) (e::es) [] pos) (tCB r t):=by
 intro pins s σ H Q I h;show acb (xC I hg hm hv ?_ hn hdb);show alK (cR (ha pos pins s σ H _ I h) λus s1 ⟨vs,H1,I1,r1,q1⟩=>hc pins s1 σ H1 vs us Q I1 r1 q1) he hpl
theorem dh(hc:eU X (.type T) r)(hg:Gl X x)(hm:X.mg x=Yb)(hv:afm x=Ya (.type T))(ha:PA X (e::es) t)(hn:autoParam (x≠"__name__") aq1)(hdb:autoParam ((x==("__debug__":Yh))=false) aq1)
  (he:autoParam (YC (e::es) X.env=(false,Y3 e X.env)::YC es X.env) aq0) (hpl:autoParam ((tq pos (YC es X.env)).any (·.1)=false) aq0):PE X (.Call (.Name x p) (e::es) [] pos) (tCB r t):=by
 intro pins s σ H Q I h;show acb (xC I hg hm hv ?_ hn hdb);show aiD (cR (ha pos pins s σ H _ I h) λus s1 ⟨vs,H1,I1,r1,q1⟩=>hc pins s1 σ H1 vs us Q I1 r1 q1) he hpl
end
section
variable{κ:Type}[DecidableEq κ]
noncomputable def hX(kvs:List (κ×V))(k:κ):Option V:=(kvs.find? λkv=>decide (kv.1=k)).map (·.2)
noncomputable def iP(kvs:List (κ×V))(k:κ)(v:V):List (κ×V):=
 if(kvs.any λkv=>decide (kv.1=k))=true then kvs.map (λkv=>if kv.1=k then(kv.1,v)else kv)else kvs++[(k,v)]
theorem fj{p:κ×V}{r:List (κ×V)}{k:κ}(e:p.1=k):hX (p::r) k=Ya p.2:=by simp[hX,agd,e]
theorem fc{p:κ×V}{r:List (κ×V)}{k:κ}(e:¬ p.1=k):hX (p::r) k=hX r k:=by simp[hX,agd,e]
theorem zU(k:κ):∀kvs:List (κ×V),(kvs.any λkv=>decide (kv.1=k))=(hX kvs k).isSome
 |[]=>rfl
 |p::r=>by
  rw[agG];by_cases e:p.1=k
  .simp only[fj e,decide_eq_true e,amJ,Option.isSome_some]
  .rw[fc e,decide_eq_false e,akr];show zU k r
theorem K4(k j:κ)(y:V):∀kvs:List (κ×V),hX (kvs.map λkv=>if kv.1=k then(kv.1,y)else kv) j=(hX kvs j).map λx=>if j=k then y else x
 |[]=>rfl
 |p::r=>by
  have ih:=K4 k j y r;rw[YL];by_cases h:p.1=k
  .rw[if_pos h];by_cases e:p.1=j
   .rw[fj (p:=(p.1,y)) e,fj e,age,if_pos (e.symm.trans h)]
   .rw[fc (p:=(p.1,y)) e,fc e,ih]
  .rw[if_neg h];by_cases e:p.1=j
   .rw[fj (p:=p) e,fj e,age,if_neg (λz=>h (e.trans z))]
   .rw[fc (p:=p) e,fc e,ih]
theorem F7(k j:κ)(y:V):∀kvs:List (κ×V),hX kvs k=Yb->hX (kvs++[(k,y)]) j=if j=k then Ya y else hX kvs j
 |[],_=>by
  by_cases e:k=j
  .rw[if_pos e.symm];show fj (p:=(k,y)) e
  .rw[if_neg (λz=>e z.symm)];show fc (p:=(k,y)) e
 |p::r,hn=>by
  rw[List.cons_append];have hk:¬ p.1=k:=λz=>by rw[fj z]at hn;cases hn
  rw[fc hk]at hn;have ih:=F7 k j y r hn;by_cases e:p.1=j
  .rw[fj e,fj e,if_neg (λz=>hk (e.trans z))]
  .rw[fc e,fc e,ih]
theorem Ve(kvs:List (κ×V))(k j:κ)(y:V):hX (iP kvs k y) j=if j=k then Ya y else hX kvs j:=by
 unfold iP;by_cases a:(kvs.any λkv=>decide (kv.1=k))=true
 .rw[if_pos a,K4];rw[zU]at a;by_cases e:j=k
  .obtain⟨x,hx⟩:=aja.mp a;rw[if_pos e,e,hx,age,if_pos rfl]
  .rw[if_neg e];cases hX kvs j with
   |none=>rfl
   |some x=>rw[age,if_neg e]
 .rw[if_neg a];show F7 k j y kvs ?_;rw[zU]at a;cases q:hX kvs k with
  |none=>rfl
  |some x=>rw[q]at a;show(a rfl).elim
theorem tu(kvs:List (κ×V))(k:κ)(v:V):(iP kvs k v).length<=kvs.length+ 1:=by
 unfold iP;split
 .rw[Yj];omega
 .rw[Yz,cT,afo];omega
theorem mY.isSome_eq{o:Option V}{u:Option Yd}(r:mY o u):o.isSome=u.isSome:=by
 cases o with
 |none=>cases u with
  |none=>rfl
  |some _=>show(show False from r).elim
 |some _=>cases u with
  |none=>show(show False from r).elim
  |some _=>rfl
theorem mY.getD{o:Option V}{u:Option Yd}{d':Yd}(r:mY o u)(rd:RelV d d'):RelV (o.getD d) (u.getD d'):=by
 cases o with
 |none=>cases u with
  |none=>show rd
  |some _=>show(show False from r).elim
 |some _=>cases u with
  |none=>show(show False from r).elim
  |some _=>show r
theorem KV.val{kvs:List (κ×V)}{vs:List (κ×Yd)}(r:KV kvs vs)(k:κ):mY (hX kvs k) (ai7 vs k):=by
 unfold KV at r
 induction r with
 |nil=>show ado
 |@cons p q ps qs h t ih=>
  obtain⟨h1,h2⟩:=h;by_cases e:p.1=k
  .have e':q.1=k:=h1.symm.trans e;have b:ai7 (q::qs) k=Ya q.2:=by simp[ai7,agd,e']
   rw[fj e,b];show h2
  .have e':¬ q.1=k:=λz=>e (h1.trans z);have b:ai7 (q::qs) k=ai7 qs k:=by simp[ai7,agd,e']
   rw[fc e,b];show ih
theorem KV.any{kvs:List (κ×V)}{vs:List (κ×Yd)}(r:KV kvs vs)(k:κ):(kvs.any λkv=>decide (kv.1=k))=vs.any λkv=>decide (kv.1=k):=by
 unfold KV at r
 induction r with
 |nil=>rfl
 |cons h t ih=>rw[agG,agG,ih,h.1]
theorem KV.repl{kvs:List (κ×V)}{vs:List (κ×Yd)}(r:KV kvs vs)(k:κ)(ry:RelV y u):
  KV (kvs.map λkv=>if kv.1=k then(kv.1,y)else kv) (vs.map λkv=>if kv.1=k then(kv.1,u)else kv):=by
 unfold KV at r⊢
 induction r with
 |nil=>show .nil
 |@cons p q ps qs h t ih=>
  rw[YL,YL];show .cons ?_ ih;obtain⟨h1,h2⟩:=h;by_cases e:p.1=k
  .rw[if_pos e,if_pos (h1.symm.trans e)];show#[h1,ry]
  .rw[if_neg e,if_neg (λz=>e (h1.trans z))];show#[h1,h2]
theorem KV.put{kvs:List (κ×V)}{vs:List (κ×Yd)}(r:KV kvs vs)(k:κ)(ry:RelV y u):KV (iP kvs k y) (stored vs k u):=by
 unfold iP stored;rw[r.any k];by_cases e:(vs.any λkv=>decide (kv.1=k))=true
 .rw[if_pos e,if_pos e];show r.repl k ry
 .rw[if_neg e,if_neg e];show am0 r #[rfl,ry]
theorem KV.length{kvs:List (κ×V)}{vs:List (κ×Yd)}(r:KV kvs vs):kvs.length=vs.length:=Y2 r
end
theorem GG{k:cj}(r:RelV (kV k) u):(bB P w).is k u=true:=by
 cases k with
 |inl i=>obtain⟨t,e⟩:=(show∃t,u=agI i t from r);subst e;show tP P w i t
 |inr x=>obtain⟨t,e⟩:=(show∃t,u=ajE x t from r);subst e;show L7 P w x t
theorem GJ{P:YU}{w:YZ}:∀{ks:List cj} {us:List Yd},Vals (ks.map kV) us->ItemsAre (bB P w) ks us
 |[],_,r=>by rw[akB]at r;cases r;show .nil
 |k::ks,_,r=>by
  rw[YL]at r;cases r with
  |cons h t=>show .cons (GG h) (GJ t)
abbrev KT(H:Hp):List (List cj×V)->List (List cj×Yc×Yd)->Prop:=Aq λp q=>p.1=q.1/\H q.2.1=Ya (.tup (p.1.map kV))/\RelV p.2 q.2.2
theorem KT.val(r:KT H kvs xs)(k:List cj):mY (hX kvs k) ((ai1 xs k).map (·.2)):=by
 induction r with
 |nil=>show ado
 |@cons p q ps qs h t ih=>
  obtain⟨h1,_,h2⟩:=h;by_cases e:p.1=k
  .have e':q.1=k:=h1.symm.trans e;have b:ai1 (q::qs) k=Ya q.2:=by simp[ai1,agd,e']
   rw[fj e,b];show h2
  .have e':¬ q.1=k:=λz=>e (h1.trans z);have b:ai1 (q::qs) k=ai1 qs k:=by simp[ai1,agd,e']
   rw[fc e,b];show ih
theorem KT.repl(r:KT H kvs xs)(k:List cj)(ry:RelV y u):
  KT H (kvs.map λkv=>if kv.1=k then(kv.1,y)else kv) (xs.map (putAt k u)):=by
 induction r with
 |nil=>show .nil
 |@cons p q ps qs h t ih=>
  rw[YL,YL];show .cons ?_ ih;obtain⟨h1,h2,h3⟩:=h;unfold putAt;by_cases e:p.1=k
  .rw[if_pos e,if_pos (h1.symm.trans e)];show#[h1,h2,ry]
  .rw[if_neg e,if_neg (λz=>e (h1.trans z))];show#[h1,h2,h3]
theorem KT.put(r:KT H kvs xs)(k:List cj)(hb:H b=Ya (.tup (k.map kV)))(ry:RelV y u):
  KT H (iP kvs k y) (agY xs k b u):=by
 have e:(kvs.any λkv=>decide (kv.1=k))=(ai1 xs k).isSome:=by
  rw[zU,(r.val k).isSome_eq,akZ]
 unfold iP agY;rw[e];by_cases q:(ai1 xs k).isSome=true
 .rw[if_pos q,if_pos q];show r.repl k ry
 .rw[if_neg q,if_neg q];show am0 r #[rfl,hb,ry]
theorem KT.keeps(r:KT H kvs xs)(ht:∀b ys,H b=Ya (.tup ys)->H' b=Ya (.tup ys)):KT H' kvs xs:=
 Aq.mapP r λ_ _ z=>#[z.1,ht _ _ z.2.1,z.2.2]
section
theorem aaB{u:HO}(ok:pG P w H h)(e:Rd H a u):cO P w H h a u:=e.ok ok
theorem kP{kvs:List (cj×V)}(ok:pG P w H h)(e:Rd H a (.dK kvs)):kvs.length<=Yu/\(a==RW)=false/\∃vs,KV kvs vs/\h.DictOf (bB P w) a vs:=
 show cO P w H h a (.dK kvs)from aaB ok e
theorem Tx{kvs:List (cj×V)}(ok:pG P w H h)(e:H a=Ya (.dK kvs)):kvs.length<=Yu/\(a==RW)=false/\∃vs,KV kvs vs/\h.DictOf (bB P w) a vs:=kP ok (.inl e)
theorem key_of{ks:List cj}(ok:pG P w H h)(e:H a=Ya (.tup (ks.map kV))):(afi (bB P w)).is h ks a:=by
 obtain⟨_,its,r,o,h1,h2,n,h3⟩:=(show cO P w H h a (.tup (ks.map kV))from ok a _ e);show#[o,its.toArray,n,h1,h2,h3.1,by simpa using GJ r]
theorem y8(ok:pG P w H h)(e:Rd H a (.dT kvs)):kvs.length<=Yu/\(a==RW)=false/\
  ∃xs,KT H kvs xs/\h.DictOfH (afi (bB P w)) a xs:=by
 obtain⟨z,y,xs,r,o,es,ep,h1,h2,h3,h4,h5⟩:=(show cO P w H h a (.dT kvs)from aaB ok e);show#[z,y,xs,r,o,es,ep,h1,h2,h3,h4,λx hx=>?_,h5];have all:∀{l:List (List cj×V)} {m:List (List cj×Yc×Yd)},KT H l m->∀x∈m,(afi (bB P w)).is h x.1 x.2.1:=by
  intro l m q
  induction q with
  |nil=>intro x hx;show nomatch hx
  |@cons p q ps qs hq t ih=>
   intro x hx;rcases Yq.mp hx with e|hx
   .subst e;show key_of ok (by rw[←hq.1];show hq.2.1)
   .show ih x hx
 show all r x hx
theorem ae7(ok:pG P w H h)(e:H a=Ya (.dT kvs)):kvs.length<=Yu/\(a==RW)=false/\
  ∃xs,KT H kvs xs/\h.DictOfH (afi (bB P w)) a xs:=y8 ok (.inl e)
end
def ud(H:Hp)(a:Yc)(y:V)(r:Option V):Prop:=
 (∃kvs k,Rd H a (.dK kvs)/\y=kV k/\r=hX kvs k)∨∃kvs k b,Rd H a (.dT kvs)/\y=.ref b/\H b=Ya (.tup (k.map kV))/\r=hX kvs k
def HE(H:Hp)(a:Yc)(y v:V)(H':Hp):Prop:=
 (∃kvs k,H a=Ya (.dK kvs)/\y=kV k/\kvs.length<Yu/\H'=upd H a (.dK (iP kvs k v)))∨
 ∃kvs k b,H a=Ya (.dT kvs)/\y=.ref b/\H b=Ya (.tup (k.map kV))/\kvs.length<Yu/\H'=upd H a (.dT (iP kvs k v))
theorem ud.t{k:List cj}(e:H a=Ya (.dT kvs))(eb:H b=Ya (.tup (k.map kV))):ud H a (.ref b) (hX kvs k):=.inr #[kvs,k,b,.inl e,rfl,eb,rfl]
theorem HE.t{k:List cj}(e:H a=Ya (.dT kvs))(eb:H b=Ya (.tup (k.map kV)))(hl:kvs.length<Yu):
  HE H a (.ref b) v (upd H a (.dT (iP kvs k v))):=.inr #[kvs,k,b,e,rfl,eb,hl,rfl]
section
variable{r:Yd}{o:Option V}
theorem aM.big(I:aM X pins σ H s):RW<s.heap.objs.size:=by
 have h:YS<s.heap.objs.size:=(I.mod.glob.keeps I.bk).lt;show ajb (by decide) h
theorem Qj(hu:A.units+ 1<ab0)(I:aM X pins σ H s)(g:ud H a y (Ya v))(ry:RelV y u)(h:∀w' s',aM X pins σ H s'->RelV v w'->Q w' s'):
  Yl (Yn X.prog X.w) A (aip (.ref a) u) Q E s:=by
 rcases g with⟨kvs,k,e,ey,l⟩|⟨kvs,k,b,e,ey,eb,l⟩
 .subst ey;obtain⟨z,hd,vs,rel,dd⟩:=kP I.hok e;obtain⟨w',hw,rw'⟩:=mY.some_of (v:=v) (o:=ai7 vs k) (by rw[l];show rel.val k);show wpAny_getItem_of (GG ry) dd.mapOf hw (h w' _ (I.tok _) rw')
 .subst ey;cases (show u=Yv b from ry);obtain⟨z,hd,xs,rel,dd⟩:=y8 I.hok e;obtain⟨w',hw,rw'⟩:=mY.some_of (v:=v) (o:=(ai1 xs k).map (·.2)) (by rw[l];show rel.val k);obtain⟨p,hp,hp2⟩:=ajK.mp hw;show wpAny_getItem_heap (agM hu) (key_of I.hok eb) dd hp ?_;rw[hp2];show h w' _ (I.tok _) rw'
theorem afP(hu:A.units+ 1<ab0)(I:aM X pins σ H s)(g:ud H a y o)(ry:RelV y u)(h:∀s',aM X pins σ H s'->Q (.bool o.isSome) s'):
  Yl (Yn X.prog X.w) A (xk .In u (.ref a)) Q E s:=by
 rcases g with⟨kvs,k,e,ey,l⟩|⟨kvs,k,b,e,ey,eb,l⟩
 .subst ey;obtain⟨z,hd,vs,rel,dd⟩:=kP I.hok e;show wpAny_in_of (GG ry) hd dd.mapOf ?_;rw[←(rel.val k).isSome_eq,←l];show h _ (I.tok _)
 .subst ey;cases (show u=Yv b from ry);obtain⟨z,hd,xs,rel,dd⟩:=y8 I.hok e;show wpAny_in_heap (agM hu) (key_of I.hok eb) hd dd ?_;have q:=(rel.val k).isSome_eq;rw[akZ]at q;rw[←q,←l];show h _ (I.tok _)
theorem Ou{ob:HO}(I:aM X pins σ H s)(mu:Mut (H a))(hs:aaq a s.heap h')(he:∃q,h'.get? a=Ya q)(new:cO X.prog X.w (upd H a ob) h' a ob):
  aM X pins σ (upd H a ob) {s with heap:=h',toks:=t'}:=
 I.write (x:=a) (e:=a) mu (.inl rfl) (λb q hb z=>(hs.2 b hb).trans z) he new
theorem Hz{kvs:List (cj×V)}{vs:List (cj×Yd)}(z:kvs.length<=Yu)(hd:(a==RW)=false)(rel:KV kvs vs)(dd:h'.DictOf (bB P w) a vs):
  cO P w H' h' a (.dK kvs):=#[z,hd,vs,rel,dd]
theorem RH{Q:Unit->Yi->Prop}(hu:A.units+ 1<ab0)(I:aM X pins σ H s)(g:HE H a y v H')(ry:RelV y u)(rv:RelV v r)(h:∀s',aM X pins σ H' s'->Q () s'):
  Yl (Yn X.prog X.w) A (setItem (.ref a) u r) Q E s:=by
 rcases g with⟨kvs,k,e,ey,l,eH⟩|⟨kvs,k,b,e,ey,eb,l,eH⟩
 .subst ey eH;obtain⟨z,hd,vs,rel,dd⟩:=Tx I.hok e;have hz:vs.length<=Yu:=by rw[←rel.length];show z
  have hl:(iP kvs k v).length<=Yu:=by have:=tu kvs k v;omega
  show wpAny_setItem_pairs (hsz:=hz) (GG ry) dd λh' dd' hs=>h _ ?_;have he:∃q,h'.get? a=Ya q:=let ⟨q,_,_,hq,_⟩:=dd';#[q,hq];show Ou I (by rw[e];show ado) hs he (Hz hl hd (rel.put k rv) dd')
 .subst ey eH;cases (show u=Yv b from ry);obtain⟨z,hd,xs,rel,dd⟩:=ae7 I.hok e;have hz:xs.length<=Yu:=by rw[←Y2 rel];show z
  have hl:(iP kvs k v).length<=Yu:=by have:=tu kvs k v;omega
  show wpAny_setItem_heap (hsz:=hz) (agM hu) (key_of I.hok eb) dd λh' dd' hs=>h _ ?_;obtain⟨q,es,ep,hq,h2,h3,h4,_,h5⟩:=dd';show Ou I (by rw[e];show ado) hs #[q,hq] #[hl,hd,_,(rel.put k eb rv).keeps λc ys ec=>?_,q,es,ep,hq,h2,h3,h4,h5];rw[ak (cG ec e (λz=>nomatch z))];show ec
end
section
variable{kvs:List (cj×V)}
theorem aey(I:aM X pins σ H s)(e:Rd H a (.dK kvs))(h:∀t s',aM X pins σ H s'->Q (.int kvs.length t) s'):Yl (Yn X.prog X.w) A (call (.builtin "len") [.ref a]) Q E s:=by
 obtain⟨z,hd,vs,rel,dd⟩:=kP I.hok e;show call_len_dict hd dd (by rw[←rel.length];rw[adm]at z;omega) ?_;rw[←rel.length];show h _ _ (I.tok _)
end
def aet(i:YY):Prop:=∀ov iv,ajL i false ov iv=am8 [ov,iv] (aip ov iv)
theorem WJ{slice:YY}(hl:akg (.type T) "__getitem__"=pure (Ya (.builtin id)))(hs:aet slice)(h:Yl (Yn prog w) A (Y3 value env) (λo s₁=>Yl (Yn prog w) A (Y3 slice env) (λi s₂=>s₂.TypeIs o T/\Yl (Yn prog w) A (aip o i) Q E s₂) E s₁) E s):
  Yl (Yn prog w) A (Y3 (.Subscript value slice pos) env) Q E s:=by
 show alL (pk h (λo s₁ h₁=>pk h₁ (λi s₂ h₂=>?_) λ_ _ x=>x) λ_ _ x=>x);obtain⟨hT,h₂⟩:=h₂;unfold aks;show Yf ?_;rw[getitemInPython_of_ne hT.not_modules];show Yf (alM hT hl ?_);have fin:Yl (Yn prog w) A (ajL slice false o i) (λr s₃=>Yl (Yn prog w) A (letTemporaryGo value o r >>= λ_=>pure r) Q E s₃) E s₂:=by
  rw[hs o i];show wpAny_operating (pk h₂ (λr s₃ h₃=>Yf (wpAny_letTemporaryGo (Yk h₃))) λ_ _ x=>x)
 first
  |show Yk (Yf fin)
  |show Yf (Yk (Yf fin))
  |show Yf fin
theorem LU{o:Option V}(I:aM X pins σ H s)(g:ud H a y o):s.TypeIs (.ref a) "dict":=by
 rcases g with⟨kvs,k,e,_,_⟩|⟨kvs,k,b,e,_,_,_⟩
 .obtain⟨_,_,vs,_,dd⟩:=kP I.hok e;show dd.typeIs
 .obtain⟨_,_,xs,_,dd⟩:=y8 I.hok e;show dd.typeIs
def aam(td ty:TE):TE:=λσ H Q=>td σ H λx H1=>ty σ H1 λy H2=>∃a v,x=.ref a/\ud H2 a y (Ya v)/\Q v H2
def adV(ty td:TE):TE:=λσ H Q=>ty σ H λy H1=>td σ H1 λx H2=>∃a o,x=.ref a/\ud H2 a y o/\Q (.bl o.isSome) H2
def Px(td ty tv:TE):TS:=λD σ H=>tv σ H λv H1=>td σ H1 λx H2=>ty σ H2 λy H3=>∃a H4,x=.ref a/\HE H3 a y v H4/\D.nx σ H4
section
variable{o i:YY}
theorem Ic(hu:X.A.units+ 1<ab0)(ho:PE X o td)(hi:PE X i ty)(hs:aet i):PE X (.Subscript o i pos) (aam td ty):=by
 intro pins s σ H Q I h;show WJ PySem.F.slot_dict_getitem.lookup hs (cR (ho pins s σ H _ I h) λu s1 zz=>?_);obtain⟨x,H1,I1,rx,q1⟩:=zz;show cR (hi pins s1 σ H1 _ I1 q1) λiv s2 zz=>?_;obtain⟨y,H2,I2,ry,a,v,ex,g,q2⟩:=zz;subst ex;obtain rfl:u=Yv a:=rx;show#[LU I2 g,Qj hu I2 g ry λw' s3 I3 rw'=>#[v,H2,I3,rw',q2]]
theorem aca(hu:X.A.units+ 1<ab0)(hi:PE X i ty)(ho:PE X o td):PC X .In i o (adV ty td):=by
 intro pins s σ H Q I h;show cR (hi pins s σ H _ I h) λiv s1 zz=>?_;obtain⟨y,H1,I1,ry,q1⟩:=zz;show cR (ho pins s1 σ H1 _ I1 q1) λu s2 zz=>?_;obtain⟨x,H2,I2,rx,a,ov,ex,g,q2⟩:=zz;subst ex;obtain rfl:u=Yv a:=rx;show afP hu I2 g ry λs3 I3=>#[.bl ov.isSome,H2,I3,rfl,q2]
theorem CG(hu:X.A.units+ 1<ab0)(ho:PE X o td)(hi:PE X i ty)(hv:PE X value tv)(hs:aiB value (Ya (.Subscript o i pos')) pos.line X.env=pure false):
  PS X (.Assign [.Subscript o i pos'] value pos) (Px td ty tv):=by
 intro pins s σ H D I h;show wpAny_Assign_Subscript (cR (hv pins s σ H _ I h) λr s1 zz=>?_) hs;obtain⟨v,H1,I1,rv,q1⟩:=zz;show cR (ho pins s1 σ H1 _ I1 q1) λu s2 zz=>?_;obtain⟨x,H2,I2,rx,q2⟩:=zz;show cR (hi pins s2 σ H2 _ I2 q2) λiv s3 zz=>?_;obtain⟨y,H3,I3,ry,a,H4,ex,g,q3⟩:=zz;subst ex;obtain rfl:u=Yv a:=rx;show RH hu I3 g ry rv λs4 I4=>#[σ,H4,I4,q3]
end
theorem TL(h:YO)(hb:RW<h.objs.size):cO P w H (h.push {cls:=.type "dict",data:=.dict #[]}) h.objs.size (.dK []):=
 #[Y1 _,beq_eq_false_iff_ne.mpr (Ne.symm (YB hb)),[],.nil,Heap.DictOf.new h]
theorem Ut(h:YO)(hb:RW<h.objs.size):cO P w H (h.push {cls:=.type "dict",data:=.dict #[]}) h.objs.size (.dT []):=
 #[Y1 _,beq_eq_false_iff_ne.mpr (Ne.symm (YB hb)),[],.nil,_,#[],0,Ys _ rfl,#[rfl,rfl,rfl],rfl,rfl,aj0]
def VB:TE:=λ_ H Q=>∀p,H p=Yb->Q (.ref p) (upd H p (.dK []))
def acs:TE:=λ_ H Q=>∀p,H p=Yb->Q (.ref p) (upd H p (.dT []))
section
theorem mT:PE X (.Dict [] [] pos) VB:=λpins s σ H Q I h=>
 aln #[.ref s.heap.objs.size,_,I.laid (a:=s.heap.objs.size) (o:=.dK []) (t':=s.toks) (λ_ _ q=>Yg _ q) (Ym _) (TL s.heap I.big),rfl,h _ (I.hok.fresh (Ym _))]
theorem UW:PE X (.Dict [] [] pos) acs:=λpins s σ H Q I h=>
 aln #[.ref s.heap.objs.size,_,I.laid (a:=s.heap.objs.size) (o:=.dT []) (t':=s.toks) (λ_ _ q=>Yg _ q) (Ym _) (Ut s.heap I.big),rfl,h _ (I.hok.fresh (Ym _))]
end
noncomputable def Af(kvs more:List (cj×V)):List (cj×V):=more.foldl (λacc kv=>iP acc kv.1 kv.2) kvs
theorem KV.merge:∀{more:List (cj×V)} {rs:List (cj×Yd)} {kvs:List (cj×V)} {vs:List (cj×Yd)},KV more rs->KV kvs vs->KV (Af kvs more) (ajc vs rs):=by
 intro more rs kvs vs r;unfold KV at r
 induction r generalizing kvs vs with
 |nil=>intro q;show q
 |@cons p q ps qs h t ih=>
  intro r0;have e:KV (iP kvs p.1 p.2) (stored vs q.1 q.2):=by
   have:=r0.put p.1 h.2;rw[←h.1];show this
  show ih e
structure M1(X:Cx)(o:YY)(m:Yh)(apos:adq)(e:YY)(cpos:adq):Prop where
 base:afd o m X.env (Y3 o X.env)=Y3 o X.env
 few:((tq cpos (YC [e] X.env)).all (λx=>!x.1)&&(adj cpos (BD [] X.env)).all (λx=>x.1.isSome)
  &&decide (([e]:List YY).length+ ([]:List ahW).length+ (if([]:List ahW).isEmpty then 0 else 1)<30))=true
 line:(apos.endLine==cpos.line)=true
 trees:tq cpos (YC [e] X.env)=[(false,Y3 e X.env)]
structure M2(X:Cx)(o:YY)(m:Yh)(apos:adq)(e f:YY)(cpos:adq):Prop where
 base:afd o m X.env (Y3 o X.env)=Y3 o X.env
 few:((tq cpos (YC [e,f] X.env)).all (λx=>!x.1)&&(adj cpos (BD [] X.env)).all (λx=>x.1.isSome)
  &&decide (([e,f]:List YY).length+ ([]:List ahW).length+ (if([]:List ahW).isEmpty then 0 else 1)<30))=true
 line:(apos.endLine==cpos.line)=true
 trees:tq cpos (YC [e,f] X.env)=[(false,Y3 e X.env),(false,Y3 f X.env)]
def IsD(H:Hp)(a:Yc):Prop:=(∃kvs,Rd H a (.dK kvs))∨∃kvs,Rd H a (.dT kvs)
theorem TY(I:aM X pins σ H s)(d:IsD H a):
  s.TypeIs (.ref a) "dict"/\(∀b,Yv a=.ref b->∃ob,s.heap.get? b=Ya ob/\ob.dict=Yb)/\(a==RW)=false:=by
 rcases d with⟨kvs,e⟩|⟨kvs,e⟩
 .obtain⟨_,hd,vs,_,dd⟩:=kP I.hok e;show#[dd.typeIs,λb q=>?_,hd];cases q;obtain⟨ob,_,_,h1,h2,_⟩:=dd;show#[ob,h1,h2.2.1]
 .obtain⟨_,hd,xs,_,dd⟩:=y8 I.hok e;show#[dd.typeIs,λb q=>?_,hd];cases q;obtain⟨ob,_,_,h1,h2,_⟩:=dd;show#[ob,h1,h2.2.1]
section
variable{r:Yd}{o:Option V}
theorem abE(hu:A.units+ 1<ab0)(I:aM X pins σ H s)(g:ud H a y o)(ry:RelV y u)(h:∀w' s',aM X pins σ H s'->RelV (o.getD .non) w'->Q w' s'):
  Yl (Yn X.prog X.w) A (call (.builtin "dict.get") [.ref a,u]) Q E s:=by
 rcases g with⟨kvs,k,e,ey,l⟩|⟨kvs,k,b,e,ey,eb,l⟩
 .subst ey;obtain⟨z,hd,vs,rel,dd⟩:=kP I.hok e;show ahp afk dd.typeIs agR (ajy _ _) (meets_dict_get (bB X.prog X.w) a (GG ry) hd) #[_,dd.mapOf,h _ _ (I.tok _) ?_];rw[l];show(rel.val k).getD rfl
 .subst ey;cases (show u=Yv b from ry);obtain⟨z,hd,xs,rel,dd⟩:=y8 I.hok e;show ahp afk dd.typeIs agR (ajy _ _) (meetsH_dict_get (afi (bB X.prog X.w)) a b hd) #[agM hu,k,xs,key_of I.hok eb,dd,h _ _ (I.tok _) ?_];rw[l];show(rel.val k).getD rfl
theorem acF(hu:A.units+ 1<ab0)(I:aM X pins σ H s)(g:ud H a y o)(ry:RelV y u)(rd:RelV d r)(h:∀w' s',aM X pins σ H s'->RelV (o.getD d) w'->Q w' s'):
  Yl (Yn X.prog X.w) A (call (.builtin "dict.get") [.ref a,u,r]) Q E s:=by
 rcases g with⟨kvs,k,e,ey,l⟩|⟨kvs,k,b,e,ey,eb,l⟩
 .subst ey;obtain⟨z,hd,vs,rel,dd⟩:=kP I.hok e;show ahp afk dd.typeIs agR (ajz _ _ _) (meets_dict_get_default (bB X.prog X.w) a (GG ry) hd r) #[_,dd.mapOf,h _ _ (I.tok _) ?_];rw[l];show(rel.val k).getD rd
 .subst ey;cases (show u=Yv b from ry);obtain⟨z,hd,xs,rel,dd⟩:=y8 I.hok e;show ahp afk dd.typeIs agR (ajz _ _ _) (meetsH_dict_get_default (afi (bB X.prog X.w)) a b hd r) #[agM hu,k,xs,key_of I.hok eb,dd,h _ _ (I.tok _) ?_];rw[l];show(rel.val k).getD rd
end
def TM(td ty:TE):TE:=λσ H Q=>td σ H λx H1=>∃a,x=.ref a/\IsD H1 a/\ty σ H1 λy H2=>∃o,ud H2 a y o/\Q (o.getD .non) H2
def abL(td ty tx:TE):TE:=λσ H Q=>td σ H λx H1=>∃a,x=.ref a/\IsD H1 a/\ty σ H1 λy H2=>tx σ H2 λz H3=>∃o,ud H3 a y o/\Q (o.getD z) H3
section
variable{o f:YY}{cpos:adq}{tx:TE}
theorem TX(hu:X.A.units+ 1<ab0)(ho:PE X o td)(he:PE X e ty)(m:M1 X o "get" apos e cpos):PE X (.Call (.Attribute o "get" apos) [e] [] cpos) (TM td ty):=by
 intro pins s σ H Q I h;show ak0 m.base m.few m.line ads afk aj1 (cR (ho pins s σ H _ I h) λu s1 zz=>?_);obtain⟨x,H1,I1,rx,a,ex,d,q1⟩:=zz;subst ex;obtain rfl:u=Yv a:=rx;obtain⟨t1,t2,_⟩:=TY I1 d;show#[t1,t2,?_];rw[m.trees];show aeW rfl (ag8 (aho (cR (he pins s1 σ H1 _ I1 q1) λiv s2 zz=>?_)));obtain⟨y,H2,I2,ry,ov,g,q2⟩:=zz;show aiW ?_;show abE hu I2 g ry λw' s3 I3 rw'=>#[_,H2,I3,rw',q2]
theorem SN(hu:X.A.units+ 1<ab0)(ho:PE X o td)(he:PE X e ty)(hf:PE X f tx)(m:M2 X o "get" apos e f cpos):PE X (.Call (.Attribute o "get" apos) [e,f] [] cpos) (abL td ty tx):=by
 intro pins s σ H Q I h;show ak0 m.base m.few m.line ads afk aj1 (cR (ho pins s σ H _ I h) λu s1 zz=>?_);obtain⟨x,H1,I1,rx,a,ex,d,q1⟩:=zz;subst ex;obtain rfl:u=Yv a:=rx;obtain⟨t1,t2,_⟩:=TY I1 d;show#[t1,t2,?_];rw[m.trees];show aeW rfl (ag8 (aho (cR (he pins s1 σ H1 _ I1 q1) λiv s2 zz=>?_)));obtain⟨y,H2,I2,ry,q2⟩:=zz;show aho (cR (hf pins s2 σ H2 _ I2 q2) λfv s3 zz=>?_);obtain⟨z,H3,I3,rz,ov,g,q3⟩:=zz;show aiW ?_;show acF hu I3 g ry rz λw' s4 I4 rw'=>#[_,H3,I4,rw',q3]
end
section
variable{kvs:List (cj×V)}
theorem UG(I:aM X pins σ H s)(e:Rd H a (.dK kvs))(h:∀p s',H p=Yb->aM X pins σ (upd H p (.dK kvs)) s'->Q (.ref p) s'):Yl (Yn X.prog X.w) A (call (.type "dict") [.ref a]) Q E s:=by
 obtain⟨z,hd,vs,rel,dd⟩:=kP I.hok e;show kt_call_dict hd dd (by rw[←rel.length];show z) λh' dd' hs=>?_;show h _ _ (I.hok.fresh (Ym _)) (I.laid (a:=s.heap.objs.size) (o:=.dK kvs) (t':=s.toks) (λb q hq=>?_) (Ym _) (Hz z (beq_eq_false_iff_ne.mpr (Ne.symm (YB I.big))) rel dd'));show(hs.2 b (YB (Yt hq))).trans (Yg _ hq)
end
end L2
namespace HT
open PySem PyProof.Rows
variable{items:Array Yd}{Q:Yd->Yi->Prop}{sl:Yc}{vl vu:Yd}{lo hi:Option Int}
noncomputable def gh:List Int->List Int->Bool
 |[],[]=>false
 |[],_::_=>true
 |_::_,[]=>false
 |x::xs,y::ys=>if x=y then gh xs ys else decide (x<y)
theorem qS(x y:Int)(xs ys:List Int):gh (x::xs) (y::ys)=if x=y then gh xs ys else decide (x<y):=rfl
theorem FZ:gh [] []=false:=rfl
theorem El(y:Int)(ys:List Int):gh [] (y::ys)=true:=rfl
theorem Es(x:Int)(xs:List Int):gh (x::xs) []=false:=rfl
theorem UH(A:sq)(s:Yi)(a:Int)(t:agl)(c:Int)(u:agl):∃e,SeqAt.EqAt A s (.int a t) (.int c u) e/\(e=true↔a=c):=
 #[(a==c),SeqAt.EqAt.int_int a t c u,by simp]
theorem Ta(A:sq)(s:Yi)(a:Int)(t:agl)(c:Int)(u:agl)(prog:YU)(w:YZ)(E:Yd->Yi->Prop)(Q:Yd->Yi->Prop)(h:Q (.bool (decide (a<c))) s):
  Yl (Yn prog w) A (ajM .Lt (.int a t) (.int c u)) Q E s:=
 (alC h:Yl (Yn prog w) A (xk .Lt (.int a t) (.int c u)) Q E s)
section
open PySem.SeqAt
open PySem.AutoSeq1 (wpAny_loadPart')
open PySem.MeetsSeq PySem.MeetsSeq2 PySem.MeetsSeq3
theorem FJ(l b:Yc)(items items2:Array Yd)(n n2:Nat)(dd dd2:Option Yc)(sl sl2:Array (Option Yd))(ns ms:List Int)(hi:xn items.toList ns)(hj:xn items2.toList ms):
  ahk (xb.«tuple.__lt__» #[[.ref l,.ref b],[]])
   (λ_ R s=>s.heap.get? l=Ya {cls:=.type "tuple",dict:=dd,data:=.seq items n,slots:=sl}/\s.heap.get? b=Ya {cls:=.type "tuple",dict:=dd2,data:=.seq items2 n2,slots:=sl2}/\
    R (.ok (.ret (.bool (gh ns ms)))) s):=
 .of_wp λprog w A R s h=>by
  obtain⟨hp,g,d,tk,os⟩:=s;obtain⟨hl,hb,h⟩:=h;have f2:=AutoSeq1.sub_tuple_tuple;have z1:items.size=ns.length:=by rw[←hi.length];simp
  have z2:items2.size=ms.length:=by rw[←hj.length];simp
  wp_walk using alN hl,alN hb,wpAny_forIn_list _ (λrest b s'=>b.1=Yb/\s'=#[hp,g,d,tk,os]/\∃(vs ws:List Yd) (ns' ms':List Int),rest=vs.zip ws/\
   xn vs ns'/\xn ws ms'/\ns'.length+ items2.size=ms'.length+ items.size/\R (.ok (.ret (.bool (gh ns' ms')))) #[hp,g,d,tk,os]) _
  case turn=>
   rintro⟨y,x⟩ rest b s' ⟨hb',rfl,vs,ws,ns',ms',hz,hvi,hwi,hlen,hR⟩;cases hvi with
   |nil=>rw[List.zip_nil_left]at hz;cases hz
   |cons a t hvi'=>
    cases hwi with
    |nil=>rw[List.zip_nil_right]at hz;cases hz
    |cons c u hwi'=>
     rw[aiG]at hz;injection hz with hyx hrest;injection hyx with hy hx;subst hy hx;rw[qS]at hR;simp only[cT]at hlen;obtain⟨e,he,hiff⟩:=UH A.in1 #[hp,g,d,tk,os] a t c u;show Yf (he prog w _ _ ?_);cases e with
     |true=>
      rw[if_pos (hiff.mp rfl)]at hR
      wp_walk
      show#[rfl,rfl,_,_,_,_,hrest,hvi',hwi',by omega,hR]
     |false=>
      rw[if_neg (λq=>absurd (hiff.mpr q) YQ)]at hR;have hri:=Ta A.in1 #[hp,g,d,tk,os] a t c u prog w
      wp_walk using hri
      show#[_,rfl,by simpa using hR]
  case fin=>
   rintro⟨b1,b2⟩ s' ⟨hb',rfl,vs,ws,ns',ms',hz,hvi,hwi,hlen,hR⟩;simp only at hb';subst hb';have hv:gh ns' ms'=decide (items.size<items2.size):=by
    cases hvi with
    |nil=>
     cases hwi with
     |nil=>
      simp only[afo]at hlen;rw[FZ];show(decide_eq_false (by omega)).symm
     |cons c u hw=>
      simp only[afo,cT]at hlen;rw[El];show(decide_eq_true (by omega)).symm
    |cons a t hv=>
     cases hwi with
     |nil=>
      simp only[afo,cT]at hlen;rw[Es];show(decide_eq_false (by omega)).symm
     |cons c u hw=>
      rw[aiG]at hz;cases hz
   rw[hv]at hR
   wp_walk
   show#[_,rfl,by simpa [alD]using hR]
  case h=>
   show#[rfl,rfl,items.toList,items2.toList,ns,ms,rfl,hi,hj,by omega,h]
end
section
variable{prog:YU}{w:YZ}{A:sq}{E:Yd->Yi->Prop}{s:Yi}
theorem MV{l b:Yc}{items2:Array Yd}{ns ms:List Int}(hl:amD s.heap l items)(hb:amD s.heap b items2)(hi:xn items.toList ns)(hj:xn items2.toList ms)(hu:A.units<ab0)(h:Q (.bool (gh ns ms)) s):Yl (Yn prog w) A (xk .Lt (.ref l) (.ref b)) Q E s:=by
 obtain⟨⟨cls,dd,data,sl⟩,ho,hc,n,hd⟩:=id hl;obtain⟨⟨cls2,dd2,data2,sl2⟩,ho2,hc2,n2,hd2⟩:=id hb;simp only at hc hd hc2 hd2;subst hc hd hc2 hd2;show richCompare_meets_room (op:=.Lt) #[_,ho,rfl] #[_,ho2,rfl] PySem.F.slot_tuple_lt PySem.F.entry_tuple_lt (PySem.F.args_tuple_lt_2 _ _) (FJ l b items items2 n n2 dd dd2 sl sl2 ns ms hi hj)
  #[ho,ho2,show ag5 (gh ns ms)≠Value.notImplemented/\Q (.bool (gh ns ms)) s from#[(λx=>nomatch x),h]] hu
noncomputable def jn(n d:Nat):Option Int->Nat
 |none=>d
 |some v=>if v<0 then(v+ (n:Int)).toNat else min v.toNat n
theorem ab7(n d:Nat)(hd:d<=n)(o:Option Int):jn n d o<=n:=by
 cases o with
 |none=>show hd
 |some v=>
  change(if v<0 then(v+ (n:Int)).toNat else min v.toNat n)<=n;by_cases hv:v<0
  .rw[if_pos hv];omega
  .rw[if_neg hv];show Nat.min_le_right _ _
theorem PF(v:Int)(n d:Nat):(if v<0 then max (v+ (n:Int)) 0 else min v (n:Int))=((jn n d (Ya v):Nat):Int):=by
 change(if v<0 then max (v+ (n:Int)) 0 else min v (n:Int))=(((if v<0 then(v+ (n:Int)).toNat else min v.toNat n):Nat):Int);by_cases hv:v<0
 .simp only[if_pos hv];omega
 .simp only[if_neg hv];omega
theorem Na(lo hi:Option Int)(n:Nat):ahl lo hi 1 (n:Int)=(((jn n 0 lo:Nat):Int),((jn n n hi:Nat):Int)):=by
 have h1:¬ ((1:Int)<0):=by omega
 unfold ahl;simp only[h1,if_false];show Prod.ext ?_ ?_
 .cases lo with
  |none=>rfl
  |some v=>show PF v n 0
 .cases hi with
  |none=>rfl
  |some v=>show PF v n n
theorem My(i j:Nat):agj (i:Int) (j:Int) 1=j-i:=by
 unfold agj;have h1:(1:Int)>0:=by omega
 simp only[h1,if_true,Int.ediv_one];split<;>omega
theorem DF{v:Yd}{o:Option Int}{Q:Option Int->Yi->Prop}(p:ajd v o)(h:Q o s):Yl (Yn prog w) A (al4 v) Q E s:=by
 cases p with
 |none=>show al5 h
 |int i t=>show slicePart_int h
theorem Aw{n:Nat}{Q:Int×Int×Nat->Yi->Prop}(hs:s.heap.IsSliceOf sl vl vu .none)(pl:ajd vl lo)(pu:ajd vu hi)(h:Q (((jn n 0 lo:Nat):Int),1,jn n n hi-jn n 0 lo) s):Yl (Yn prog w) A (aiL (.ref sl) (pure (n:Int))) Q E s:=by
 obtain⟨os,hos,hcs,hds⟩:=id hs;unfold aiL amE;show Yf (Yf (ahK hos hds (x:=vl) rfl (Yf (ahK hos hds (x:=vu) rfl (Yf (ahK hos hds (x:=.none) rfl (Yk ?_)))))));show Yf (al5 ?_);change Yl _ _ (if((1:Int)==0)=true then _ else _) _ _ s;rw[if_neg (by decide)];show Yf (DF pl (Yf (DF pu (Yf (Yk ?_)))));change Yl _ _ (match ahl lo hi 1 (n:Int)with|(lo,hi)=>pure (lo,(1:Int),agj lo hi 1)) _ _ s;rw[Na lo hi n];change Yl _ _ (pure (((jn n 0 lo:Nat):Int),(1:Int),agj ((jn n 0 lo:Nat):Int) ((jn n n hi:Nat):Int) 1)) _ _ s;rw[My];show Yk h
theorem Uk(xs:Array Yd)(i k:Nat):((gp k).filterMap fun(m:Nat)=>xs[((i:Int)+ (m:Int)*1).toNat]?).toArray=((xs.toList.drop i).take k).toArray:=by
 have e:(fun(m:Nat)=>xs[((i:Int)+ (m:Int)*1).toNat]?)=λm=>xs[i+ m]?:=by
  funext m;have:((i:Int)+ (m:Int)*1).toNat=i+ m:=by omega
  rw[this]
 rw[e];have:=pick_run xs i k;rw[List.filterMap_map]at this;have e2:((λx=>xs[x]?)∘λx=>i+ x)=λm=>xs[i+ m]?:=rfl;rw[e2]at this;rw[this]
theorem zi{t:Yc}(ht:amD s.heap t items)(hs:s.heap.IsSliceOf sl vl vu .none)(pl:ajd vl lo)(pu:ajd vu hi)(hw:¬ (jn items.size 0 lo=0/\jn items.size items.size hi=items.size))(h:Q (.ref s.heap.objs.size) {s with heap:=s.heap.push {cls:=.type "tuple",data:=.seq ((items.toList.drop (jn items.size 0 lo)).take (jn items.size items.size hi-jn items.size 0 lo)).toArray}})(hsz:items.size<=Yu):Yl (Yn prog w) A (aip (.ref t) (.ref sl)) Q E s:=by
 have htake:sizeOk (.seq ((items.toList.drop (jn items.size 0 lo)).take (jn items.size items.size hi-jn items.size 0 lo)).toArray):=by
  change((items.toList.drop (jn items.size 0 lo)).take (jn items.size items.size hi-jn items.size 0 lo)).toArray.size<=Yu;rw[YA,CA,ahT,mr];omega
 have hj:jn items.size items.size hi<=items.size:=ab7 _ _ (Ym _) hi;obtain⟨os,hos,hcs,hds⟩:=id hs;have hTs:s.TypeIs (.ref sl) "slice":=#[os,hos,hcs];unfold aip
 try with_reducible show xu ?_
 first|show Yf (Yk ?_)|skip
 show Yf (wpAny_sequenceKey ht.typeIs (by decide) ?_);show Yf (afL (name:=xl "__getitem__") ht.typeIs af0
  (afh af0 ht.typeIs entry_tuple_getitem ?_ (args_tuple_getitem _ _)))
 change Yl _ _ (amv (.ref t) >>= _) _ _ s;show Yf (tupleItemsOf_ ht ?_);show Yf (akF hTs ?_);rw[if_pos (by decide)];show Yf (Aw hs pl pu ?_);have hno:¬ ((((jn items.size 0 lo:Nat):Int)==0&&(1:Int)==1&&(jn items.size items.size hi-jn items.size 0 lo)==items.size)=true):=by
  intro q;rw[ag9,ag9]at q;have q1:((jn items.size 0 lo:Nat):Int)=0:=eq_of_beq q.1.1;have q2:jn items.size items.size hi-jn items.size 0 lo=items.size:=eq_of_beq q.2;show hw #[by omega,by omega]
 change Yl _ _ (if(((jn items.size 0 lo:Nat):Int)==0&&(1:Int)==1&&(jn items.size items.size hi-jn items.size 0 lo)==items.size)=true then _ else _) _ _ s;rw[if_neg hno,Uk]
 first
  |show Yf (m:=agx _) (abx (Yk #[_,rfl,Yk h]) htake)
  |show Yf (m:=agx _) (abx (Yf (Yk (Yk #[_,rfl,Yk h]))) htake)
  |show Yf (Yf (m:=agx _) (abx (Yk (Yk #[_,rfl,Yk h])) htake))
  |show Yf (Yf (m:=agx _) (abx (Yk #[_,rfl,Yk h]) htake))
end
end HT
namespace L2
open PySem PySem.Spec PyProof.Rows
variable{X:Cx}{e:YY}{pos:adq}{n j t':Nat}{i:Int}{r:R2}{pins:List (Yc×Y8)}{σ:St}{H:Hp}{s:Yi}{T:String}{its:List Yd}
abbrev TO:=St->Hp->(Option Int->Hp->Prop)->Prop
def PO(X:Cx)(e:Option YY)(t:TO):Prop:=
 ∀(pins:List (Yc×Y8)) (s:Yi) (σ:St) (H:Hp) (Q:Option Int->Hp->Prop),aM X pins σ H s->t σ H Q->
  Yl (Yn X.prog X.w) X.A (evalPart e X.env) (λu s'=>∃o H',aM X pins σ H' s'/\ajd u o/\Q o H') X.xe s
def Py:TO:=λ_ H Q=>Q Yb H
def aaf(t:TE):TO:=λσ H Q=>t σ H λx H1=>∃i,x=.int i/\Q (Ya i) H1
theorem mG{ns:List Int}:∀{us:List Yd},Vals (ns.map V.int) us->xn us ns:=by
 induction ns with
 |nil=>intro us r;rw[akB]at r;cases r;show .nil
 |cons n ns ih=>
  intro us r;rw[YL]at r;cases r with
  |cons r1 r2=>
   obtain⟨t,e⟩:=r1;subst e;show .cons n t (ih r2)
section
variable{te:TE}{lo hi:Option YY}{tl th:TO}{p2:adq}
theorem Cy:PO X Yb Py:=by
 intro pins s σ H Q I h;rw[amw];show Yk #[Yb,H,I,.none,h]
theorem Cv(h:PE X e te):PO X (Ya e) (aaf te):=by
 intro pins s σ H Q I hw;rw[evalPart_some];show cR (h pins s σ H _ I hw) λu s1 zz=>?_;obtain⟨x,H1,I1,r1,q1⟩:=zz;obtain⟨i,rfl,q⟩:=q1;obtain⟨t,rfl⟩:=r1;show#[Ya i,H1,I1,.int i t,q]
def SlR(X:Cx)(r:V->Option Int->Option Int->Hp->VK->Prop):Prop:=
 ∀(pins:List (Yc×Y8)) (s:Yi) (σ:St) (H:Hp) (x:V) (v vl vu:Yd) (lo hi:Option Int) (sl:Yc) (Q:VK),aM X pins σ H s->RelV x v->s.heap.IsSliceOf sl vl vu .none->ajd vl lo->ajd vu hi->r x lo hi H Q->
  ∃T id,akg (.type T) "__getitem__"=pure (Ya (.builtin id))/\s.TypeIs v T/\Yl (Yn X.prog X.w) X.A (aip v (.ref sl)) (EP X pins σ Q) X.xe s
def tSl(r:V->Option Int->Option Int->Hp->VK->Prop)(te:TE)(tl th:TO):TE:=λσ H Q=>te σ H λx H1=>tl σ H1 λl H2=>th σ H2 λu H3=>r x l u H3 Q
theorem yE{r:V->Option Int->Option Int->Hp->VK->Prop}(hr:SlR X r)(he:PE X e te)(hl:PO X lo tl)(hu:PO X hi th):PE X (.Subscript e (.Slice lo hi Yb p2) pos) (tSl r te tl th):=by
 intro pins s σ H Q I h;show alL (cR (he pins s σ H _ I h) λv s1 zz=>?_);obtain⟨x,H1,I1,r1,q1⟩:=zz;show wpAny_Slice (cR (hl pins s1 σ H1 _ I1 q1) λvl s2 zz=>?_);obtain⟨l,H2,I2,pl,q2⟩:=zz;show cR (hu pins s2 σ H2 _ I2 q2) λvu s3 zz=>?_;obtain⟨u,H3,I3,pu,q3⟩:=zz;rw[amw];show Yk ?_;have I4:aM X pins σ H3 {s3 with heap:=s3.heap.push {cls:=.type "slice",data:=.fields (afs [vl,vu,.none])}}:=I3.kept (t':=s3.toks) λb ob q=>Yg _ q;obtain⟨T,id,hT,ht,hg⟩:=hr pins {s3 with heap:=s3.heap.push {cls:=.type "slice",data:=.fields (afs [vl,vu,.none])}} σ H3 x v vl vu l u s3.heap.objs.size Q I4 r1 (Heap.IsSliceOf.new ..) pl pu q3;change Yl (Yn X.prog X.w) X.A (aks e (.Slice lo hi Yb p2) v (.ref s3.heap.objs.size)) (EP X pins σ Q) X.xe {s3 with heap:=s3.heap.push {cls:=.type "slice",data:=.fields (afs [vl,vu,.none])}};show tail_any (ops:=[.ref s3.heap.objs.size,v]) ht hT hg (by with_unfolding_all rfl)
noncomputable def EZ(xs:List V)(lo hi:Option Int):List V:=(xs.drop (HT.jn xs.length 0 lo)).take (HT.jn xs.length xs.length hi-HT.jn xs.length 0 lo)
theorem AX(xs:List V)(lo hi:Option Int):(EZ xs lo hi).length<=xs.length:=by
 unfold EZ;rw[CA,ahT];omega
def aa7(K:Ye):V->Option Int->Option Int->Hp->VK->Prop:=λx lo hi H Q=>∃a xs,x=.ref a/\c8 K H a xs/\
 ¬ (HT.jn xs.length 0 lo=0/\HT.jn xs.length xs.length hi=xs.length)/\∀p,H p=Yb->Q (.ref p) (upd H p (.tup (EZ xs lo hi)))
theorem acv:SlR X (aa7 X.K):=by
 intro pins s σ H x v vl vu lo hi sl Q I rx hs pl pu h;obtain⟨a,xs,rfl,hx,hw,q⟩:=h;cases rx;obtain⟨its,r,ht,hz⟩:=I.tuple hx;have hlen:its.toArray.size=xs.length:=by rw[YA];show r.length.symm
 show#["tuple",_,af0.lookup,ht.typeIs,?_];show HT.zi ht hs pl pu (by rw[hlen];show hw) ?_ (by rw[hlen];show hz);rw[hlen];show#[.ref s.heap.objs.size,_,I.laid (t':=s.toks) (o:=.tup (EZ xs lo hi)) (λb ob q=>Yg _ q) (Ym _) ?_,rfl,q _ (I.hok.fresh (Ym _))];show#[oh (AX xs lo hi) hz,_,(r.drop (HT.jn xs.length 0 lo)).take (HT.jn xs.length xs.length hi-HT.jn xs.length 0 lo),qc.new _ _]
end
noncomputable def ixN(n:Nat)(i:Int):Option Nat:=if 0<=i then(if i<n then Ya i.toNat else Yb)else if-(n:Int)<=i then Ya (i+ n).toNat else Yb
noncomputable def Fx{α:Type}(xs:List α)(i:Int):Option α:=(ixN xs.length i).bind λj=>xs[j]?
theorem Xb(h:ixN n i=Ya j):seqIndex? i n=Ya j/\j<n/\-(n:Int)<=i/\i<n:=by
 unfold ixN at h;by_cases h0:0<=i
 .rw[if_pos h0]at h;by_cases h1:i<n
  .rw[if_pos h1]at h;have e:i.toNat=j:=YM h;show#[by rw[seqIndex_of h0 h1,e],by omega,by omega,h1]
  .rw[if_neg h1]at h;cases h
 .rw[if_neg h0]at h;by_cases h1:-(n:Int)<=i
  .rw[if_pos h1]at h;have e:(i+ n).toNat=j:=YM h;show#[by rw[amK (by omega) h1,e],by omega,h1,by omega]
  .rw[if_neg h1]at h;cases h
theorem IF{α:Type}{xs:List α}{v:α}(h:Fx xs i=Ya v):∃j,seqIndex? i xs.length=Ya j/\xs[j]?=Ya v/\j<xs.length/\-(xs.length:Int)<=i/\i<xs.length:=by
 unfold Fx at h;cases e:ixN xs.length i with
 |none=>rw[e]at h;cases h
 |some j=>
  rw[e]at h;obtain⟨h1,h2,h3,h4⟩:=Xb e;show#[j,h1,h,h2,h3,h4]
theorem m6{α:Type}{xs:List α}{v:α}(h:xs[j]?=Ya v):Fx xs (j:Int)=Ya v:=by
 have hj:j<xs.length:=(Yp.mp h).1;have e:ixN xs.length (j:Int)=Ya j:=by
  unfold ixN;rw[if_pos (by omega),if_pos (by omega)];simp
 unfold Fx;rw[e];show h
def XT(b:YY):Prop:=∀o i,ajL b false o i=am8 [o,i] (aip o i)
def RY(X:Cx)(r:R2):Prop:=
 ∀(value slice:YY) (pins:List (Yc×Y8)) (s:Yi) (σ:St) (H:Hp) (x y:V) (v u:Yd) (Q:VK),aM X pins σ H s->RelV x v->RelV y u->r x y H Q->
  ajL slice false v u=am8 [v,u] (aip v u)->Yl (Yn X.prog X.w) X.A (aks value slice v u) (EP X pins σ Q) X.xe s
def MtR(X:Cx)(id:String)(r:V->List V->Hp->VK->Prop):Prop:=
 ∀(pins:List (Yc×Y8)) (s:Yi) (σ:St) (H:Hp) (x:V) (xs:List V) (v:Yd) (us:List Yd) (Q:VK),aM X pins σ H s->RelV x v->Vals xs us->r x xs H Q->
  Yl (Yn X.prog X.w) X.A (call (.builtin id) (v::us)) (EP X pins σ Q) X.xe s
section
variable{a b:YY}{ta tb:TE}
theorem RY.or{r':R2}(h:RY X r)(h':RY X r'):RY X (λx y H Q=>r x y H Q∨r' x y H Q):=by
 intro value slice pins s σ H x y v u Q I rx ry q hs;rcases q with q|q
 .show h value slice pins s σ H x y v u Q I rx ry q hs
 .show h' value slice pins s σ H x y v u Q I rx ry q hs
theorem fJ(hr:RY X r)(ha:PE X a ta)(hb:PE X b tb)(hs:XT b):PE X (.Subscript a b pos) (tOp r ta tb):=by
 intro pins s σ H Q I h;show alL (acE ha hb I h λv u s2 x y H2 I2 rx ry q=>hr a b pins s2 σ H2 x y v u Q I2 rx ry q (hs _ _))
def Wc(K:Ye):R2:=λx y H Q=>∃p xs i v,x=.ref p/\y=.int i/\bZ K H p xs/\Fx xs i=Ya v/\Q v H
def X3(K:Ye):R2:=λx y H Q=>∃p xs i v,x=.ref p/\y=.int i/\c8 K H p xs/\Fx xs i=Ya v/\Q v H
def aeI:R2:=λx y H Q=>∃z i c,x=.str z/\y=.int i/\z.length<=Yu/\Fx z.cps.toList i=Ya c/\Q (.str #[(afs [c])]) H
theorem OF:RY X (Wc X.K):=by
 intro value slice pins s σ H x y v u Q I rx ry h hs;obtain⟨p,xs,i,z,rfl,rfl,hq,he,q⟩:=h;cases rx;obtain⟨t,rfl⟩:=ry;obtain⟨its,r,pl,hz⟩:=I.list hq;obtain⟨j,h1,h2,h3,h4,h5⟩:=IF he;obtain⟨w,ew,rw'⟩:=r.get h2;have hl:=r.length;have hn:=Dv;have fin:EP X pins σ Q w s:=#[z,H,I,rw',q];by_cases h0:0<=i
 .have hj:i.toNat=j:=by
   rw[seqIndex_of h0 h5]at h1;show YM h1
  show item_listR pl.isList h0 (by omega) (by rw[hj];simpa using ew) fin hs
 .have hj:(i+ (its.toArray.size:Int)).toNat=j:=by
   rw[amK (by omega) h4]at h1;rw[YA,←hl];show YM h1
  show ajN (x:=w) pl.isList.typeIs ak1.lookup
   (wpAny_getItem_list_neg (Q:=λr s'=>r=w/\EP X pins σ Q r s') pl.isList (by omega) (by rw[YA]<;>omega) (by omega) (by rw[hj];simpa using ew) #[rfl,fin]) hs
theorem Uh:RY X (X3 X.K):=by
 intro value slice pins s σ H x y v u Q I rx ry h hs;obtain⟨p,xs,i,z,rfl,rfl,hq,he,q⟩:=h;cases rx;obtain⟨t,rfl⟩:=ry;obtain⟨its,r,pl,hz⟩:=I.tuple hq;obtain⟨j,h1,h2,h3,h4,h5⟩:=IF he;obtain⟨w,ew,rw'⟩:=r.get h2;have hl:=r.length;have hn:=Dv;have fin:EP X pins σ Q w s:=#[z,H,I,rw',q];show ajN (x:=w) pl.typeIs af0.lookup
  (getItem_tuple (j:=j) (Q:=λr s'=>r=w/\EP X pins σ Q r s') pl (by omega) (by omega) (by rw[YA,←hl];show h1) (by simpa using ew) #[rfl,fin]) hs
theorem acT:RY X aeI:=by
 intro value slice pins s σ H x y v u Q I rx ry h hs;obtain⟨z,i,c,rfl,rfl,hz,he,q⟩:=h;obtain⟨t,rfl⟩:=rx;obtain⟨t',rfl⟩:=ry;obtain⟨j,h1,h2,h3,h4,h5⟩:=IF he;have hl:z.cps.toList.length=z.length:=by simp[Str.length]
 rw[hl]at h1 h4 h5;have hn:=Dv;show tail_any (typeIs_str s z t) slot_str_getitem.lookup (getItem_str (c:=c) (by
  have e1:decide (i< -(2^63:Int))=false:=decide_eq_false (by omega);have e2:decide (i≥2^63)=false:=decide_eq_false (by omega);rw[e1,e2,akt]) (by rw[h1];simpa using h2) #[.str #[(afs [c])],H,I.tok _,#[_,rfl],q]) hs
def rIx(K:Ye):R2:=λx y H Q=>Wc K x y H Q∨X3 K x y H Q∨aeI x y H Q
theorem ach:RY X (rIx X.K):=OF.or (Uh.or acT)
theorem Ij(lo hi:Option Int)(n:Nat):(ahe lo hi Yb n).1=((HT.jn n 0 lo:Nat):Int)/\(ahe lo hi Yb n).2.1=((HT.jn n n hi:Nat):Int)/\(ahe lo hi Yb n).2.2=1:=by
 show#[?_,?_,rfl]
 .cases lo with
  |none=>simp[ahe,HT.jn]
  |some i=>
   simp only[ahe,HT.jn,aje,show(1:Int)>0 by decide,if_true];by_cases h:i<0
   .simp only[h,if_true]<;>omega
   .simp only[h,if_false]<;>omega
 .cases hi with
  |none=>simp[ahe,HT.jn]
  |some i=>
   simp only[ahe,HT.jn,aje,show(1:Int)>0 by decide,if_true];by_cases h:i<0
   .simp only[h,if_true]<;>omega
   .simp only[h,if_false]<;>omega
theorem FQ(its:List Yd)(lo hi:Option Int):slicePick its.toArray lo hi Yb=((its.drop (HT.jn its.length 0 lo)).take (HT.jn its.length its.length hi-HT.jn its.length 0 lo)).toArray:=by
 obtain⟨h1,h2,h3⟩:=Ij lo hi its.toArray.size;unfold slicePick;rw[h1,h2,h3];simp only[sliceRange_one,pick_run,YA]<;>rfl
def aaS(K:Ye):V->Option Int->Option Int->Hp->VK->Prop:=λx lo hi H Q=>∃a xs,x=.ref a/\bZ K H a xs/\∀p,H p=Yb->Q (.ref p) (upd H p (.lst (EZ xs lo hi)))
theorem Ww:SlR X (aaS X.K):=by
 intro pins s σ H x v vl vu lo hi sl Q I rx hs pl pu h;obtain⟨a,xs,rfl,hx,q⟩:=h;cases rx;obtain⟨its,r,ht,hz⟩:=I.list hx;have hlen:=r.length;show#["list",_,ak1.lookup,ht.isList.typeIs,?_];show wpAny_getItem_list_slice ht.isList hs pl pu .none (by simp) ?_ (by rw[YA]<;>omega);rw[FQ,←hlen];show#[.ref s.heap.objs.size,_,I.laid (t':=s.toks) (o:=.lst (EZ xs lo hi)) (λb ob q=>Yg _ q) (Ym _) ?_,rfl,q _ (I.hok.fresh (Ym _))];show#[oh (AX xs lo hi) hz,_,0,(r.drop (HT.jn xs.length 0 lo)).take (HT.jn xs.length xs.length hi-HT.jn xs.length 0 lo),Ys _ rfl]
theorem Jm:eU X (.builtin "len") (λxs H Q=>∃p ys,xs=[.ref p]/\(bZ X.K H p ys∨c8 X.K H p ys)/\Q (.int ys.length) H):=by
 intro pins s σ H xs us Q I r h;obtain⟨p,ys,rfl,hq,q⟩:=h;obtain⟨u,rfl,rx⟩:=ij r;cases rx;have hn:=Dv;rcases hq with hq|hq
 .obtain⟨its,r',pl,hz⟩:=I.list hq;have hlen:=r'.length;show Calls.call_len_list pl.isList (by simp only[YA]<;>omega) #[.int ys.length,H,I.tok _,#[s.toks+ 1,by rw[YA,hlen]],q]
 .obtain⟨its,r',pl,hz⟩:=I.tuple hq;have hlen:=r'.length;show len_tuple pl (by simp only[YA]<;>omega) #[.int ys.length,H,I.tok _,#[s.toks+ 1,by rw[YA,hlen]],q]
theorem IE:eU X (.type "list") (λxs H Q=>∃p ys,xs=[.ref p]/\(bZ X.K H p ys∨c8 X.K H p ys)/\∀l,H l=Yb->Q (.ref l) (upd H l (.lst ys))):=by
 intro pins s σ H xs us Q I r h;obtain⟨p,ys,rfl,hq,q⟩:=h;obtain⟨u,rfl,rx⟩:=ij r;cases rx;have fin:∀(its:List Yd),Vals ys its->ys.length<=Yu->∀(h':YO) (c':Nat),(∀b o',s.heap.get? b=Ya o'->h'.get? b=Ya o')->
   h'.get? s.heap.objs.size=Ya {cls:=.type "list",dict:=Yb,data:=.seq its.toArray c',slots:=#[]}->EP X pins σ Q (.ref s.heap.objs.size) {s with heap:=h'}:=λits r' hz h' c' kp e=>
  #[.ref s.heap.objs.size,_,I.laid (t':=s.toks) kp (Ym _) (show cO X.prog X.w _ h' _ (.lst ys)from#[hz,its,c',r',e]),rfl,q _ (I.hok.fresh (Ym _))]
 rcases hq with hq|hq
 .obtain⟨its,r',pl,hz⟩:=I.list hq;have hlen:=r'.length;obtain⟨o,ho,hc,n,hd⟩:=pl.isList;show amx p (.inl rfl) ho hc hd (λh' c' kp e=>fin its r' hz h' c' kp e) (by simp only[YA]<;>omega)
 .obtain⟨its,r',pl,hz⟩:=I.tuple hq;have hlen:=r'.length;obtain⟨o,ho,hc,n,hd⟩:=pl;show amx p (.inr rfl) ho hc hd (λh' c' kp e=>fin its r' hz h' c' kp e) (by simp only[YA]<;>omega)
theorem Fz:eU X (.type "tuple") (λxs H Q=>∃p ys,xs=[.ref p]/\((bZ X.K H p ys/\∀l,H l=Yb->Q (.ref l) (upd H l (.tup ys)))∨(c8 X.K H p ys/\Q (.ref p) H))):=by
 intro pins s σ H xs us Q I r h;obtain⟨p,ys,rfl,h⟩:=h;obtain⟨u,rfl,rx⟩:=ij r;cases rx;rcases h with⟨hq,q⟩|⟨hq,q⟩
 .obtain⟨its,r',pl,hz⟩:=I.list hq;have hlen:=r'.length;show call_tuple_list pl.isList (λh' kp=>?_) (by simp only[YA]<;>omega);have I1:aM X pins σ H {s with heap:=h'}:=I.kept (t':=s.toks) kp;have I2:aM X pins σ (upd H h'.objs.size (.tup ys)) {s with heap:=h'.push {cls:=.type "tuple",data:=.seq its.toArray}}:=
   I1.laid (t':=s.toks) (λb o e=>Yg _ e) (Ym _) (show cO X.prog X.w _ _ _ (.tup ys)from#[hz,its,r',qc.new _ _])
  show#[.ref h'.objs.size,_,I2,rfl,q _ (I1.hok.fresh (Ym _))]
 .obtain⟨its,r',pl,hz⟩:=I.tuple hq;show call_tuple_same pl #[.ref p,H,I,rfl,q]
def tyV(K:Ye)(T:String)(x:V)(H:Hp):Prop:=match x with
 | .str _=>T="str"
 | .int _=>T="int"
 | .ref p=>(T="list"/\∃xs,bZ K H p xs)∨(T="tuple"/\∃o,K.lookup p=Ya o/\o.cls=.type "tuple"/\o.dict=Yb)∨
   (T="dict"/\((∃kvs,H p=Ya (.dK kvs))∨∃kvs,H p=Ya (.dT kvs)))∨(T="set"/\∃S n,H p=Ya (.set S n))
 |_=>False
theorem Eu{x:V}{v:Yd}(I:aM X pins σ H s)(r:RelV x v)(ty:tyV X.K T x H):
  s.TypeIs v T/\∀a,v=.ref a->∃ob,s.heap.get? a=Ya ob/\ob.dict=none:=by
 cases x with
 |str z=>
  obtain⟨t,rfl⟩:=r;cases (show T="str"from ty);show#[typeIs_str s z t,λ_ e=>nomatch e]
 |int i=>
  obtain⟨t,rfl⟩:=r;cases (show T="int"from ty);show#[typeIs_int s i t,λ_ e=>nomatch e]
 |ref p=>
  cases r;rcases ty with⟨rfl,xs,hq⟩|⟨rfl,o,hk,hc,hd⟩|⟨rfl,hk⟩|⟨rfl,S,n,hk⟩
  .obtain⟨its,_,pl,_⟩:=I.list hq;show#[pl.isList.typeIs,λa e=>?_];cases e;obtain⟨o,n,e,c,hd,_⟩:=pl;show#[o,e,hd]
  .show#[#[o,I.kIn p o hk,hc],λa e=>?_];cases e;show#[o,I.kIn _ o hk,hd]
  .have z:∃o,s.heap.get? p=Ya o/\o.ExactDict:=by
    rcases hk with⟨kvs,hk⟩|⟨kvs,hk⟩
    .obtain⟨_,_,_,_,o,_,_,e,ex,_⟩:=I.hok p _ hk;show#[o,e,ex]
    .obtain⟨_,_,_,_,o,_,_,e,ex,_⟩:=I.hok p _ hk;show#[o,e,ex]
   obtain⟨o,e,ex⟩:=z;show#[#[o,e,ex.1],λa e2=>?_];cases e2;show#[o,e,ex.2.1]
  .obtain⟨o,_,_,_,e,ex,_⟩:=I.hok p _ hk;show#[#[o,e,ex.1],λa e2=>?_];cases e2;show#[o,e,ex.2.1]
 |_=>show ir ty
def aew(K:Ye)(T:String)(r:V->List V->Hp->VK->Prop)(to:TE):TE:=λσ H Q=>to σ H λx H1=>tyV K T x H1/\r x [] H1 Q
def tBM(K:Ye)(T:String)(r:V->List V->Hp->VK->Prop)(to:TE)(t:TA):TE:=λσ H Q=>to σ H λx H1=>tyV K T x H1/\t σ H1 λxs H2=>r x xs H2 Q
variable{o:YY}{es:List YY}{to:TE}{t:TA}{name:Yh}{apos cpos:adq}{id:String}{r:V->List V->Hp->VK->Prop}
theorem Ik(pa:PlainAttrs T)(slot:amL T name id)(hty:alO (.builtin id)=pure (.type "method_descriptor"))(hm:MtR X id r)(ho:PE X o to)
  (hbase:autoParam (afd o name X.env (Y3 o X.env)=Y3 o X.env) aq0) (hline:autoParam ((apos.endLine==cpos.line)=true) aq0):PE X (.Call (.Attribute o name apos) [] [] cpos) (aew X.K T r to):=by
 intro pins s σ H Q I h;show ahC hbase hline (cR (ho pins s σ H _ I h) λv s1 zz=>?_);obtain⟨x,H1,I1,r1,ty,q1⟩:=zz;obtain⟨h1,h2⟩:=Eu I1 r1 ty;show#[T,id,pa,slot,hty,h1,h2,aeW rfl (aij (hm pins s1 σ H1 x [] v [] Q I1 r1 .nil q1))]
theorem KD(pa:PlainAttrs T)(slot:amL T name id)(hty:alO (.builtin id)=pure (.type "method_descriptor"))(hm:MtR X id r)(ho:PE X o to)(ha:PA X (e::es) t)
  (hbase:autoParam (afd o name X.env (Y3 o X.env)=Y3 o X.env) aq0)
  (hfew:autoParam (((tq cpos (YC (e::es) X.env)).all (λx=>!x.1)&&(adj cpos (BD [] X.env)).all (λx=>x.1.isSome)
   &&decide ((e::es).length+ ([]:List ahW).length+ (if([]:List ahW).isEmpty then 0 else 1)<30))=true) aq0)
  (hline:autoParam ((apos.endLine==cpos.line)=true) aq0) (hs:autoParam (YC (e::es) X.env=(false,Y3 e X.env)::YC es X.env) aq0) (hplain:autoParam ((tq cpos (YC es X.env)).any (·.1)=false) aq0):
  PE X (.Call (.Attribute o name apos) (e::es) [] cpos) (tBM X.K T r to t):=by
 intro pins s σ H Q I h;show wpAny_Call_method_late hbase hfew hline rfl (cR (ho pins s σ H _ I h) λv s1 zz=>?_);obtain⟨x,H1,I1,r1,ty,q1⟩:=zz;obtain⟨h1,h2⟩:=Eu I1 r1 ty;show#[T,id,pa,slot,hty,h1,h2,?_];have hA:=ha cpos pins s1 σ H1 _ I1 q1;rw[hs]at hA⊢;show aeW (by change(false||(tq cpos (YC es X.env)).any (·.1))=false;rw[hplain]<;>rfl) (ag8 ?_);show cR hA λus s2 ⟨vs,H2,I2,r2,q2⟩=>hm pins s2 σ H2 x vs v us Q I2 r1 r2 q2
end
def MtM(X:Cx)(id:String)(r:V->List V->Hp->VK->Prop):Prop:=
 ∀(pins:List (Yc×Y8)) (s:Yi) (σ:St) (H:Hp) (x:V) (xs:List V) (v:Yd) (us:List Yd) (Q:VK),aM X pins σ H s->RelV x v->Vals xs us->r x xs H Q->
  Yl (Yn X.prog X.w) X.A (call (.builtin id) (v::us)) (EP X pins σ Q) X.xe s
theorem Vals.one:∀{x:V} {us:List Yd},Vals [x] us->∃u,us=[u]/\RelV x u:=by
 intro x us h;cases h with|cons r t=>
 cases t;show#[_,rfl,r]
section
variable{l:Yc}{xs ys:List V}
theorem aM.lset{its':List Yd}{f:Array Yd->Array Yd}(I:aM X pins σ H s)(hH:H l=Ya (.lst xs))(e:s.heap.get? l=Ya {cls:=.type "list",data:=.seq its.toArray n})(hf:f its.toArray=its'.toArray)(hv:Vals ys its')(hz:ys.length<=Yu):
  aM X pins σ (upd H l (.lst ys)) {s with heap:=s.heap.update l (abA f),toks:=t'}:=by
 have q:=PySem.IsL.update e f;rw[hf]at q;show I.write (x:=l) (e:=l) (by rw[hH];show trivial) (.inl rfl) (λb' u hb hu=>(gm s.heap (abA f) (Ne.symm hb)).trans hu) #[_,q] ?_;show#[hz,its',_,hv,q]
theorem aM.lnew(I:aM X pins σ H s)(hv:Vals ys its)(hz:ys.length<=Yu):
  aM X pins σ (upd H s.heap.objs.size (.lst ys)) {s with heap:=s.heap.push {cls:=.type "list",data:=.seq its.toArray},toks:=t'}:=
 I.laid (λ_ _ q=>Yg _ q) (Ym _) #[hz,its,0,hv,Ys _ rfl]
theorem aM.fresh(I:aM X pins σ H s):H s.heap.objs.size=none:=I.hok.fresh (Ym _)
theorem aM.lstM(I:aM X pins σ H s)(hH:H l=Ya (.lst xs)):xs.length<=Yu/\∃(its:List Yd) (n:Nat),Vals xs its/\xs.length=its.length/\s.heap.get? l=Ya {cls:=.type "list",data:=.seq its.toArray n}:=by
 obtain⟨z,its,n,r,e⟩:=I.hok l _ hH;show#[z,its,n,r,r.length,e]
theorem TR(h:n<=Yu):ahq n=false:=by
 unfold ahq;show decide_eq_false (by omega)
end
section
def CD:V->List V->Hp->VK->Prop:=λx vs H Q=>∃l xs y,x=.ref l/\vs=[y]/\H l=Ya (.lst xs)/\xs.length<Yu/\Q .non (upd H l (.lst (xs++[y])))
theorem ve:MtM X "list.append" CD:=by
 intro pins s σ H x vs v us Q I rx rv h;obtain⟨l,xs,y,rfl,rfl,hH,hz,q⟩:=h;cases rx;obtain⟨u,rfl,ru⟩:=rv.one;obtain⟨z,its,n,r,hl,e⟩:=I.lstM hH;show ahz F.slot_list_append #[_,e,rfl] F.entry_list_append (F.args_list_append_2 _ _) (PySem.list_append l its.toArray n u (by rw[YA];omega)) #[e,?_];show#[.non,_,I.lset (its':=its++[u]) hH e (by simp) (r.append (.cons ru .nil)) ?_,rfl,q];rw[Yz,abS];omega
def Wq:V->List V->Hp->VK->Prop:=λx vs H Q=>∃l b xs zs,x=.ref l/\vs=[.ref b]/\H l=Ya (.lst xs)/\H b=Ya (.lst zs)/\xs.length+ zs.length<=Yu/\Q .non (upd H l (.lst (xs++zs)))
theorem Gp:MtM X "list.extend" Wq:=by
 intro pins s σ H x vs v us Q I rx rv h;obtain⟨l,b,xs,zs,rfl,rfl,hH,hB,hz,q⟩:=h;cases rx;obtain⟨u,rfl,ru⟩:=rv.one;cases ru;obtain⟨z,its,n,r,hl,e⟩:=I.lstM hH;obtain⟨z2,its2,n2,r2,hl2,e2⟩:=I.lstM hB;have hsz:its.toArray.size+ its2.toArray.size<=Yu:=by rw[YA,YA];omega
 have hlong:¬ (!its.toArray.isEmpty&&ahq (its.toArray.size+ its2.toArray.size))=true:=by
  rw[TR hsz,al6];show YQ
 show ahz F.slot_list_extend #[_,e,rfl] F.entry_list_extend (F.args_list_extend_2 _ _)
  (AutoSeq1.list_extend_list_list_0 l its.toArray n b its2.toArray n2 hlong (by rw[YA];omega) (by omega)) #[e,e2,?_]
 show#[.non,_,I.lset (its':=its++its2) hH e (by simp) (r.append r2) ?_,rfl,q];rw[Yz];omega
def adG:R2:=λx y H Q=>∃l b xs zs,x=.ref l/\y=.ref b/\H l=Ya (.lst xs)/\H b=Ya (.lst zs)/\xs.length+ zs.length<=Yu/\∀p,H p=Yb->Q (.ref p) (upd H p (.lst (xs++zs)))
theorem MZ:sI X (agv .Add) adG:=by
 intro pins s σ H x y v u Q I rx ry h;obtain⟨l,b,xs,zs,rfl,rfl,hH,hB,hz,q⟩:=h;cases rx;cases ry;obtain⟨z,its,n,r,hl,e⟩:=I.lstM hH;obtain⟨z2,its2,n2,r2,hl2,e2⟩:=I.lstM hB;show PySem.P.add_list e e2 ?_ (by rw[YA,YA];omega);have ea:its.toArray++its2.toArray=(its++its2).toArray:=by simp
 rw[ea];show#[.ref _,_,I.lnew (t':=s.toks) (r.append r2) (by rw[Yz];omega),rfl,q _ I.fresh]
end
end L2
namespace L2
open PySem PySem.Spec PyProof.Rows
variable{X:Cx}{K:Ye}{x qual:Yh}{st:YI}{f:Yc}{fd:Yr}{ps:List Yh}{k:Nat}{A B:Prop}{H H':Hp}
abbrev E0:XK:=λ_ _ _=>False
theorem rJ:oZ bo X E0:=λ_ _ _ _ _ _ _ h=>h.elim
section
variable{P:YU}{w:YZ}{mg:Yh->Option Yd}{base:YO}
theorem bx.ok{N:List Yh}{sp:Sp}(F:bx K x qual st f fd)(S:aq N ps (ah st))(len:∀vs H Q E,sp vs H Q E->vs.length=ps.length)(hbody:∀(cdv:Yd) (A:sq) (outer:List af7) (s:Yi) (H:Hp) (vs:List V) (Q:VK) (E:XK),cV k (A.deeper (agw qual (ah st) s.heap.objs.size f cdv))->sp vs H Q E->
   ∃t,IK (iX bo P w K mg base N qual (ah st) f cdv A outer s H E).nox (du st) t/\t {nx:=λ_ H'=>Q .non H',rt:=Q} (start N vs) H):aw P w K mg base bo (k+ 1) f fd ps sp:=by
 obtain⟨oc,od,kV,doc,pm,an,cdv,ct,osl,rfl,lk,hcd⟩:=F.ex;show O2 lk hcd S len λA outer s H vs Q E hr hsp=>?_;obtain⟨t,h,q⟩:=hbody cdv A outer s H vs Q E hr hsp;show#[t,h.nox,q]
theorem bx.binds(F:bx K x qual st f fd)(h:∀(kV doc pm:Yd) (an:Option Yc) (cdv ct:Yd) (us:List Yd),us.length=ps.length->akd (aal x qual (gz st) (du st) (ah st) .none kV doc pm an cdv ct) #[us,[]]=pure (ps.zip us)):Binds K fd ps []:=by
 obtain⟨oc,od,kV,doc,pm,an,cdv,ct,osl,rfl,lk,hcd⟩:=F.ex;show .all (h kV doc pm an cdv ct)
end
theorem tH{A:sq}(hr:cV k A):A.units+ 1<ab0:=af8 (ahg (by decide:1<=64) _) hr.units
theorem aN{n:Nat}(h:n<=1000):n<Yu:=af8 h (by decide)
section
theorem pv(i:Nat){pos:adq}(hN:autoParam (X.N[i]?=Ya x) aq0)(hv:Vis X.env.scope x:=by first|show Or.inl rfl|show Or.inr (Or.inl rfl)|show Or.inr (Or.inr rfl))(hd:autoParam ((x==("__debug__":Yh))=false) aq1)(hcd:autoParam ((x==("__classdict__":Yh))=false) aq1):PE X (.Name x pos) (Rm i):=acw hN hv hd hcd
end
theorem adM(h:B):if false=true then A else B:=by
 rw[if_neg YQ];show h
theorem abY(h:A):if true=true then A else B:=by
 rw[if_pos rfl];show h
theorem fy{c:Prop}[Decidable c](h1:c->A)(h2:¬ c->B):if c then A else B:=by
 by_cases h:c
 .rw[if_pos h];show h1 h
 .rw[if_neg h];show h2 h
def aG(H H':Hp):Prop:=∀b o,H b=Ya o->H' b=Ya o
theorem aG.refl(H:Hp):aG H H:=λ_ _ h=>h
theorem aG.trans{H1 H2:Hp}(a:aG H H1)(b:aG H1 H2):aG H H2:=λc o h=>b c o (a c o h)
theorem aG.free(e:aG H H'){l:Yc}(h:H' l=am1):H l=am1:=by
 cases q:H l with
 |none=>rfl
 |some o=>
  rw[e l o q]at h;cases h
theorem aG.seq{a:Yc}{xs:List V}(e:aG H H')(h:bZ K H a xs):bZ K H' a xs:=by
 rcases h with(h|⟨o,h⟩)|h
 .show .inl (.inl (e _ _ h))
 .show .inl (.inr #[o,e _ _ h])
 .show .inr h
end L2
namespace GX
open PySem
variable{env:af7}{sc:agi}{n:Yh}{c:Yc}
theorem EO{α β:Type}{f:α->β->ag1 (ForInStep β)}(g:α->β->β):∀(l:List α) (b:β),(∀x∈l,∀b,f x b=pure (.yield (g x b)))->
  forIn l b f=pure (l.foldl (λb x=>g x b) b)
 |[],b,_=>rfl
 |x::l,b,h=>by
  simp only[List.forIn_cons,h x (.head _),pure_bind];show EO g l (g x b) λy hy=>h y (Yx _ hy)
noncomputable def wO(env:af7)(x:Yh×ag4)(cs:List (Yh×Yc)):List (Yh×Yc):=if x.2==.free then(x.1,(env.cells.lookup x.1).getD 0)::cs else cs
theorem NP(h:∀y∈sc.names,y.2=.free->∃c,env.cells.lookup y.1=Ya c):
  akh sc env=pure (sc.names.foldl (λb x=>wO env x b) []):=by
 simp only[akh];rw[EO (wO env) sc.names [] (λx hx b=>by
  obtain⟨n,k⟩:=x;unfold wO;by_cases hk:k=.free
  .subst hk;obtain⟨c,hc⟩:=h _ hx rfl;have e:cellOf env n=pure c:=by unfold cellOf;rw[hc]
   simp[e,hc]
  .have hb:(k==xw)=false:=by simpa using hk
   simp only[hb,ahr,if_false])]
 rfl
theorem Ed{env:af7}:∀(l:List (Yh×ag4)) (acc:List (Yh×Yc)),(∀y∈l,y.2=.free->∃c,env.cells.lookup y.1=Ya c)->(∀p∈acc,env.cells.lookup p.1=Ya p.2)->
  ∀p∈l.foldl (λb x=>wO env x b) acc,env.cells.lookup p.1=Ya p.2
 |[],acc,_,ha=>ha
 |x::l,acc,h,ha=>by
  show Ed l _ (λy hy=>h y (Yx _ hy)) λp hp=>?_;unfold wO at hp;dsimp only at hp;by_cases hk:x.2=.free
  .obtain⟨c,hc⟩:=h x Yy hk;rw[hk]at hp;simp only[beq_self_eq_true,if_true]at hp;rcases Yq.mp hp with rfl|hp
   .rw[hc];rfl
   .show ha p hp
  .have hb:(x.2==xw)=false:=by simpa using hk
   simp only[hb,ahr,if_false]at hp;show ha p hp
theorem Dy{env:af7}{n:Yh}:∀(l:List (Yh×ag4)) (acc:List (Yh×Yc)),((∃c,(n,c)∈acc)∨(n,xw)∈l)->∃c,(n,c)∈l.foldl (λb x=>wO env x b) acc
 |[],acc,h=>by
  rcases h with h|h
  .show h
  .cases h
 |x::l,acc,h=>by
  show Dy l _ ?_;unfold wO;dsimp only;rcases h with⟨c,h⟩|h
  .show .inl #[c,?_];split
   .show Yx _ h
   .show h
  .rcases Yq.mp h with h|h
   .show .inl ?_;subst h;show#[_,by rw[if_pos (by rfl)];show .head _]
   .show .inr h
theorem vD{n:Yh}{c:Yc}:∀{l:List (Yh×Yc)},(n,c)∈l->∃c',l.lookup n=Ya c'
 |[],h=>by cases h
 |(m,d)::l,h=>by
  rw[ajf];cases e:n==m with
  |true=>show#[d,rfl]
  |false=>
   rcases Yq.mp h with h|h
   .cases h;simp at e
   .show vD h
theorem SY{n:Yh}{c:Yc}:∀{l:List (Yh×Yc)},l.lookup n=Ya c->(n,c)∈l
 |[],h=>by cases h
 |(m,d)::l,h=>by
  rw[ajf]at h;cases e:n==m with
  |true=>
   rw[e]at h;have e':n=m:=by simpa using e
   have h':d=c:=YM h;rw[e',h'];show Yy
  |false=>
   rw[e]at h;show Yx _ (SY h)
theorem NW(h:∀y∈sc.names,y.2=.free->∃c,env.cells.lookup y.1=Ya c):
  ∃cl,akh sc env=pure cl/\(∀x c,cl.lookup x=Ya c->env.cells.lookup x=Ya c)/\(∀n,(n,xw)∈sc.names->∃c,cl.lookup n=Ya c):=by
 show#[_,NP h,λx c e=>?_,λn hn=>?_]
 .show Ed sc.names [] h (λp hp=>by cases hp) (x,c) (SY e)
 .obtain⟨c,hc⟩:=Dy (env:=env) sc.names [] (.inr hn);show vD hc
theorem tZ{x:Yh}{names:List (Yh×ag4)}:
  (names.map fun(n,k)=>if(k==xw&&env.scope.kind==.function&&env.kindOf n==Ya .cell)then(n,afe)else(n,k)).lookup x
  =(names.lookup x).map λk=>if(k==xw&&env.scope.kind==.function&&env.kindOf x==Ya .cell)then afe else k:=by
 induction names with
 |nil=>rfl
 |cons p r ih=>
  obtain⟨n,k⟩:=p;rw[YL];by_cases e:x=n
  .subst e;dsimp only;split<;>simp_all
  .have e':(x==n)=false:=by simpa using e
   dsimp only;split<;>simp only[ajf,e']<;>show ih
noncomputable def Je(elt target:YY)(ifs:List YY)(it acc:Yd)(env:af7):ag1 Bool:=do
 match←adi it with
 |none=>pure false
 |some v=>
  ah3 target it v
  assign target env v
  let ok←forIn ifs true λc r=>if r=true then do let ok←alH c env (Y3 c env);pure (ah4 ok)else pure (ah4 r)
  if ok=true then do
   let x←Y3 elt env;let _←call (.builtin "list.append") [acc,x]
   pure true
  else pure true
theorem W0(elt target iter:YY)(ifs:List YY)(scope:agi)(pos:adq)(it acc:Yd)(env:af7):
  compTurn (.ListComp elt [#[target,iter,ifs,0]] scope pos) 0 it acc env=(do
   agX iter.pos
   let more←Je elt target ifs it acc env
   if more=true then again (.compLoop (.ListComp elt [#[target,iter,ifs,0]] scope pos) 0 it acc env)else pure (.done .next)):=by
 rw[compTurn_list,Je];simp only[bind_assoc];congr 1;funext _;congr 1;funext r;cases r with
 |none=>simp
 |some v=>
  simp only[bind_assoc];congr 1;funext _;congr 1;funext _;congr 1;funext ok;cases ok<;>simp
theorem KL{prog:YU}{w:YZ}{A:sq}{R:agt->Yi->Prop}{s:Yi}{elt target iter:YY}{ifs:List YY}{scope:agi}{pos:adq}{it acc:Yd}(I:Nat->Yi->Prop)(turn:∀n s,I n s->Yl (Yn prog w) A (Je elt target ifs it acc env) (λmore s'=>if more=true then∃m,m<n/\I m s' else R (.ok .next) s') (λ_ _=>False) s)(n:Nat)(h:I n s):
  rl (Yn prog w) A (.compLoop (.ListComp elt [#[target,iter,ifs,0]] scope pos) 0 it acc env) R s:=by
 apply codeAny_loop rfl I _ n h;intro n s hI;apply wpAny_noted;rw[W0];change Yl _ A _ _ _ _;apply Yf;apply aiJ;apply Yf;show pk (turn n s hI) (λmore s' q=>?_) λ_ _ z=>z.elim;cases more
 .show Yk q
 .show Yk #[rfl,q]
end GX
namespace GX
open PySem PySem.Spec PyProof.Rows
variable{A:sq}{key v:Yd}{Q E:Yd->Yi->Prop}{s:Yi}{B:xb}{R:agt->Yi->Prop}{nm:String}{kws:List (Yh×Yd)}{ko d:Option Yd}
noncomputable def kept:Option (Yd×Yd)->Array Yd
 |none=>#[]
 |some (x,k)=>(afs [x,k])
noncomputable abbrev Ft(a:Array Yd)(c:Nat):Y8:={cls:=.type "list",dict:=Yb,data:=.seq a c,slots:=#[]}
noncomputable abbrev put(S:Yc)(a:Array Yd)(s:Yi):Yi:={s with heap:=s.heap.update S (abA λ_=>a)}
def wy(prog:YU)(w:YZ)(A:sq)(key v:Yd)(Q:Yd->Yi->Prop)(s:Yi):Prop:=
 match key with
 | .none=>Q v s
 |f=>Yl (Yn prog w) A.in1 (call f [v]) Q (λ_ _=>False) s
def OI(prog:YU)(w:YZ)(op:akQ)(lp:String)(I S:Yc)(key:Yd)(kw:List (Yh×Yd))(b:Option (Yd×Yd))(A:sq)(R:agt->Yi->Prop):Option Yd->Yi->Prop
 |none,s=>(∃c,s.heap.get? S=Ya (Ft (kept b) c))/\match b with
  |some (x,_)=>R (.ok (.ret x)) (put S #[] s)
  |none=>∃n d r,kw=(n,d)::r/\R (.ok (.ret d)) s
 |some v,s=>wy prog w A key v (λk s=>(∃c,s.heap.get? S=Ya (Ft (kept b) c))/\match b with
  |none=>rl (Yn prog w) A (.builtin lp #[[.ref I,key,.ref S],kw]) R (put S (afs [v,k]) s)
  |some (_,k')=>Yl (Yn prog w) A.in1 (ajM op k k') (λa s=>∃y c,a=.bool y/\s.heap.get? S=Ya (Ft (kept b) c)/\rl (Yn prog w) A (.builtin lp #[[.ref I,key,.ref S],kw]) R (if y then put S (afs [v,k]) s else s)) (λ_ _=>False) s) s
abbrev Turn(prog:YU)(w:YZ)(op:akQ)(lp:String)(B:xb):Prop:=∀(I S:Yc) (key:Yd) (kw:List (Yh×Yd)) (b:Option (Yd×Yd)) (c:Nat),
 al7 prog w (B #[[.ref I,key,.ref S],kw]) λA R s=>s.heap.get? S=Ya (Ft (kept b) c)/\Yl (Yn prog w) A.in1 (adi (.ref I)) (OI prog w op lp I S key kw b A R) (λ_ _=>False) s
section
variable{prog:YU}{w:YZ}
theorem two{x k:Yd}:(kept (Ya (x,k))).size<=Yu:=by change 2<=Yu;decide +kernel
theorem key_of{P:ajg->Yi->Prop}{f:Yd->ag1 ajg}(r:Yd->ag1 Yd)(h:wy prog w A key v Q s)(m:∀k s,Q k s->Yl (Yn prog w) A.in1 (f k) P E s):
  Yl (Yn prog w) A.in1 (match key with| .none=>pure v >>= f|_=>tryCatch (afR [v] (call key [v])) r >>= f) P E s:=by
 unfold wy at h;split at h
 .show Yf (Yk (m _ _ h))
 .show Yf (aiq (xu (pk h m λ_ _ z=>z.elim)))
theorem LG:Turn prog w .Lt "min.loop" xb.«min.loop»:=by
 intro I S key kw b c A R s ⟨hS,nx⟩;change Yl _ _ (akG (.ref S) >>= _) _ _ s;apply Yf;apply air hS rfl;apply Yf;apply aiq;show pk nx (λr s1 h=>?_) λ_ _ z=>z.elim;rcases r with _|v<;>rcases b with _|⟨x,k'⟩
 .obtain⟨_,n,d,l,rfl,q⟩:=h
  wp_walk
  show q
 .obtain⟨⟨c1,h1⟩,q⟩:=h;apply Yf;show ahm h1 rfl ?_ two
  wp_walk
  show q
 .unfold OI at h;show key_of _ h λk s2 h=>?_;obtain⟨⟨c2,h2⟩,q⟩:=h;apply Yf;apply ahm h2 rfl;show Yk #[afK F.plain_min_loop _,q]
 .unfold OI at h;show key_of _ h λk s2 h=>?_;obtain⟨_,q⟩:=h;apply Yf;apply aiq;apply xu;apply Yf;show pk q (λa s3 h=>?_) λ_ _ z=>z.elim;obtain⟨y,c3,rfl,h3,q⟩:=h
  wp_walk
  cases y
  .wp_walk
   show#[afK F.plain_min_loop _,q]
  .show al8 rfl (Yf (ahm h3 rfl ?_ two))
   wp_walk
   show#[afK F.plain_min_loop _,q]
theorem enter{id:String}{args:Args}{Sp:ani}(he:agS aix id=Ya B)(hp:aj2 id=true)(m:al7 prog w (B args) Sp)(h:Sp A R s):
  rl (Yn prog w) A (.builtin id args) R s:=ah5 he (by rw[Around.under_plainId hp];show m A R s h)
def Pc(bt:Nat->Nat->Bool)(n i:Nat):Prop:=∀j,j<n->bt j i=false/\(j<i->bt i j=true)
structure WC(prog:YU)(w:YZ)(A:sq)(key:Yd)(op:akQ)(l I S:Yc)(vs:List Yd)(bt:Nat->Nat->Bool)(G:List (Nat×Yd)->Yi->Prop):Prop where
 irr:∀i,bt i i=false
 asy:∀i j,bt i j=true->bt j i=false
 cov:∀a b c,bt a b=true->bt c b=false->bt a c=true
 tail:∀p q L s,G (p::q::L) s->G (q::L) s
 head:∀p L s,G (p::L) s->G [p] s
 calm:∀x L s h tk,x=I∨x=S->G L s->(∀b o,b≠x->s.heap.get? b=Ya o->h.get? b=Ya o)->G L {s with heap:=h,toks:=tk}
 list:∀L s,G L s->s.heap.IsList l vs.toArray
 keys:∀L s j v a c m,G L s->vs[j]?=Ya v->s.heap.get? S=Ya (Ft a c)->s.heap.IsListIter I l m->wy prog w A key v (λk s=>G ((j,k)::L) s/\s.heap.get? S=Ya (Ft a c)/\s.heap.IsListIter I l m) s
 cmp:∀i j k k' s,G [(j,k),(i,k')] s->Yl (Yn prog w) A.in1 (ajM op k k') (λa s'=>a=.bool (bt j i)/\s'=s) (λ_ _=>False) s
theorem wy.imp{Q':Yd->Yi->Prop}(h:wy prog w A key v Q s)(m:∀k s,Q k s->Q' k s):wy prog w A key v Q' s:=by
 unfold wy at h⊢;split at h
 .show m _ _ h
 .show pk h m λ_ _ z=>z
def aex(bt:Nat->Nat->Bool)(vs:List Yd)(j:Nat):Option (Nat×Yd×Yd)->Prop
 |none=>j=0
 |some (i,x,_)=>i<j/\vs[i]?=Ya x/\Pc bt j i
noncomputable def acm:Option (Nat×Yd×Yd)->List (Nat×Yd)
 |none=>[]
 |some (i,_,k)=>[(i,k)]
variable{op:akQ}{lp:String}{l I S:Yc}{vs:List Yd}{bt:Nat->Nat->Bool}{G:List (Nat×Yd)->Yi->Prop}{kw:List (Yh×Yd)}
theorem WC.put(M:WC prog w A key op l I S vs bt G){L:List (Nat×Yd)}{a b:Array Yd}{c m:Nat}(SI:S≠I)(g:G L s)(hS:s.heap.get? S=Ya (Ft a c))(hI:s.heap.IsListIter I l m):
  G L (put S b s)/\(∃c,(put S b s).heap.get? S=Ya (Ft b c))/\(put S b s).heap.IsListIter I l m:=
 #[M.calm S L s _ s.toks (.inr rfl) g λx o n e=>(gm _ _ (Ne.symm n)).trans e,#[_,xt _ hS rfl],hI.at λo e=>(gm _ _ SI).trans e]
theorem Qh(T:Turn prog w op lp B)(he:agS aix lp=Ya B)(hp:aj2 lp=true)(hh:A.handled=Yb)(M:WC prog w A key op l I S vs bt G)(lI:l≠I)(SI:S≠I)
  (hD:vs=[]->∃n d r,kw=(n,d)::r/\∀s,G [] s->R (.ok (.ret d)) s) (hR:∀i v k s,vs[i]?=Ya v->Pc bt vs.length i->G [(i,k)] s->R (.ok (.ret v)) s):
  ∀(r j:Nat) (b:Option (Nat×Yd×Yd)) (s:Yi) (c:Nat),vs.length=j+ r->aex bt vs j b->G (acm b) s->s.heap.get? S=Ya (Ft (kept (b.map (·.2))) c)->s.heap.IsListIter I l j->
   rl (Yn prog w) A (.builtin lp #[[.ref I,key,.ref S],kw]) R s:=by
 have W:=ai2 (prog:=prog) (w:=w) (A:=A.in1) hh I l lI vs.toArray;intro r
 induction r with
 |zero=>
  intro j b s c ej so g hS hI;obtain rfl:j=vs.toArray.size:=by rw[YA];omega
  show enter he hp (T I S key kw _ c) #[hS,W.done _ _ _ #[hI,M.list _ _ g] λh tk k=>?_];have g1:=M.calm I _ _ h tk (.inl rfl) g λx o n e=>k x o (by simpa using n) e;show#[#[c,k S _ (by simpa using SI) hS],?_];rcases b with _|⟨i,x,y⟩
  .obtain⟨n,d,l,e,q⟩:=hD (aaM (by simpa using(show vs.toArray.size=0 from so)));show#[n,d,l,e,q _ g1]
  .show hR i x y _ so.2.1 (by simpa using so.2.2) (M.calm S _ _ _ tk (.inr rfl) g1 λz o n e=>(gm _ _ (Ne.symm n)).trans e)
 |succ r ih=>
  intro j b s c ej so g hS hI;show enter he hp (T I S key kw _ c) #[hS,W.item j _ _ _ (by rw[YA];omega) #[hI,M.list _ _ g] λv h tk hv st k=>?_];have hv:vs[j]?=Ya v:=by simpa using hv
  have g1:=M.calm I _ _ h tk (.inl rfl) g λx o n e=>k x o (by simpa using n) e;unfold OI;show wy.imp (M.keys _ _ j v _ _ _ g1 hv (k S _ (by simpa using SI) hS) st.1) λy s2 ⟨g2,h2,i2⟩=>#[#[c,h2],?_];have more:(∀i,i<j->bt j i=true)->rl (Yn prog w) A (.builtin lp #[[.ref I,key,.ref S],kw]) R (put S (afs [v,y]) s2):=λup=>by
   obtain⟨g3,⟨c3,h3⟩,i3⟩:=M.put (b:=(afs [v,y])) SI g2 h2 i2;show ih (j+ 1) (Ya (j,v,y)) _ c3 (by omega) #[afS _,hv,λi hi=>?_] (M.head _ _ _ g3) h3 i3;rcases ajh.mp hi with z|rfl
   .show#[M.asy _ _ (up i z),λ_=>up i z]
   .show#[M.irr _,λz=>absurd z (Y7 _)]
  rcases b with _|⟨i,x,z⟩
  .show more λi hi=>absurd (show j=0 from so) (by omega)
  .obtain⟨hi,hx,ft⟩:=so;show pk (M.cmp i j y z s2 g2) (λa s3 ⟨ea,es⟩=>#[_,c,ea,es▸h2,?_]) λ_ _ z=>z;subst es;cases e:bt j i with
   |true=>show more λi' hi'=>M.cov _ _ _ e (ft i' hi').1
   |false=>
    show ih (j+ 1) (Ya (i,x,z)) _ c (by omega) #[by omega,hx,λi' hi'=>?_] (M.tail _ _ _ _ g2) h2 i2;rcases ajh.mp hi' with z|rfl
    .show ft i' z
    .show#[e,λz=>absurd z (by omega)]
abbrev Vr(prog:YU)(w:YZ)(nm lp:String):Prop:=∀(A:sq) (s:Yi) (Q E:Yd->Yi->Prop) (kws:List (Yh×Yd)) (ko d:Option Yd) (l:Yc) (its:Array Yd),
 ag2 nm ["key","default"] 0 #[[],kws]=pure [ko,d]->agy nm #[[.ref l],kws]->s.heap.IsList l its->
 rl (Yn prog w) A (.builtin lp #[[.ref s.heap.objs.size,ko.getD .none,.ref (s.heap.objs.size+ 1)],d.toList.map λd=>("default",d)]) (amF Q E)
  {s with heap:=(s.heap.push {cls:=.type "list_iterator",data:=.fields (afs [.ref l,.int 0 0])}).push (Ft #[] 0)}->Yl (Yn prog w) A (call (.builtin nm) [.ref l] kws) Q E s
theorem GR:Vr prog w "min" "min.loop":=by
 intro A s Q E kws ko d l its hb ha hl h;show kmb_tree F.kind_min F.plain_min F.entry_min ha ?_
 wp_walk using agp hb,afG hl
 rw[afj];show#[afK F.plain_min_loop _,h]
theorem Gg(O:Vr prog w nm lp)(T:Turn prog w op lp B)(he:agS aix lp=Ya B)(hp:aj2 lp=true)(hh:A.handled=Yb)(hb:ag2 nm ["key","default"] 0 #[[],kws]=pure [ko,d])(ha:agy nm #[[.ref l],kws])(hl:s.heap.IsList l vs.toArray)(M:WC prog w A (ko.getD .none) op l s.heap.objs.size (s.heap.objs.size+ 1) vs bt G)(g:∀h,(∀b o,s.heap.get? b=Ya o->h.get? b=Ya o)->G [] {s with heap:=h})(hD:vs=[]->∃x,d=Ya x/\∀s,G [] s->Q x s)(hR:∀i v k s,vs[i]?=Ya v->Pc bt vs.length i->G [(i,k)] s->Q v s):Yl (Yn prog w) A (call (.builtin nm) [.ref l] kws) Q E s:=by
 obtain⟨o,ho,_⟩:=id hl;show O A s Q E kws ko d l _ hb ha hl (Qh T he hp hh M (YB (Yt ho)) (aji _) (λe=>?_) hR vs.length 0 Yb _ 0 (akH _).symm rfl (g _ λb o e=>?_) ?_ ?_)
 .obtain⟨x,rfl,q⟩:=hD e;show#[_,x,[],rfl,q]
 .show Yg _ (Yg _ e)
 .show ak2 (afj ..).symm rfl
 .show#[_,Yg _ (Ys _ rfl),rfl,rfl]
abbrev yg(h h':YO):Prop:=∀b o,h.get? b=Ya o->h'.get? b=Ya o
theorem Nr(O:Vr prog w nm lp)(T:Turn prog w op lp B)(he:agS aix lp=Ya B)(hp:aj2 lp=true)(hh:A.handled=Yb)(hb:ag2 nm ["key","default"] 0 #[[],kws]=pure [ko,d])(ha:agy nm #[[.ref l],kws])(hl:s.heap.IsList l vs.toArray)(bt:Nat->Nat->Bool)(irr:∀i,bt i i=false)(asy:∀i j,bt i j=true->bt j i=false)(cov:∀a b c,bt a b=true->bt c b=false->bt a c=true)(KK:Nat->Yd->Prop)(keys:∀j v h tk,vs[j]?=Ya v->yg s.heap h->wy prog w A (ko.getD .none) v (λk s'=>KK j k/\∃tk,s'={s with heap:=h,toks:=tk}) {s with heap:=h,toks:=tk})(cmp:∀i j k k' h tk,KK j k->KK i k'->yg s.heap h->∀Q:Yd->Yi->Prop,Q (.bool (bt j i)) {s with heap:=h,toks:=tk}->Yl (Yn prog w) A.in1 (ajM op k k') Q (λ_ _=>False) {s with heap:=h,toks:=tk})(hD:vs=[]->∃x,d=Ya x/\∀h tk,yg s.heap h->Q x {s with heap:=h,toks:=tk})(hR:∀i v h tk,vs[i]?=Ya v->Pc bt vs.length i->yg s.heap h->Q v {s with heap:=h,toks:=tk}):
  Yl (Yn prog w) A (call (.builtin nm) [.ref l] kws) Q E s:=by
 show Gg (bt:=bt) (G:=λL s'=>(∃h tk,s'={s with heap:=h,toks:=tk}/\yg s.heap h)/\∀p∈L,KK p.1 p.2) O T he hp hh hb ha hl #[irr,asy,cov,?_,?_,?_,?_,?_,?_] (λh k=>#[#[h,s.toks,rfl,k],by simp]) (λe=>?_) ?_
 .show λp q L s g=>#[g.1,λq hq=>g.2 q (Yx _ hq)]
 .show λp L s g=>#[g.1,λq hq=>g.2 q (Yo.mp hq▸Yy)]
 .rintro x L s' h tk hx ⟨⟨h',tk',rfl,G⟩,q⟩ k;show#[#[h,tk,rfl,λb o e=>k b o ?_ (G b o e)],q];have:=Yt e;rcases hx with rfl|rfl
  .show YB this
  .show YB (agU this)
 .rintro L s' ⟨⟨h',tk',rfl,G⟩,q⟩;show hl.at λo e=>G _ _ e
 .rintro L s' j v a c m ⟨⟨h,tk,rfl,G⟩,q⟩ hv hS hI;show(keys j v h tk hv G).imp ?_;rintro k s' ⟨hk,tk',rfl⟩;show#[#[#[h,tk',rfl,G],λp hp=>?_],hS,hI];rcases Yq.mp hp with rfl|hp
  .show hk
  .show q p hp
 .rintro i j k k' s' ⟨⟨h,tk,rfl,G⟩,q⟩;show cmp i j k k' h tk (q (j,k) (by simp)) (q (i,k') (by simp)) G _ #[rfl,rfl]
 .obtain⟨x,hx,q⟩:=hD e;show#[x,hx,λs' ⟨⟨h,tk,e,G⟩,_⟩=>e▸q h tk G]
 .show λi v k s' hv ft ⟨⟨h,tk,e,G⟩,_⟩=>e▸hR i v h tk hv ft G
end
end GX
namespace GB
variable{n b h:Nat}
theorem PU(n h:Nat):(n &&& 2^h=0)↔n.testBit h=false:=by
 constructor
 .intro e;have q:(n &&& 2^h).testBit h=false:=by rw[e];show alo h
  rw[ah6,Nat.testBit_two_pow_self,Bool.and_true]at q;show q
 .intro e;apply Nat.eq_of_testBit_eq;intro i;rw[ah6,alo,akw];by_cases hi:h=i
  .subst hi;rw[e];rfl
  .rw[decide_eq_false hi,al6]
noncomputable def RF(n:Nat):List Nat:=(gp 63).filter λh=>n.testBit h
theorem UT(hn:n<2^b)(hb:b<=h):n.testBit h=false:=
 ajO (YT hn (aki (by decide) hb))
theorem HX{p:Nat->Bool}{c:Nat}(hb:b<=c)(hp:∀h,b<=h->p h=false):(gp c).filter p=(gp b).filter p:=by
 induction c with
 |zero=>
  have:b=0:=by omega
  subst this;rfl
 |succ c ih=>
  by_cases e:b=c+ 1
  .subst e;rfl
  .rw[ajG,gf,ih (by omega)];have:[c].filter p=[]:=by
    rw[xy,hp c (by omega)];rfl
   rw[this,Y4]
theorem W6(hb:b<=63)(hn:n<2^b):(gp b).filter (λh=>n.testBit h)=RF n:=
 (HX hb λ_ hh=>UT hn hh).symm
theorem DR:h∈RF n↔h<63/\n.testBit h=true:=by
 unfold RF;rw[aab,adn]
theorem Uq(n:Nat):(RF n).length<=63:=by
 have:=km (λh=>n.testBit h) (gp 63);rw[aeb]at this;show this
theorem uf(n:Nat):(RF n).Pairwise (·<·):=List.Pairwise.filter _ ahL
noncomputable def hl(n:Int):List Int:=(RF n.toNat).map (fun(h:Nat)=>(h:Int))
theorem acV(n:Int):(hl n).length<=63:=by
 unfold hl;rw[Yj];show Uq _
theorem Ar{n:Int}:(h:Int)∈hl n↔h<63/\n.toNat.testBit h=true:=by
 unfold hl;rw[YX];constructor
 .rintro⟨a,ha,e⟩;have:a=h:=by omega
  subst this;show DR.mp ha
 .intro q;show#[h,DR.mpr q,rfl]
theorem T9{n:Int}{a:Int}{r:List Int}(e:hl n=a::r):∀x∈hl n,a<=x:=by
 have s:(hl n).Pairwise (·<·):=by
  unfold hl;rw[List.pairwise_map];show(uf _).imp λh=>by omega
 rw[e]at s⊢;intro x hx;rcases Yq.mp hx with rfl|hx
 .show aeZ _
 .have:=(akI.mp s).1 x hx;omega
end GB
namespace L2
open PySem PySem.Spec PyProof.Rows
variable{X:Cx}{H:Hp}{h:YO}{C D:Yc}{elt tg iter e:YY}{ifs es:List YY}{sc:agi}{pos p:adq}{g:TG}{tt:TT}{te:TE}{σ:St}{Qe:Hp->Prop}{x:Yh}{kws:List ahW}{t:TA}
noncomputable def adD(N:List Yh)(sc:agi)(x:Yh):Option Nat->Bool
 |none=>true
 |some j=>decide (N[j]?=Ya x)&&decide (sc.names.lookup x=Ya .free)
def XO(N N':List Yh)(src:List (Option Nat))(esc sc:agi):Prop:=
 (∀y∈sc.names,y.2≠.cell)/\(∀y∈sc.names,y.2=.local->sc.names.lookup y.1=Ya .local)/\
 (∀y∈sc.names,y.2=.free->esc.names.lookup y.1=Ya .cell∨esc.names.lookup y.1=Ya .free)/\
 N'.Nodup/\src.length=N'.length/\∀p∈N'.zip src,adD N sc p.1 p.2=true
noncomputable instance (N N':List Yh) (src:List (Option Nat)) (esc sc:agi):Decidable (XO N N' src esc sc):=by unfold XO;infer_instance
noncomputable def J8(src:List (Option Nat))(σ:St):St:=src.map λo=>o.bind λj=>(σ[j]?).bind λv=>v
noncomputable def Cx.blk(X:Cx)(N':List Yh)(sc:agi)(cl:List (Yh×Yc))(C:Yc)(s2:Yi)(H2:Hp)(fp:List Yc):Cx:=
 {X with N:=N',s₀:=s2,H₀:=H2,env:=compEnvC sc cl C X.env,outer:=X.stack,ex:=fp,fn:=λ_=>false,pn:=[],xe:=λ_ _=>False}
def PIf(X:Cx)(ifs:List YY)(t:TT):Prop:=
 ∀(pins:List (Yc×Y8)) (s:Yi) (σ:St) (H:Hp) (Q:Bool->Hp->Prop),aM X pins σ H s->t σ H Q->
  Yl (Yn X.prog X.w) X.A (forIn ifs true λc r=>if r=true then do let ok←alH c X.env (Y3 c X.env);pure (ah4 ok)else pure (ah4 r)) (TP X pins σ Q) X.xe s
def ab8:TT:=λ_ H Q=>Q true H
theorem kY:PIf X [] ab8:=λ_ _ _ H _ I h=>wpAny_tests_nil #[H,I,h]
theorem oz{c:YY}{t:TT}(h:PT X c t):PIf X [c] t:=λpins s σ H Q I hw=>wpAny_tests_one (h pins s σ H Q I hw)
theorem Un.but{fs ex:List Yc}{H':Hp}{h1 h2:YO}(u:Un fs ex H H' h h1)(sb:aaq C h1 h2)(hC:h.get? C=Yb):Un fs ex H H' h h2:=
 have ne:∀b o,h.get? b=Ya o->b≠C:=λb o e z=>by rw[z,hC]at e;cases e
 #[λb o e n hb hx=>(sb.2 b (ne b o e)).trans (u.keep b o e n hb hx),λb o e n hb hx=>let ⟨sl,z⟩:=u.slot b o e n hb hx;#[sl,(sb.2 b (ne b o e)).trans z],u.free,
  λb o e hx=>let ⟨o',z⟩:=u.there b o e hx;#[o',(sb.2 b (ne b o e)).trans z],u.tups,u.frzs,u.tbls]
theorem pG.but{P:YU}{w:YZ}{h':YO}(x:pG P w H h)(sb:aaq C h h')(hC:H C=Yb):pG P w H h':=λb ob e=>by
 show(x b ob e).stay (λc v hc q=>(sb.2 c ?_).trans q) (λ_ q=>q) λ_ _ q=>q;rintro rfl;rcases hc with rfl|hc
 .rw[hC]at e;cases e
 .rw[hC]at hc;cases hc
def j8(g:TG)(tt:TT)(te:TE)(D:Yc)(N:St->Hp->Prop)(x:V)(σ:St)(H:Hp):Prop:=
 g x σ H λσ2 H2=>tt σ2 H2 λb H3=>if b=true then te σ2 H3 λy H4=>∃ys,H4 D=Ya (.lst ys)/\ys.length<Yu/\N σ2 (upd H4 D (.lst (ys++[y])))else N σ2 H3
def aae(src:List (Option Nat))(wi:TI)(g:TG)(tt:TT)(te:TE):TE:=λσ H Q=>wi σ H λJ H1=>∀D,H1 D=Yb->∃W:Nat->Nat->St->Hp->Prop,(∃m,W 0 m (J8 src σ) (upd H1 D (.lst [])))/\
 ∀i m σ' H',W i m σ' H'->(J.stop i H'/\Q (.ref D) H')∨(J.go i H'/\∃N:St->Hp->Prop,(∀σ2 H2,N σ2 H2->∃m',m'<m/\W (i+ 1) m' σ2 H2)/\
  ∀x H'',J.yld i H' x H''->j8 g tt te D N x σ' H'')
theorem QM{N':List Yh}{src:List (Option Nat)}{cl:List (Yh×Yc)}{pins:List (Yc×Y8)}{H2:Hp}{s2:Yi}{it:Yc}{fp:List Yc}{tn:Nat->YO->Prop}{J:It}{W:Nat->Nat->St->Hp->Prop}{m0:Nat}{RR:Yd->Yc->agt->Yi->Prop}(hc:X.calm=true)(hk:sc.kind=.function)(hB:XO X.N N' src X.env.scope sc)(hsub:∀x c,cl.lookup x=Ya c->X.env.cells.lookup x=Ya c)(hhas:∀n,(n,xw)∈sc.names->∃c,cl.lookup n=Ya c)(hg:∀cl C s2 H2 fp,N'.Nodup->PG (X.blk N' sc cl C s2 H2 fp) tg g)(ht:∀cl C s2 H2 fp,PIf (X.blk N' sc cl C s2 H2 fp) ifs tt)(he:∀cl C s2 H2 fp,PE (X.blk N' sc cl C s2 H2 fp) elt te)(I2:aM X pins σ H2 s2)(T:Turn X.prog X.w X.K tg J fp it tn)(st2:tn 0 s2.heap)(f2:∀b∈fp,ya X pins H2 b)(w0:W 0 m0 (J8 src σ) (upd H2 s2.heap.objs.size (.lst [])))(turn:∀i m σ' H',W i m σ' H'->(J.stop i H'/\Qe H')∨(J.go i H'/\∃N:St->Hp->Prop,(∀σ2 H2,N σ2 H2->∃m',m'<m/\W (i+ 1) m' σ2 H2)/\
   ∀x H'',J.yld i H' x H''->j8 g tt te s2.heap.objs.size N x σ' H'')) (fin:∀C s4 σ3 H3,s2.heap.objs.size<=C->aM (X.blk N' sc cl C s2 H2 fp) [] σ3 H3 s4->Qe H3->RR (.ref s2.heap.objs.size) C (.ok .next) s4):
  Yl (Yn X.prog X.w) X.A (al9 []) (λacc s₃=>Yl (Yn X.prog X.w) X.A (newFunctionEnv sc X.env.globals cl [] X.env.qual Yb .none (Ya X.env)) (λcenv s₄=>
   rl (Yn X.prog X.w) X.A (.compStart (.ListComp elt [#[tg,iter,ifs,0]] sc pos) 0 (.ref it) acc {cenv with scope:=relabel sc X.env}) (RR acc cenv.locals) s₄) X.xe s₃) X.xe s2:=by
 obtain⟨b1,b2,b3,b4,b5,b6⟩:=hB;show abx (wpAny_newFunctionEnv b1 (by intro y hy;simp at hy) (λh₁ ns₁ sb₁=>?_) hk);dsimp only at ns₁ sb₁⊢;generalize hP:s2.heap.push {cls:=.type "list",dict:=Yb,data:=.seq ([]:List Yd).toArray}=Hl at ns₁ sb₁⊢;have hC:Hl.objs.size=s2.heap.objs.size+ 1:=by rw[←hP,afj]
 have nDC:s2.heap.objs.size≠Hl.objs.size:=by rw[hC];show YB (afS _)
 have below:∀{b:Yc} {o:Y8},s2.heap.get? b=Ya o->b≠Hl.objs.size:=fun{b o} z=>by
  have:=Yt z;rw[hC];show YB (agU this)
 have old:∀b o,s2.heap.get? b=Ya o->h₁.get? b=Ya o:=λb o z=>sb₁.extBut b o (below z) (Yg _ (hP▸Yg _ z));have hD1:h₁.get? s2.heap.objs.size=Ya {cls:=.type "list",data:=.seq ([]:List Yd).toArray}:=sb₁.extBut _ _ nDC (Yg _ (hP▸Ys _ rfl));have fD:H2 s2.heap.objs.size=none:=I2.hok.fresh (Ym _);have fC:H2 Hl.objs.size=none:=I2.hok.fresh (by rw[hC];show aeO _);have ok:(X.blk N' sc cl Hl.objs.size s2 H2 fp).Ok:=by
  show#[I2.ok.mod,hk,I2.ok.glob,I2.ok.blt,?_,λx y c h1 h2=>I2.ok.inj x y c (hsub x c h1) (hsub y c h2),λx hx=>?_,λx c z=>?_,I2.ok.hd,I2.ok.frames,.inl rfl,λb hb=>#[?_,λx c z=>(f2 b hb).2.2.2.2.1 x c (hsub x c z)],
   I2.bs,oh I2.ok.bsz I2.sz,λb o z hb=>?_,λb hb z=>?_,I2.stack,I2.stkFree]
  .change s2.heap.objs.size<=Hl.objs.size;rw[hC];show aeO _
  .have hx':(sc.names.map fun(n,k)=>if(k==xw&&X.env.scope.kind==.function&&X.env.kindOf n==Ya .cell)then(n,afe)else(n,k)).lookup x=Ya .cell∨
     (sc.names.map fun(n,k)=>if(k==xw&&X.env.scope.kind==.function&&X.env.kindOf n==Ya .cell)then(n,afe)else(n,k)).lookup x=Ya .free:=hx
   rw[GX.tZ]at hx';cases e:sc.names.lookup x with
   |none=>
    rw[e]at hx';simp at hx'
   |some k=>
    rw[e]at hx';by_cases hf:k=.free
    .subst hf;show hhas x (adg e)
    .have hb:(k==xw)=false:=by simpa using hf
     have e2:((Ya k).map λk=>if(k==xw&&X.env.scope.kind==.function&&X.env.kindOf x==Ya .cell)then afe else k)=Ya k:=by
      change Ya (if(k==xw&&X.env.scope.kind==.function&&X.env.kindOf x==Ya .cell)=true then afe else k)=Ya k;rw[hb,agr,agr];rfl
     rw[e2]at hx';rcases hx' with z|z
     .show absurd (YM z) (b1 _ (adg e))
     .show absurd (YM z) hf
  .cases z
  .obtain⟨o,z,_⟩:=T.obj 0 _ st2 b hb;show below z
  .rcases(f2 b hb).2.2.2.1 with f3|f3
   .show I2.ok.noex b o z f3
   .have l1:=Yt z;have l2:=I2.ok.bsz;show absurd (YT l1 (oh l2 f3)) (Y7 _)
  .rcases Yq.mp (I2.stkSub b z)with z|z
   .show(f2 b hb).2.1 z
   .show(f2 b hb).2.2.1 z
 have IY:aM (X.blk N' sc cl Hl.objs.size s2 H2 fp) [] (J8 src σ) (upd H2 s2.heap.objs.size (.lst [])) {s2 with heap:=h₁,toks:=s2.toks+ ([]:List (Yh×Yd)).length}:=by
  show#[ok,rfl,I2.bare,Un.laid old (Ym _) fD,#[_,ns₁,λi x v e1 e2 _=>?_],λx c z=>?_,?_,λx c z=>?_,λp hp=>?_,I2.hok.laid old (Ym _) #[Y1 _,[],0,.nil,hD1],?_]
  .have e1':N'[i]?=Ya x:=e1;unfold J8 at e2;rw[YJ]at e2;cases es:src[i]? with
   |none=>rw[es]at e2;cases e2
   |some o=>
    rw[es]at e2;cases o with
    |none=>cases e2
    |some j=>
     have e3:(σ[j]?).bind (λv=>v)=Ya v:=YM e2;have e4:σ[j]?=Ya (Ya v):=by
      cases q:σ[j]? with
      |none=>rw[q]at e3;cases e3
      |some w=>rw[q]at e3;show congrArg Ya e3
     have hz:(x,Ya j)∈N'.zip src:=Y0 (i:=i) (by rw[agk];show#[e1',es]);have hcap:=b6 _ hz;have hcap':(decide (X.N[j]?=Ya x)&&decide (sc.names.lookup x=Ya .free))=true:=hcap;rw[ag9]at hcap';have c1:X.N[j]?=Ya x:=of_decide_eq_true hcap'.1;have c2:sc.names.lookup x=Ya .free:=of_decide_eq_true hcap'.2;have hfree:=adg c2;have vis:=b3 _ hfree rfl;obtain⟨m,hn,hl⟩:=I2.loc;obtain⟨u,ru,lk⟩:=hl j x v c1 e4 (.inr vis);rcases lk with⟨k1,_⟩|⟨_,c,k2,z⟩
     .have k1':X.env.scope.names.lookup x=Ya .local:=k1;rcases vis with v|v<;>(rw[k1']at v;cases v)
     .obtain⟨c',k3⟩:=hhas x hfree;have k4:=hsub x c' k3;rw[k2]at k4;cases k4;show#[u,ru,.inr #[?_,c,k3,z.keeps old]];change(sc.names.map fun(n,k)=>if(k==xw&&X.env.scope.kind==.function&&X.env.kindOf n==Ya .cell)then(n,afe)else(n,k)).lookup x=Ya .cell∨
       (sc.names.map fun(n,k)=>if(k==xw&&X.env.scope.kind==.function&&X.env.kindOf n==Ya .cell)then(n,afe)else(n,k)).lookup x=Ya .free
      rw[GX.tZ,c2];change Ya (if _ then afe else xw)=_∨Ya (if _ then afe else xw)=_;split
      .show .inl rfl
      .show .inr rfl
  .obtain⟨v,q⟩:=I2.cell x c (hsub x c z);show#[v,q.keeps old]
  .change upd H2 s2.heap.objs.size (.lst []) Hl.objs.size=Yb;rw[ak (Ne.symm nDC)];show fC
  .obtain⟨v,q⟩:=I2.cell x c (hsub x c z);rw[ak (YB q.lt)];show I2.freeC x c (hsub x c z)
  .show absurd (show p∈([]:List (Yc×Y8))from hp) (by simp)
  .change(src.map _).length=N'.length;rw[Yj];show b5
 have stat:∀{H':Hp},(∀b∈fp,H' b=Yb)->∀b∈fp,ya (X.blk N' sc cl Hl.objs.size s2 H2 fp) [] H' b:=λhn b hb=>
  #[hn b hb,(ok.exf b hb).1,ok.exfs b hb,.inl hb,(ok.exf b hb).2,λp hp=>absurd (show p∈([]:List (Yc×Y8))from hp) (by simp)]
 have loop:rl (Yn X.prog X.w) X.A (.compLoop (.ListComp elt [#[tg,iter,ifs,0]] sc pos) 0 (.ref it) (.ref s2.heap.objs.size) (compEnvC sc cl Hl.objs.size X.env))
   (RR (.ref s2.heap.objs.size) Hl.objs.size) {s2 with heap:=h₁,toks:=s2.toks+ ([]:List (Yh×Yd)).length}:=by
  show GX.KL (λn s'=>∃i σ' H',aM (X.blk N' sc cl Hl.objs.size s2 H2 fp) [] σ' H' s'/\tn i s'.heap/\(∀b∈fp,H' b=Yb)/\W i n σ' H') ?_ m0
   #[0,_,_,IY,T.keep 0 _ _ st2 (λb _ o z=>old b o z),λb hb=>?_,w0]
  .rintro n s3 ⟨i,σ3,H3,I3,st3,fr3,w3⟩;rcases turn i n σ3 H3 w3 with⟨stop,qn⟩|⟨go,N,hN,step⟩
   .show Yf (cR (T.done (X.blk N' sc cl Hl.objs.size s2 H2 fp) rfl rfl rfl hc i [] s3 σ3 H3 (λ_ _=>False) I3 (stat fr3) st3 stop) λr s4 zz=>?_);obtain⟨hr,I4⟩:=zz;subst hr;show Yk<|fin _ s4 σ3 H3 (by rw[hC];show aeO _) I4 qn
   .show Yf (cR (T.item (X.blk N' sc cl Hl.objs.size s2 H2 fp) rfl rfl rfl hc i [] s3 σ3 H3 (λ_ _=>False) I3 (stat fr3) st3 go) λr s4 zz=>?_);obtain⟨u,hr,h4⟩:=zz;subst hr;show Yf (cR h4 λ_ s5 zz=>?_);obtain⟨x,H5,I5,r5,y5,st5,fr5⟩:=zz;have I5':=I5.pinned (stat fr5) (T.obj _ _ st5);have again:∀{σ7:St} {H7:Hp} {s7:Yi},aM (X.blk N' sc cl Hl.objs.size s2 H2 fp) ([]++AL fp s5.heap) σ7 H7 s7->N σ7 H7->
      ∃m,m<n/\∃i σ' H',aM (X.blk N' sc cl Hl.objs.size s2 H2 fp) [] σ' H' s7/\tn i s7.heap/\(∀b∈fp,H' b=Yb)/\W i m σ' H':=fun{σ7 H7 s7} I7 n7=>by
     obtain⟨m',hm,w7⟩:=hN σ7 H7 n7;show#[m',hm,i+ 1,σ7,H7,I7.unpinned,T.keep _ _ _ st5 λb hb o z=>(I7.pin (b,o) (YE _ (YE _ (js hb z)))).1,λb hb=>?_,w7];obtain⟨o,z,_⟩:=T.obj _ _ st5 b hb;show(I7.pin (b,o) (YE _ (YE _ (js hb z)))).2.1
    show Yf (cR (hg cl Hl.objs.size s2 H2 fp b4 _ s5 σ3 H5 x u _ I5' r5 (step x H5 y5)) λ_ s6 zz=>?_);obtain⟨σ6,H6,I6,q6⟩:=zz;show Yf (cR (ht cl Hl.objs.size s2 H2 fp _ s6 σ6 H6 _ I6 q6) λok s7 zz=>?_);obtain⟨H7,I7,q7⟩:=zz;cases ok with
    |true=>
     rw[if_pos rfl]at q7⊢;show Yf (cR (he cl Hl.objs.size s2 H2 fp _ s7 σ6 H7 _ I7 q7) λyv s8 zz=>?_);obtain⟨y,H8,I8,r8,ys,hD,hz,n8⟩:=zz;show Yf<|cR (ve (X:=X.blk N' sc cl Hl.objs.size s2 H2 fp) _ s8 σ6 H8 (.ref s2.heap.objs.size) [y] (.ref s2.heap.objs.size) [yv] (λ_ H'=>N σ6 H') I8 rfl (.cons r8 .nil) #[_,ys,y,rfl,rfl,hD,hz,n8])
      λ_ s9 ⟨_,H9,I9,_,n9⟩=>Yk (again I9 n9)
    |false=>
     rw[if_neg YQ]at q7⊢;show Yk (again I7 q7)
  .obtain⟨o,z,_⟩:=T.obj 0 _ st2 b hb;rw[ak (YB (Yt z))];show(f2 b hb).1
 show codeAny_compStart_list loop (T.self X.A 0 _ _ _ (T.keep 0 _ _ st2 (λb _ o z=>old b o z)) loop)
theorem el{wi:TI}(N':List Yh)(src:List (Option Nat))(hc:X.calm=true)(hk:sc.kind=.function)(hB:decide (XO X.N N' src X.env.scope sc)=true)(hi:PI X tg iter wi)(hg:∀cl C s2 H2 fp,N'.Nodup->PG (X.blk N' sc cl C s2 H2 fp) tg g)(ht:∀cl C s2 H2 fp,PIf (X.blk N' sc cl C s2 H2 fp) ifs tt)(he:∀cl C s2 H2 fp,PE (X.blk N' sc cl C s2 H2 fp) elt te)(hs:autoParam (∀x,akW iter X.env x=pure x) aq4):
  PE X (.ListComp elt [#[tg,iter,ifs,0]] sc pos) (aae src wi g tt te):=by
 intro pins s σ H Q I h;have B:=of_decide_eq_true hB;obtain⟨cl,hclos,hsub,hhas⟩:=GX.NW (env:=X.env) (sc:=sc) λy hy hf=>I.ok.has y.1 (B.2.2.1 y hy hf);rw[eval_ListComp];show wpAny_comprehension_free (use:=Yb) rfl hs hclos hk B.2.1 (cR (hi pins s σ H _ I h) λv s1 h1=>cR h1 λitv s2 h2=>?_);obtain⟨it,fp,tn,J,H2,e,I2,T,st2,f2,q⟩:=h2;subst e;obtain⟨W,⟨m0,w0⟩,turn⟩:=q s2.heap.objs.size (I2.hok.fresh (Ym _));show QM (RR:=λacc C=>compPost (Yn X.prog X.w) X.A X.xe Yb (EP X pins σ Q) acc C) (Qe:=λH'=>Q (.ref s2.heap.objs.size) H') hc hk B hsub hhas hg ht he I2 T st2 f2 w0 turn λC s4 σ3 H3 hC I4 qn=>?_;obtain⟨m,hn,_⟩:=I4.loc;show#[m,hn,λh' sb=>#[.ref s2.heap.objs.size,H3,?_,rfl,qn]];show I2.call' (s':={s4 with heap:=h'}) (ch:=fp) I4.os (I4.base.but sb (akc hC)) (I4.hok.but sb I4.free) I4.bare λb hb=>#[(f2 b hb).2.2.2.1,(f2 b hb).2.1,(f2 b hb).2.2.2.2.1,(f2 b hb).2.2.2.2.2]
theorem HQ{i:Nat}{N:St->Hp->Prop}{x:V}(h:te (σ.set i (Ya x)) H λy H4=>∃ys,H4 D=Ya (.lst ys)/\ys.length<Yu/\N (σ.set i (Ya x)) (upd H4 D (.lst (ys++[y])))):j8 (Gx i) ab8 te D N x σ H:=by
 change(if true=true then te (σ.set i (Ya x)) H (λy H4=>∃ys,H4 D=Ya (.lst ys)/\ys.length<Yu/\N (σ.set i (Ya x)) (upd H4 D (.lst (ys++[y]))))else N (σ.set i (Ya x)) H);rw[if_pos rfl];show h
theorem MH{lo:Int}{n:Nat}(Pv:Nat->St->Hp->Prop)(h0:Pv 0 σ H)(hs:∀i σ H,i<n->Pv i σ H->j8 g tt te D (Pv (i+ 1)) (.int (lo+ i)) σ H)(hd:∀σ H,Pv n σ H->Qe H):
  ∃W:Nat->Nat->St->Hp->Prop,(∃m,W 0 m σ H)/\∀i m σ' H',W i m σ' H'->((V1 lo n).stop i H'/\Qe H')∨((V1 lo n).go i H'/\∃N:St->Hp->Prop,(∀σ2 H2,N σ2 H2->∃m',m'<m/\W (i+ 1) m' σ2 H2)/\
   ∀x H'',(V1 lo n).yld i H' x H''->j8 g tt te D N x σ' H''):=by
 show#[λi m σ H=>m=n-i/\i<=n/\Pv i σ H,#[n,by simp,Y1 _,h0],?_];rintro i m σ H ⟨rfl,hi,p⟩;by_cases hlt:i<n
 .show .inr #[hlt,Pv (i+ 1),λσ' H' p'=>#[n-(i+ 1),by omega,rfl,hlt,p'],λx H' y=>?_];obtain⟨e,y⟩:=y;subst e y;show hs i σ _ hlt p
 .have e:i=n:=by omega
  subst e;show .inl #[Ym _,hd σ H p]
theorem dg{K:Ye}{a:Yc}{xs:List V}(Pv:Nat->St->Hp->Prop)(h0:Pv 0 σ H)(hl:∀i σ H,i<=xs.length->Pv i σ H->bZ K H a xs)(hs:∀i x σ H,xs[i]?=Ya x->Pv i σ H->j8 g tt te D (Pv (i+ 1)) x σ H)(hd:∀σ H,Pv xs.length σ H->Qe H):
  ∃W:Nat->Nat->St->Hp->Prop,(∃m,W 0 m σ H)/\∀i m σ' H',W i m σ' H'->((U0 K a).stop i H'/\Qe H')∨((U0 K a).go i H'/\∃N:St->Hp->Prop,(∀σ2 H2,N σ2 H2->∃m',m'<m/\W (i+ 1) m' σ2 H2)/\
   ∀x H'',(U0 K a).yld i H' x H''->j8 g tt te D N x σ' H''):=by
 show#[λi m σ H=>m=xs.length-i/\i<=xs.length/\Pv i σ H,#[xs.length,by simp,Y1 _,h0],?_];rintro i m σ H ⟨rfl,hi,p⟩;have q:=hl i σ H hi p;by_cases hlt:i<xs.length
 .show .inr #[#[xs,xs[i],q,by simp[hlt]],Pv (i+ 1),λσ' H' p'=>#[xs.length-(i+ 1),by omega,rfl,hlt,p'],λx H' y=>?_];obtain⟨e,y⟩:=y;subst e;show hs i x σ _ (y xs q) p
 .have e:i=xs.length:=by omega
  subst e;show .inl #[#[xs,q,Ym _],hd σ H p]
section
def aaL(_ j:Int):Prop:=0<j/\j<18446744073709551616
theorem Vl:sI X (agv .FloorDiv) (rI aaL λi j=>.int (i / j)):=opI λi j _ _ _ _ _ hc q=>by
 have h1:(0:Int)<j:=hc.1;have h2:j<18446744073709551616:=hc.2;show amH (by omega) (by rw[aiI i (by omega)];show q) (.inl (PyProof.noPylong_of_log2 ?_));have h3:j.natAbs.log2<64:=(Nat.log2_lt (by omega)).mpr (by omega);omega
theorem Lb:eU X (.builtin "isinstance") (λxs H Q=>∃(x:V) (t:Yd) (T:String) (b:Bool),xs=[x,.ty T]/\yl X.K H x t/\cw X.K t (.type T)=Ya b/\Q (.bl b) H):=by
 intro pins s σ H xs us Q I r h;obtain⟨x,t,T,b,rfl,ty,e,q⟩:=h;obtain⟨u,w',rfl,r1,r2⟩:=Hu r;obtain rfl:w'=xi T:=r2;show Ru I r1 ty e λtk=>#[.bl b,H,I.tok tk,rfl,q]
theorem QH:MtR X "int.bit_length" (λx vs H Q=>∃i,x=.int i/\vs=[]/\Q (.int (aa9 i)) H):=by
 intro pins s σ H x xs v us Q I rx rv h;obtain⟨i,rfl,rfl,q⟩:=h;obtain⟨t,rfl⟩:=rx;cases rv;show call_int_bit_length #[.int (aa9 i),H,I.tok _,#[_,rfl],q]
theorem QY(bs:List Bool):(gp bs.length).all (λi=>bs.getD i false)=bs.all λb=>b:=by
 have e:(gp bs.length).map (λi=>bs.getD i false)=bs:=ajj (by simp) λi h1 h2=>by simp[h2]
 conv=>rhs;rw[←e,List.all_map]
 rfl
theorem Um(hc:X.calm=true):eU X (.builtin "all") (λxs H Q=>∃(p:Yc) (bs:List Bool),xs=[.ref p]/\bZ X.K H p (bs.map V.bl)/\Q (.bl (bs.all λb=>b)) H):=by
 intro pins s σ H xs us Q I r h;obtain⟨p,bs,rfl,hq,q⟩:=h;obtain⟨u,rfl,rx⟩:=ij r;cases rx;obtain⟨its,rv,pl,hz⟩:=I.list hq;have hl:its.toArray.size=bs.length:=by rw[YA,←rv.length,Yj]
 have hp:p<s.heap.objs.size:=let ⟨_,z,_⟩:=pl.isList;Yt z;show call_all_walk (afG pl.isList ?_);show#[s.heap.objs.size,[s.heap.objs.size,p],[s.heap.objs.size],its.toArray.size,_,_,λi=>bs.getD i false,rfl,ai2 (A:=X.A.in1) (I.ok.hd hc) _ p (YB hp) its.toArray,
  #[#[_,Ys _ rfl,rfl,rfl],pl.isList.push _],λi v s' Q' E' hP hQ=>?_,λh' tk kp=>?_]
 .have hv:its[i]?=Ya v:=by simpa using hP
  have hb:i<bs.length:=by
   have:=(Yp.mp hv).1;rw[←hl,YA];show this
  obtain⟨u,hu,ru⟩:=rv.get (i:=i) (x:=V.bl bs[i]) (by rw[YJ,Yw hb];rfl);rw[hv]at hu;cases hu;obtain rfl:v=ag5 bs[i]:=ru;show adW ?_;have e:bs.getD i false=bs[i]:=by rw[Y5,Yw hb,alp]
  rw[←e];show hQ
 .show#[.bl (bs.all λb=>b),H,I.kept (t':=tk) λb o e=>kp b o ?_ (Yg _ e),?_,q]
  .intro z;have z':b=s.heap.objs.size:=by simpa using z
   show absurd (Yt e) (by rw[z'];show Y7 _)
  .change ag5 _=ag5 _;rw[hl,QY]
def Vz(X:Cx)(id:String)(ks:List Yh)(r:List V->List V->Hp->VK->Prop):Prop:=
 ∀(pins:List (Yc×Y8)) (s:Yi) (σ:St) (H:Hp) (xs zs:List V) (us ws:List Yd) (Q:VK),aM X pins σ H s->Vals xs us->Vals zs ws->r xs zs H Q->
  Yl (Yn X.prog X.w) X.A (call (.builtin id) us (ks.zip ws)) (EP X pins σ Q) X.xe s
def aeJ(r:List V->List V->Hp->VK->Prop)(t tk:TA):TE:=λσ H Q=>t σ H λvs H1=>tk σ H1 λzs H2=>r vs zs H2 Q
theorem RJ{ks:List Yh}{tk:TA}{id:String}{r:List V->List V->Hp->VK->Prop}(hc:Vz X id ks r)(hg:Gl X x)(hm:X.mg x=Yb)(hv:afm x=Ya (.builtin id))(ha:PA X (e::es) t)(hk:PK X kws tk)(hks:autoParam ((adj pos (BD kws X.env)).filterMap (·.1)=ks) aq0)(hn:autoParam (x≠"__name__") aq1)(hdb:autoParam ((x==("__debug__":Yh))=false) aq1)(he:autoParam (tq pos (YC (e::es) X.env)=(false,Y3 e X.env)::tq pos (YC es X.env)) aq0)(hplain:autoParam ((tq pos (YC (e::es) X.env)).any (·.1)=false) aq0)(hall:autoParam ((adj pos (BD kws X.env)).all (·.1.isSome)=true) aq0)(hkw:autoParam ((adj pos (BD kws X.env)).any (·.1.isNone)=false) aq0):PE X (.Call (.Name x p) (e::es) kws pos) (aeJ r t tk):=by
 intro pins s σ H Q I h;show acb (xC I hg hm hv ?_ hn hdb);show aid (cR (ha pos pins s σ H _ I h) λus s1 zz=>?_) he hplain hall hkw;obtain⟨vs,H1,I1,r1,q1⟩:=zz;show cR (hk pos pins s1 σ H1 _ I1 q1) λws s2 zz=>?_;obtain⟨zs,H2,I2,r2,q2⟩:=zz;rw[hks];show hc pins s2 σ H2 vs zs us ws Q I2 r1 r2 q2
theorem z9(a v:Yd):agy "min" #[[a],[(xl "default",v)]]:=by unfold agy;kernel_rfl
theorem Ql(hc:X.calm=true):Vz X "min" [xl "default"] (λxs zs H Q=>∃(p:Yc) (ns:List Int) (d:V),xs=[.ref p]/\zs=[d]/\bZ X.K H p (ns.map V.int)/\(ns=[]->Q d H)/\∀b,b∈ns->(∀z∈ns,b<=z)->Q (.int b) H):=by
 intro pins s σ H xs zs us ws Q I r rz h;obtain⟨p,ns,d,rfl,rfl,hq,h0,h1⟩:=h;obtain⟨u,rfl,rx⟩:=ij r;cases rx;obtain⟨dv,rfl,rd⟩:=ij rz;obtain⟨its,rv,pl,hz⟩:=I.list hq;have hl:its.length=ns.length:=by rw[←rv.length,Yj]
 have tell:∀(i:Nat) v,its[i]?=Ya v->∃n t,ns[i]?=Ya n/\v=.int n t:=λi v e=>by
  have b:i<ns.length:=hl▸(Yp.mp e).1;obtain⟨u,hu,t,rfl⟩:=rv.get (i:=i) (x:=V.int ns[i]) (by simp[b]);show#[ns[i],t,by simp[b],YM (e.symm.trans hu)]
 show GX.Nr GX.GR GX.LG ajP ajQ (ko:=Yb) (d:=Ya dv) (I.ok.hd hc) rfl (z9 _ _) pl.isList
  (λi j=>decide (ns.getD i 0<ns.getD j 0)) (λi=>by simp) (λi j h=>by simp at h⊢;omega) (λa b c h h2=>by simp at h h2⊢;omega) (λi v=>∃t,v=.int (ns.getD i 0) t) ?_ ?_ ?_ ?_
 .intro j v h tk hv G;obtain⟨n,t,hn,rfl⟩:=tell j v hv;show And.intro ⟨t,by rw[Y5,hn];rfl⟩ ⟨tk,rfl⟩
 .show λi j k k' h tk hk hk' G Q q=>CmpOf.ints_lt (P:=λi v=>∃t,v=.int (ns.getD i 0) t) (λi=>ns.getD i 0) (λ_ _ z=>z) j i _ _ _ _ _ hk hk' q
 .show λe=>#[dv,rfl,λh tk G=>#[d,H,I.kept (t':=tk) G,rd,h0 (aaM (by rw[←hl,e];rfl))]]
 .intro i v h tk hv ft G;obtain⟨n,t,hn,rfl⟩:=tell i v hv;show#[.int n,H,I.kept (t':=tk) G,#[t,rfl],h1 n (Y0 hn) λz hz=>?_];obtain⟨j,hj,rfl⟩:=agB hz;have:=(ft j (hl▸hj)).1;simpa [Y5,hn,hj]using this
end
structure fH(K:Ye)(mg:Yh->Option Yd)(x:Yh)(f:Yc)(fd:Yr)(ps:List Yh):Prop where
 mg:mg x=Ya (.ref f)
 kp:afQ K (.ref f)=true
 bd:Binds K fd ps []
theorem bg{k:Nat}{f:Yc}{fd:Yr}{ps:List Yh}{sp:Sp}(F:aw X.prog X.w X.K X.mg X.base bo k f fd ps sp)(c:fH X.K X.mg x f fd ps)(hr:cV k X.A)(ha:PA X (e::es) t)(hg:autoParam (Gl X x) aq0)(hdb:autoParam ((x==("__debug__":Yh))=false) aq1)(he:autoParam (YC (e::es) X.env=(false,Y3 e X.env)::YC es X.env) aq0)(hpl:autoParam ((tq pos (YC es X.env)).any (·.1)=false) aq0):
  PE X (.Call (.Name x p) (e::es) [] pos) (N1 sp [] E0 t):=Xx F hr hg c.mg c.kp c.bd .nil rJ ha hdb he hpl
theorem ou{T:String}(hm:X.mg x=Yb)(hv:afm x=Ya (.type T))(hg:autoParam (Gl X x) aq0)(hn:autoParam (x≠"__name__") aq1)(hdb:autoParam ((x==("__debug__":Yh))=false) aq1):PE X (.Name x pos) (tC (.ty T)):=
 Xn hg hm hv rfl hn hdb
def adI(K:Ye)(t:TE):TT:=λσ H Q=>t σ H λx H'=>∃k,Tz K x H' k/\Q k H'
theorem cK(K:Ye){f:YY}{t:TE}(hK:X.K=K)(h:PE X (.Call f es kws pos) t):PT X (.Call f es kws pos) (adI K t):=by
 subst hK;show S1 h λ_=>rfl
section
theorem TU{x y:Int}(hx:0<=x)(hy:0<=y):acZ x y=((x.toNat ||| y.toNat:Nat):Int):=by
 have nn:∀z:Int,Y9 (Y9 z)=z:=λz=>by unfold Y9;omega
 have ng:∀z:Int,0<=z->¬ 0<=Y9 z:=λz hz=>by unfold Y9;omega
 unfold acZ;rw[bitAnd_nn (ng x hx) (ng y hy),nn,nn,nn]
end
end L2
namespace GX
open PySem
variable{prog:YU}{w:YZ}{A:sq}{E Q:Yd->Yi->Prop}{s:Yi}{l:Yc}{n:Nat}{T id:String}{nm:Yh}{R:agt->Yi->Prop}
theorem Qn:akg (.type "list") (xl "keys")=pure none:=am_miss_of_fast (by kernel_rfl)
section
variable{items:Array Yd}{Q:Option Yd->Yi->Prop}
theorem Ui{B:xb}{x:Yd}{S:ani}(slot:amL T nm id)(en:agS aix id=Ya B)(hT:s.TypeIs (.ref l) T)(ar:agy id #[[.ref l,x],[]])(m:ahk (B #[[.ref l,x],[]]) S)(h:S A R s):
  rl (Yn prog w) A (.call (.builtin id) #[[.ref l,x],[]]) R s:=aaF slot.plain en (slot.check _ _ _ _ _ _ _ _ hT ar (m prog w A R s h))
theorem Xy{o:Y8}(slot:amL T "__getattribute__" id)(ga:akg (.type T) "__getattr__"=pure Yb)(en:agS aix id=Ya xb.«object.__getattribute__»)(ar:∀a b,agy id #[[a,b],[]])(hl:s.heap.get? l=Ya o)(hc:o.cls=.type T)(m:∀u,ahk (xb.«object.__getattribute__» #[[.ref l,.str nm u],[]]) (λA R s=>s.heap.get? l=Ya o/\raisesAttr (.ref l) nm A R s))(hA:A.handled=Yb)(h:∀h' tk,yg s.heap h'->Q Yb {s with heap:=h',toks:=tk}):Yl (Yn prog w) A (ajk (.ref l) nm) Q E s:=by
 obtain⟨c,dd,dt,sl⟩:=o;cases hc;obtain⟨hp,g,d,tk,os⟩:=s;have hT:∀tk,xf #[hp,g,d,tk,os] (.ref l) T:=λ_=>#[_,hl,rfl];have:=slot.lookup;have:=slot.bind (.ref l);have:=sub_AttributeError;unfold ajk getAttrBy? amn
 repeat' first|assumption|show hT _|wp_step
 show Ui slot en (hT _) (ar _ _) (m _) #[hl,hA,λh' tk' e x=>?_];obtain⟨t',u',_⟩:=x.there;have q:=h h' tk' x.keeps;unfold getattributeRaised
 repeat' first|assumption|wp_step
theorem N8(hA:A.handled=Yb)(hl:s.heap.get? l=Ya (Ft items n))(h:∀h' tk,yg s.heap h'->Q Yb {s with heap:=h',toks:=tk}):Yl (Yn prog w) A (ajk (.ref l) (xl "keys")) Q E s:=
 Xy F.slot_list_getattribute am_list_getattr_none am_entry_list_getattribute F.args_list_getattribute_2 hl rfl (λu=>meets_getattribute_miss_list l items n _ _ u Qn (by decide)) hA h
end
theorem tE:agS aix "dict.update.loop"=Ya xb.«dict.update.loop»:=alq (by kernel_rfl)
theorem jd:aj2 "dict.update.loop"=true:=by decide +kernel
section
variable{I d:Yc}{fp wr:List Yc}{P:Nat->Yd->Prop}{St:Nat->YO->Prop}{K:Type}[DecidableEq K]{knd:ai8 prog w K}
theorem NC(kx:List (K×Yd)):(ajc [] kx).length<=kx.length:=by
 have:=merged_length_le [] kx;simpa using this
theorem Ku(I d:Yc)(i:Int)(t:agl):al7 prog w (xb.«dict.update.loop» #[[.ref d,.ref I,.int i t,.none],[]]) λA R s=>Yl (Yn prog w) A.in1 (adi (.ref I)) (λr s=>match r with
  |none=>R (.ok (.ret .none)) s
  |some v=>∃a o k x c,v=.ref a/\s.heap.get? a=Ya o/\o.cls=.type "tuple"/\o.data=.seq (afs [k,x]) c/\
   Yl (Yn prog w) A.in1 (dictSet d k x) (λ_ s=>rl (Yn prog w) A (.builtin "dict.update.loop" #[[.ref d,.ref I,.int (i+ 1) 0,.none],[]]) R s) (λ_ _=>False) s) (λ_ _=>False) s:=by
 intro A R s nx;change Yl _ _ (adi (.ref I) >>= _) _ _ s;apply Yf;show pk nx (λr s1 h=>?_) λ_ _ z=>z.elim;rcases r with _|v
 .wp_walk
  show h
 .obtain⟨a,o,k,x,c,rfl,ha,hc,hd,q⟩:=h;have ty:s1.TypeIs (.ref a) "tuple":=#[o,ha,hc];apply Yf;apply xu;apply Yf;apply aiq
  wp_walk using air ha hd,pk q
  .show λ_ _ e=>Yk #[afK jd _,e]
  .show λ_ _ z=>z.elim
theorem U1{D:Nat->YO->Prop}(W:ajH prog w A.in1 I fp wr n P St)(nd:d∉fp)(calm:∀i h h',D i h->(∀b o,b∉wr->h.get? b=Ya o->h'.get? b=Ya o)->D i h')
  (turn:∀i v s,P i v->D i s.heap->∃a o k x c,v=.ref a/\s.heap.get? a=Ya o/\o.cls=.type "tuple"/\o.data=.seq (afs [k,x]) c/\
   ∀Q:Unit->Yi->Prop,(∀h,D (i+ 1) h->(∀b,b≠d->h.get? b=s.heap.get? b)->∀tk,Q () {s with heap:=h,toks:=tk})->Yl (Yn prog w) A.in1 (dictSet d k x) Q (λ_ _=>False) s):
  ∀(k i:Nat) (s:Yi) (t:agl),n=i+ k->St i s.heap->D i s.heap->(∀h tk,D n h->R (.ok (.ret .none)) {s with heap:=h,toks:=tk})->
   rl (Yn prog w) A (.builtin "dict.update.loop" #[[.ref d,.ref I,.int i t,.none],[]]) R s:=by
 intro k
 induction k with
 |zero=>
  intro i s t e st di fin;obtain rfl:n=i:=e;show enter tE jd (Ku I d _ t) (W.done s _ _ st λh tk q=>fin h tk (calm _ _ _ di q))
 |succ k ih=>
  intro i s t e st di fin;show enter tE jd (Ku I d _ t) (W.item i s _ _ (by omega) st λv h tk pv st1 q=>?_);obtain⟨a,o,y,x,c,e1,e2,e3,e4,set⟩:=turn i v {s with heap:=h,toks:=tk} pv (calm _ _ _ di q);show#[a,o,y,x,c,e1,e2,e3,e4,set _ λh2 d2 sb tk=>?_];show ih (i+ 1) {s with heap:=h2,toks:=tk} 0 (by omega) (W.frame _ _ _ st1 λb hb o e=>(sb b λz=>nd (z▸hb)).trans e) d2 fin
theorem TZ(W:ajH prog w A.in1 I fp wr n P St)(nd:d∉fp)(h₀:YO)(kx:List (K×Yd))(hn:kx.length=n)(hz:n<=Yu)
  (hP:∀i v,P i v->∃a key k x o c,v=.ref a/\kx[i]?=Ya (k,x)/\knd.is k key=true/\h₀.get? a=Ya o/\o.cls=.type "tuple"/\o.data=.seq (afs [key,x]) c/\a≠d/\a∉wr):
  ∀(k i:Nat) (s:Yi) (t:agl),n=i+ k->St i s.heap->(∀b o,b∉wr->b≠d->h₀.get? b=Ya o->s.heap.get? b=Ya o)->s.heap.DictOf knd d (ajc [] (kx.take i))->
  (∀h' tk,(∀b o,b∉wr->b≠d->h₀.get? b=Ya o->h'.get? b=Ya o)->h'.DictOf knd d (ajc [] kx)->R (.ok (.ret .none)) {s with heap:=h',toks:=tk})->
  rl (Yn prog w) A (.builtin "dict.update.loop" #[[.ref d,.ref I,.int i t,.none],[]]) R s:=by
 have nw:d∉wr:=λz=>nd (W.sub _ z);intro k i s t en st kp dd fin;show U1 (D:=λi h=>(∀b o,b∉wr->b≠d->h₀.get? b=Ya o->h.get? b=Ya o)/\h.DictOf knd d (ajc [] (kx.take i))) W nd ?_ ?_ k i s t en st #[kp,dd] λh tk q=>fin h tk q.1 ?_
 .rintro i h h' ⟨kp,od,es,ep,ho,r⟩ q;show#[λb o nb nb' e=>q b o nb (kp b o nb nb' e),od,es,ep,q d od nw ho,r]
 .rintro i v s pv ⟨kp,dd⟩;obtain⟨a,key,k,x,o,c,rfl,hx,hk,ha,hc,hd,na,naw⟩:=hP i v pv;show#[a,o,key,x,c,rfl,kp a o naw na ha,hc,hd,λQ q=>wpAny_dictSet_pairs hk dd (λh2 d2 sb=>q h2 #[λb o nb nb' e=>(sb.2 b nb').trans (kp b o nb nb' e),?_] sb.2 _) (oh (NC _) (by rw[CA];omega))];rw[merged_take_succ [] kx i (k,x) hx];show d2
 .have z:=q.2;rwa [←hn,Y6]at z
end
section
variable{K:Type}[DecidableEq K]{knd:ai8 prog w K}
noncomputable abbrev Rj(h:YO):YO:=h.push {cls:=.type "dict",data:=.dict #[]}
theorem DP(ty:xf {s with heap:=Rj s.heap} (.ref l) T)(nT:(xi T !=.type "dict")=true)(h:Yl (Yn prog w) A.in1.in1 (ajk (.ref l) (xl "keys")) (λr s1=>r=Yb/\Yl (Yn prog w) A.in1.in1 (aiC (.ref l))
   (λit s2=>rl (Yn prog w) A.in1 (.builtin "dict.update.loop" #[[.ref s.heap.objs.size,it,.int 0 0,.none],[]]) (amF (λr s3=>r=.none/\Q (.ref s.heap.objs.size) s3) E) s2) E s1) E {s with heap:=Rj s.heap}):
  Yl (Yn prog w) A (call (.type "dict") [.ref l]) Q E s:=by
 apply callType_codes F.kt_called_dict (F.kt_typeCall_dict_1 _) F.entry_dict_init (kt_code_dict_new (Q₁:=λv s1=>v=.ref s.heap.objs.size/\s1={s with heap:=Rj s.heap}) _ #[rfl,rfl]);rintro _ _ ⟨rfl,rfl⟩;have td:xf {s with heap:=Rj s.heap} (.ref s.heap.objs.size) "dict":=#[_,Ys _ rfl,rfl];show#[td,F.args_dict_init_2 _ _,?_];change Yl _ _ (Builtin.Dict.selfAndRest _ _ >>= _) _ _ _
 wp_walk using wpAny_notOrdered_dict td,al8 nT,pk h
 .rintro _ s1 ⟨rfl,q⟩
  wp_walk using pk q
  .show λ_ _ e=>Yk #[afK jd _,e]
  .show λ_ _ e=>e
 .show λ_ _ e=>e
theorem y4{vs:List Yd}{kx:List (K×Yd)}(hA:A.handled=Yb)(hl:s.heap.get? l=Ya {cls:=.type "list",dict:=Yb,data:=.seq vs.toArray n,slots:=#[]})(hz:vs.length<=Yu)(hlen:kx.length=vs.length)(hP:∀(i:Nat) v,vs[i]?=Ya v->∃a key k x o c,v=.ref a/\kx[i]?=Ya (k,x)/\knd.is k key=true/\s.heap.get? a=Ya o/\o.cls=.type "tuple"/\o.data=.seq (afs [key,x]) c)(h:∀h' tk,(∀b o,s.heap.get? b=Ya o->h'.get? b=Ya o)->h'.DictOf knd s.heap.objs.size (ajc [] kx)->Q (.ref s.heap.objs.size) {s with heap:=h',toks:=tk}):
  Yl (Yn prog w) A (call (.type "dict") [.ref l]) Q E s:=by
 have hl':(Rj s.heap).get? l=Ya {cls:=.type "list",dict:=Yb,data:=.seq vs.toArray n,slots:=#[]}:=Yg _ hl;show DP (T:="list") #[_,hl',rfl] (by decide) (N8 hA hl' λh1 Js k1=>#[rfl,?_]);have hl1:=k1 l _ hl';have lt1:l<h1.objs.size:=Yt hl1;have ld:l<s.heap.objs.size:=Yt hl;have il:h1.IsList l vs.toArray:=#[_,hl1,rfl,n,rfl];have d1:h1.DictOf knd s.heap.objs.size []:=by
  obtain⟨od,es,ep,ho,r⟩:=Heap.DictOf.new (knd:=knd) s.heap;show#[od,es,ep,k1 _ _ ho,r]
 have dlt:s.heap.objs.size<h1.objs.size:=by
  obtain⟨od,es,ep,ho,r⟩:=d1;show Yt ho
 have hI:∀{b:Yc},b<h1.objs.size->b≠h1.objs.size:=λz=>YB z;show afG (s:={s with heap:=h1,toks:=Js}) il ?_;have W:=ai2 (prog:=prog) (w:=w) (A:=A.in1.in1) hA h1.objs.size l (hI lt1) vs.toArray;show TZ (A:=A.in1) (knd:=knd) W (d:=s.heap.objs.size) ?_ s.heap kx (by rw[hlen,YA]) (by rw[YA];show hz) (λi v hv=>?_) vs.toArray.size 0 _ 0 (by omega)
  #[#[_,Ys _ rfl,rfl,rfl],il.push _] (λb o _ nb e=>Yg _ (k1 b o (Yg _ e))) ?_ λh2 tk2 k2 d2=>?_
 .intro z;have z':s.heap.objs.size=h1.objs.size∨s.heap.objs.size=l:=by simpa using z
  rcases z' with z'|z'
  .show absurd dlt (by rw[z'];show Y7 _)
  .show absurd ld (by rw[z'];show Y7 _)
 .obtain⟨a,key,k,x,o,c,e1,e2,e3,e4,e5,e6⟩:=hP i v (by simpa using hv);show#[a,key,k,x,o,c,e1,e2,e3,e4,e5,e6,YB (Yt e4),λz=>?_];have z':a=h1.objs.size:=by simpa using z
  show absurd (ajb (Yt e4) dlt) (by rw[z'];show Y7 _)
 .show d1.push _
 .show#[rfl,h h2 tk2 (λb o e=>k2 b o (λz=>by
   have z':b=h1.objs.size:=by simpa using z
   show absurd (ajb (Yt e) dlt) (by rw[z'];show Y7 _)) (YB (Yt e)) e) d2]
end
end GX
namespace GX
open PySem PyProof.Rows
section
variable{prog:YU}{w:YZ}{A:sq}{E:Yd->Yi->Prop}{s:Yi}
theorem AJ{x:Yd}{kw:List (Yh×Yd)}{Q:Yd->Yi->Prop}(ok:agy "sorted" #[[x],kw])
  (h:Yl (Yn prog w) A.in1 (am9 x) (λvs s1=>Yl (Yn prog w) A.in1 (al9 vs >>= λl=>afR [l] (call (.builtin "list.sort") [l] kw) >>= λ_=>ret l) (λf s2=>∃v,f=.done (.ret v)/\Q v s2) E s1) E s):
  Yl (Yn prog w) A (call (.builtin "sorted") [x] kw) Q E s:=
 call_function_entry_kw kind_sorted plain_sorted entry_sorted ok (Yf (m:=checkCount _ _ _ _) (Yk (Yf (pk h (λ_ _ q=>q) λ_ _ e=>e))))
end
end GX
namespace L2
open PySem PySem.Spec PyProof.Rows
variable{m ps:List (Int×Int)}{k:Int}{X:Cx}{w:YZ}{A:sq}{s:Yi}{ns:List Int}{pins:List (Yc×Y8)}{σ:St}{H:Hp}{h':YO}{xs:List V}{a:Yc}
noncomputable def dI(m:List (Int×Int)):List (cj×V):=m.map λp=>(YG p.1,V.int p.2)
theorem ur(m:List (Int×Int)):(dI m).length=m.length:=Yj ..
noncomputable def Cb:List (Int×Int)->Int->Option Int
 |[],_=>Yb
 |p::m,k=>if p.1=k then Ya p.2 else Cb m k
theorem Iw:∀(m:List (Int×Int)) (k:Int),hX (dI m) (YG k:cj)=(Cb m k).map V.int
 |[],_=>rfl
 |p::m,k=>by
  change hX ((YG p.1,V.int p.2)::dI m) (YG k)=_;unfold Cb;by_cases e:p.1=k
  .rw[if_pos e,fj (by rw[e])];rfl
  .rw[if_neg e,fc (λz=>e (af5 z)),Iw m k]
noncomputable def gC:List (Int×Int)->Int->Int->List (Int×Int)
 |[],k,v=>[(k,v)]
 |p::m,k,v=>if p.1=k then(p.1,v)::m else p::gC m k v
theorem RZ:∀(m:List (Int×Int)) (k v j:Int),Cb (gC m k v) j=if j=k then Ya v else Cb m j
 |[],k,v,j=>by
  change(if k=j then Ya v else Yb)=_;by_cases e:j=k
  .rw[if_pos e,if_pos e.symm]
  .rw[if_neg e,if_neg (λz=>e z.symm)];rfl
 |p::m,k,v,j=>by
  change Cb (if p.1=k then(p.1,v)::m else p::gC m k v) j=if j=k then Ya v else(if p.1=j then Ya p.2 else Cb m j)
  by_cases e:p.1=k
  .rw[if_pos e];change(if p.1=j then Ya v else Cb m j)=_;by_cases e2:j=k
   .rw[if_pos e2,if_pos (e.trans e2.symm)]
   .rw[if_neg e2,if_neg (λz=>e2 (z.symm.trans e)),if_neg (λz=>e2 (z.symm.trans e))]
  .rw[if_neg e];change(if p.1=j then Ya p.2 else Cb (gC m k v) j)=_;rw[RZ m k v j];by_cases e2:j=k
   .rw[if_pos e2,if_neg (λz=>e (z.trans e2)),if_pos e2]
   .rw[if_neg e2,if_neg e2]
theorem JS:∀(m:List (Int×Int)) (k v x:Int),x∈(gC m k v).map (·.1)↔x=k∨x∈m.map (·.1)
 |[],k,v,x=>by simp[gC]
 |p::m,k,v,x=>by
  change x∈(if p.1=k then(p.1,v)::m else p::gC m k v).map (·.1)↔_;by_cases e:p.1=k
  .rw[if_pos e];simp only[YL,Yq];constructor
   .show λh=>.inr h
   .rintro(h|h)
    .show .inl (h.trans e.symm)
    .show h
  .rw[if_neg e];simp only[YL,Yq];have:=JS m k v x;constructor
   .rintro(h|h)
    .show .inr (.inl h)
    .rcases this.mp h with h|h
     .show .inl h
     .show .inr (.inr h)
   .rintro(h|h|h)
    .show .inr (this.mpr (.inl h))
    .show .inl h
    .show .inr (this.mpr (.inr h))
theorem SE:∀(m:List (Int×Int)) (k v:Int),(m.map (·.1)).Nodup->((gC m k v).map (·.1)).Nodup
 |[],k,v,_=>by simp[gC]
 |p::m,k,v,h=>by
  change((if p.1=k then(p.1,v)::m else p::gC m k v).map (·.1)).Nodup;rw[YL,xp]at h;by_cases e:p.1=k
  .rw[if_pos e,YL,xp];show h
  .rw[if_neg e,YL,xp];show#[λz=>?_,SE m k v h.2];rcases(JS m k v p.1).mp z with z|z
   .show e z
   .show h.1 z
theorem zq:∀(m:List (Int×Int)) (k v:Int) (p:Int×Int),p∈gC m k v->p=(k,v)∨p∈m
 |[],k,v,p,h=>.inl (by simpa [gC]using h)
 |q::m,k,v,p,h=>by
  have h':p∈(if q.1=k then(q.1,v)::m else q::gC m k v):=h;by_cases e:q.1=k
  .rw[if_pos e]at h';rcases Yq.mp h' with z|z
   .show .inl (by rw[z,e])
   .show .inr (Yx _ z)
  .rw[if_neg e]at h';rcases Yq.mp h' with z|z
   .show .inr (by rw[z];show Yy)
   .rcases zq m k v p z with z|z
    .show .inl z
    .show .inr (Yx _ z)
theorem Vv(k:Int):∀m:List (Int×Int),((dI m).any λkv=>decide (kv.1=(YG k:cj)))=m.any λp=>decide (p.1=k)
 |[]=>rfl
 |p::m=>by
  change(decide ((YG p.1:cj)=YG k)||(dI m).any _)=(decide (p.1=k)||m.any _);rw[Vv k m];congr 1;rw[decide_eq_decide];show#[λh=>af5 h,λh=>congrArg _ h]
theorem Jr:∀(m:List (Int×Int)) (k v:Int),(m.any λp=>decide (p.1=k))=false->gC m k v=m++[(k,v)]
 |[],_,_,_=>rfl
 |p::m,k,v,h=>by
  rw[agG,akj]at h;change(if p.1=k then(p.1,v)::m else p::gC m k v)=_;rw[if_neg (of_decide_eq_false h.1),Jr m k v h.2];rfl
theorem Oc:∀(m:List (Int×Int)) (k v:Int),(m.map (·.1)).Nodup->(m.any λp=>decide (p.1=k))=true->gC m k v=m.map λp=>if p.1=k then(p.1,v)else p
 |[],_,_,_,h=>by cases h
 |p::m,k,v,nd,h=>by
  rw[YL,xp]at nd;change(if p.1=k then(p.1,v)::m else p::gC m k v)=(if p.1=k then(p.1,v)else p)::m.map _;by_cases e:p.1=k
  .rw[if_pos e,if_pos e];congr 1;have:m.map (λp=>if p.1=k then(p.1,v)else p)=m.map id:=aeA λq hq=>by
    rw[if_neg (λz=>nd.1 (by rw[e,←z];show xj hq))];rfl
   rw[this,ajR]
  .rw[if_neg e,if_neg e,Oc m k v nd.2 (by
    rw[agG,decide_eq_false e,akr]at h;show h)]
theorem VR(m:List (Int×Int))(k v:Int)(nd:(m.map (·.1)).Nodup):iP (dI m) (YG k:cj) (V.int v)=dI (gC m k v):=by
 unfold iP;rw[Vv];cases e:m.any λp=>decide (p.1=k)with
 |false=>
  rw[Jr m k v e];unfold dI;rw[YD];rfl
 |true=>
  rw[Oc m k v nd e];unfold dI;rw[adk,if_pos rfl,adk];apply aeA;intro p _;change(if(YG p.1:cj)=YG k then((YG p.1:cj),V.int v)else(YG p.1,V.int p.2))=((YG (if p.1=k then(p.1,v)else p).1:cj),V.int (if p.1=k then(p.1,v)else p).2);by_cases z:p.1=k
  .rw[if_pos (congrArg _ z),if_pos z]
  .rw[if_neg (λq=>z (af5 q)),if_neg z]
theorem Nx:∀{m:List (Int×Int)} {k v:Int},Cb m k=Ya v->(k,v)∈m
 |[],_,_,h=>by cases h
 |p::m,k,v,h=>by
  have h':(if p.1=k then Ya p.2 else Cb m k)=Ya v:=h;by_cases e:p.1=k
  .rw[if_pos e]at h';have:p=(k,v):=by rw[←e,←YM h']
   rw[this];show Yy
  .rw[if_neg e]at h';show Yx _ (Nx h')
theorem aaE:∀{m:List (Int×Int)} {k v:Int},(m.map (·.1)).Nodup->(k,v)∈m->Cb m k=Ya v
 |[],_,_,_,h=>by cases h
 |p::m,k,v,nd,h=>by
  rw[YL,xp]at nd;change(if p.1=k then Ya p.2 else Cb m k)=Ya v;rcases Yq.mp h with z|z
  .rw[←z,if_pos rfl]
  .rw[if_neg (λe=>nd.1 (by rw[e];show xj (f:=(·.1)) z)),aaE nd.2 z]
theorem WD(h:k∉m.map (·.1)):Cb m k=none:=by
 cases e:Cb m k with
 |none=>rfl
 |some v=>show absurd (xj (f:=(·.1)) (Nx e)) h
theorem Xf(h:k∈m.map (·.1)):∃v,Cb m k=Ya v:=by
 cases e:Cb m k with
 |some v=>show#[v,rfl]
 |none=>
  exfalso
  induction m with
  |nil=>cases h
  |cons p m ih=>
   have e':(if p.1=k then Ya p.2 else Cb m k)=none:=e;by_cases z:p.1=k
   .rw[if_pos z]at e';cases e'
   .rw[if_neg z]at e';rw[YL]at h;rcases Yq.mp h with q|q
    .show z q.symm
    .show ih q e'
noncomputable def ct(m:List (Int×Int))(k:Int):Int:=(Cb m k).getD 0
section
theorem Ak{P:YU}{w:YZ}:∀{m:List (Int×Int)} {vs:List (cj×Yd)} {us:List Yd},KV (dI m) vs->us.length=vs.length->(∀(j:Nat) v,us[j]?=Ya v->∃k x,vs[j]?=Ya (k,x)/\(bB P w).is k v=true)->xn us (m.map (·.1))
 |[],_,us,r,hl,h=>by
  have r':KV [] _:=r;cases r';cases us with
  |nil=>show .nil
  |cons _ _=>cases hl
 |p::m,vs,us,r,hl,h=>by
  have r':KV ((YG p.1,V.int p.2)::dI m) vs:=r;cases r' with
  |cons r1 r2=>
   rename_i q qs;cases us with
   |nil=>cases hl
   |cons u us=>
    obtain⟨k,x,e1,e2⟩:=h 0 u rfl;have e1':q=(k,x):=YM e1;subst e1';have ek:(YG p.1:cj)=k:=r1.1;subst ek;rcases dH (show ED (YG p.1) u=true from e2)with⟨i,t,z1,z2⟩|⟨_,_,z,_⟩
    .have z1':p.1=i:=af5 z1;rw[z2,←z1'];show .cons _ t (Ak (P:=P) (w:=w) r2 (Nat.succ.inj hl) λj v e=>h (j+ 1) v e)
    .cases z
theorem Gm{E:Yd->Yi->Prop}{prog:YU}{vs:List Yd}{Q:Yd->Yi->Prop}(hi:xn vs ns)(h64:vs.length<64)(hz:vs.length<=Yu)(h:∀h' out ns' e,(∀b o,s.heap.get? b=Ya o->h'.get? b=Ya o)->h'.get? s.heap.objs.size=Ya (seqObj "list" out e)->xn out.toList ns'->ns'.Perm ns->ns'.Pairwise (·<=·)->Q (.ref s.heap.objs.size) {s with heap:=h'}):
  Yl (Yn prog w) A (do let l←al9 vs;let _←afR [l] (call (.builtin "list.sort") [l] []);ret l) (λfin s'=>∃v,fin=.done (.ret v)/\Q v s') E s:=by
 show Yf (aku ?_ hz);have ho:(s.heap.push (seqObj "list" vs.toArray 0)).get? s.heap.objs.size=Ya (seqObj "list" vs.toArray 0):=Ys _ rfl;show Yf (xu (afh ama #[_,ho,rfl] alP (list_sort_tree ho hi h64 λout ns' a1 a2 a3=>#[_,rfl,?_]) (args_list_sort _)));obtain⟨e,he⟩:=sortedHeap_at (out:=out) ho;show Yk #[_,rfl,h _ out ns' e (λb o q=>?_) he a1 a2 a3];have l:=Yt q;rw[sortedHeap_old (YB l) (by rw[size_push'];show agU l)];show Yg _ q
theorem aM.lay_ints{out:Array Yd}{e tk:Nat}(I:aM X pins σ H s)(k:∀b o,s.heap.get? b=Ya o->h'.get? b=Ya o)(he:h'.get? s.heap.objs.size=Ya (seqObj "list" out e))(hi:xn out.toList ns)(hz:ns.length<=Yu):
  aM X pins σ (upd H s.heap.objs.size (.lst (ns.map V.int))) {s with heap:=h',toks:=tk}:=
 I.laid k (Ym _) #[by rw[Yj];show hz,out.toList,e,z7 hi,he]
theorem HR(hc:X.calm=true):eU X (.builtin "sorted") (λxs H Q=>∃(d:Yc) (m:List (Int×Int)),xs=[.ref d]/\Rd H d (.dK (dI m))/\m.length<64/\∀(l:Yc) (ns:List Int),H l=Yb->ns.Perm (m.map (·.1))->ns.Pairwise (·<=·)->Q (.ref l) (upd H l (.lst (ns.map V.int)))):=by
 intro pins s σ H xs us Q I r h;obtain⟨d,m,rfl,hd,hlen,q⟩:=h;obtain⟨u,rfl,rx⟩:=ij r;cases rx;obtain⟨z,hS,vs,rel,dd⟩:=kP I.hok hd;obtain⟨ep,hat⟩:=dd.dictAt;have hl:vs.length=m.length:=by rw[←rel.length,ur]
 show GX.AJ (amM _) (PySem.W.kdu_collect (A:=X.A.in1) (alr (knd:=bB X.prog X.w) (kvs:=vs) (ep:=ep) hS) (I.ok.hd hc) hat (by rw[hl];show tm (aN (by omega))) λh' tk acc hk hacc=>?_);have hi:xn acc.toList (m.map (·.1)):=Ak (P:=X.prog) (w:=X.w) rel (by rw[mr];show hacc.1) λj v e=>hacc.2 j v (by rw[←uc];show e);have ha:acc.toList.length=m.length:=by rw[hi.length,Yj]
 have I1:aM X pins σ H {s with heap:=h',toks:=tk}:=I.kept hk;show Gm hi (by rw[ha];show hlen) (by rw[ha];show tm (aN (by omega))) λh2 out ns' e k2 he a1 a2 a3=>?_;have ln:ns'.length<=Yu:=by rw[a2.length_eq,Yj];show tm (aN (by omega))
 show#[.ref h'.objs.size,_,I1.lay_ints (tk:=tk) k2 he a1 ln,rfl,q _ ns' (I1.hok.fresh (Ym _)) a2 a3]
theorem Nt:eU X (.type "dict") (λxs H Q=>∃(d:Yc) (kvs:List (cj×V)),xs=[.ref d]/\Rd H d (.dK kvs)/\∀p,H p=Yb->Q (.ref p) (upd H p (.dK kvs))):=by
 intro pins s σ H xs us Q I r h;obtain⟨d,kvs,rfl,hd,q⟩:=h;obtain⟨u,rfl,rx⟩:=ij r;cases rx;show UG I hd λp s' hp I'=>#[.ref p,_,I',rfl,q p hp]
theorem Mp:eU X (.builtin "len") (λxs H Q=>∃(a:Yc) (kvs:List (cj×V)),xs=[V.ref a]/\Rd H a (.dK kvs)/\Q (.int kvs.length) H):=by
 intro pins s σ H xs us Q I r h;obtain⟨a,kvs,rfl,ha,q⟩:=h;obtain⟨u,rfl,ru⟩:=ij r;cases ru;show aey I ha λt s' I'=>#[.int kvs.length,H,I',#[_,rfl],q]
def Pr(H:Hp)(x:V)(p:Int×Int):Prop:=∃a,x=.ref a/\H a=Ya (.tup [.int p.1,.int p.2])
abbrev qP(H:Hp):List V->List (Int×Int)->Prop:=Aq (Pr H)
theorem qP.mono{H':Hp}(h:∀a xs,H a=Ya (.tup xs)->H' a=Ya (.tup xs))(r:qP H xs ps):qP H' xs ps:=Aq.mapP r λ_ _ ⟨a,e1,e2⟩=>#[a,e1,h a _ e2]
theorem qP.snoc{x:V}{p:Int×Int}:∀{xs:List V} {ps:List (Int×Int)},qP H xs ps->Pr H x p->qP H (xs++[x]) (ps++[p]):=by
 intro x0 x1 w h
 induction w with
 |nil=>show .cons h .nil
 |cons r _ ih=>show .cons r ih
theorem qP.get:∀{xs:List V} {ps:List (Int×Int)} {i:Nat} {x:V},qP H xs ps->xs[i]?=Ya x->∃p,ps[i]?=Ya p/\Pr H x p:=by
 intro a b i x w
 induction w generalizing i with
 |nil=>show λe=>by simp at e
 |cons r _ ih=>
  intro e;cases i with
  |zero=>simp at e;subst e;show#[_,rfl,r]
  |succ i=>
   obtain⟨p,h1,h2⟩:=ih (i:=i) (by simpa using e);show#[p,by simpa using h1,h2]
theorem qP.len(r:qP H xs ps):xs.length=ps.length:=Y2 r
end
section
theorem IA{A:sq}{s:Yi}{n:List (Int×Int)}{ws:List (cj×Yd)}(rn:KV (dI n) ws):∀{m:List (Int×Int)} {vs:List (cj×Yd)},KV (dI m) vs->(∀p∈m,Cb n p.1=Ya p.2)->PySem.W.KeqHits A s ws vs true
 |[],_,r,_=>by
  have r':KV [] _:=r;cases r';show .nil
 |p::m,vs,r,h=>by
  have r':KV ((YG p.1,V.int p.2)::dI m) vs:=r;cases r' with
  |cons r1 r2=>
   rename_i q qs;obtain⟨k,v⟩:=q;have ek:(YG p.1:cj)=k:=r1.1;subst ek;obtain⟨t,ev⟩:=(show∃t,v=agI p.2 t from r1.2);subst ev;have z:=rn.val (YG p.1);rw[Iw,h p Yy]at z;obtain⟨y,hy,ry⟩:=mY.some_of z;obtain⟨t',ey⟩:=(show∃t,y=agI p.2 t from ry);subst ey;have e:=SeqAt.EqAt.int_int (A:=A) (s:=s) p.2 t p.2 t';have rest:=IA (A:=A) (s:=s) rn r2 λq hq=>h q (Yx _ hq);have:=PySem.W.KeqHits.hit hy e rest;rw[beq_self_eq_true,aiM]at this;show this
def aaZ(b:Bool):R2:=λx y H Q=>∃(a c:Yc) (m n:List (Int×Int)),x=.ref a/\y=.ref c/\Rd H a (.dK (dI m))/\Rd H c (.dK (dI n))/\m.length=n.length/\(∀p∈m,Cb n p.1=Ya p.2)/\Q (.bl b) H
theorem abM(hu:X.A.units<ab0):sI X (xk .Eq) (aaZ true):=by
 intro pins s σ H x y v u Q I rx ry h;obtain⟨a,c,m,n,rfl,rfl,ha,hb,hl,hp,q⟩:=h;cases rx;cases ry;obtain⟨_,s1,vs,r1,d1⟩:=kP I.hok ha;obtain⟨_,s2,ws,r2,d2⟩:=kP I.hok hb;have e1:vs.length=ws.length:=by rw[←r1.length,←r2.length,ur,ur,hl]
 show PySem.W.keq_eq s1 s2 d1 d2 hu (r:=true) (λ_=>IA r2 r1 hp) #[.bl true,H,I,?_,q];rw[e1,beq_self_eq_true];rfl
theorem J0:∀(ps acc:List (Int×Int)),((acc++ps).map (·.1)).Nodup->Af (dI acc) (dI ps)=dI (acc++ps)
 |[],acc,_=>by rw[Y4];rfl
 |p::ps,acc,h=>by
  change Af (iP (dI acc) (YG p.1) (V.int p.2)) (dI ps)=_;have h1:(acc.map (·.1)).Nodup:=by
   rw[YD]at h;show(aec.mp h).1
  have h2:(acc.any λq=>decide (q.1=p.1))=false:=by
   rw[aiU];intro q hq z;have z':=of_decide_eq_true z;rw[YD,YL]at h;show(aec.mp h).2.2 q.1 (xj (f:=(·.1)) hq) p.1 Yy z'
  rw[VR acc p.1 p.2 h1,Jr acc p.1 p.2 h2,J0 ps (acc++[(p.1,p.2)]) (by rw[aem];show h),aem];rfl
theorem SG(I:aM X pins σ H s):∀{xs:List V} {us:List Yd} {ps:List (Int×Int)},qP H xs ps->Vals xs us->
  ∃kx:List (cj×Yd),KV (dI ps) kx/\kx.length=us.length/\∀(i:Nat) v,us[i]?=Ya v->∃a key k x o c,v=.ref a/\kx[i]?=Ya (k,x)/\(bB X.prog X.w).is k key=true/\s.heap.get? a=Ya o/\o.cls=.type "tuple"/\o.data=.seq (afs [key,x]) c:=by
 intro xs us ps w
 induction w generalizing us with
 |nil=>
  intro w;cases w;show#[[],.nil,rfl,λi v e=>by simp at e]
 |@cons x p xs ps h t ih=>
  intro w;cases w with|cons r q=>
  rename_i u us;obtain⟨kx,k1,k2,k3⟩:=ih q;obtain⟨a,rfl,ha⟩:=h;obtain rfl:u=Yv a:=r;obtain⟨_,its,rv,o,ho,hc,n,hd,_⟩:[V.int p.1,V.int p.2].length<=Yu/\∃its:List Yd,Vals [V.int p.1,V.int p.2] its/\qc s.heap a its.toArray:=I.hok a _ ha;obtain⟨u1,u2,rfl,r1,r2⟩:=Hu rv;obtain⟨t1,rfl⟩:=r1;show#[(YG p.1,u2)::kx,.cons #[rfl,r2] k1,congrArg (·+ 1) k2,λi v e=>?_];cases i with
  |zero=>
   have e':Yv a=v:=YM e;subst e';show#[a,_,_,u2,o,n,rfl,rfl,tP X.prog X.w p.1 t1,ho,hc,hd]
  |succ i=>show k3 i v e
theorem Mx(hc:X.calm=true):eU X (.type "dict") (λxs H Q=>∃(a:Yc) (ys:List V) (ps:List (Int×Int)),xs=[.ref a]/\H a=Ya (.lst ys)/\qP H ys ps/\(ps.map (·.1)).Nodup/\ps.length<=1000/\∀p,H p=Yb->Q (.ref p) (upd H p (.dK (dI ps)))):=by
 intro pins s σ H xs us Q I r h;obtain⟨a,ys,ps,rfl,ha,hp,nd,hl,q⟩:=h;obtain⟨u,rfl,rx⟩:=ij r;cases rx;obtain⟨z,its,n,rv,hlen,e⟩:=I.lstM ha;obtain⟨kx,k1,k2,k3⟩:=SG I hp rv;show GX.y4 (knd:=bB X.prog X.w) (I.ok.hd hc) e (by rw[←hlen];show z) k2 k3 λh' tk kp dd=>?_;have rel:KV (dI ps) (ajc [] kx):=by
  have:=KV.merge k1 (show KV (dI []) []from .nil);rw[J0 ps [] (by simpa using nd)]at this;show this
 show#[.ref s.heap.objs.size,_,I.laid (t':=tk) kp (Ym _) (Hz ?_ (beq_eq_false_iff_ne.mpr (Ne.symm (YB I.big))) rel dd),rfl,q _ (I.hok.fresh (Ym _))];rw[ur];show tm (aN hl)
def ac6(K:Ye)(tl:TE):TI:=λσ H R=>tl σ H λx H1=>∃a,x=.ref a/\(((∃xs,bZ K H1 a xs)/\R (U0 K a) H1)∨((∃xs,c8 K H1 a xs)/\R (Wr K a) H1))
theorem abC{tg l:YY}{tl:TE}(hl:PE X l tl):PI X tg l (ac6 X.K tl):=by
 intro pins s σ H R I h;show cR (hl pins s σ H _ I h) λv s1 zz=>?_;obtain⟨x,H1,I1,r1,q1⟩:=zz;obtain⟨a,e,q1⟩:=q1;subst e;cases r1;have fp:∀b∈[s1.heap.objs.size],ya X pins H1 b:=λb hb=>by
  have e:b=s1.heap.objs.size:=by simpa using hb
  subst e;show I1.fpOk (Ym _) (I1.hok.fresh (Ym _))
 rcases q1 with⟨⟨xs,hq⟩,q⟩|⟨⟨xs,hq⟩,q⟩
 .obtain⟨its,rv,p,hz⟩:=I1.list hq;show afG p.isList ?_;show#[s1.heap.objs.size,[s1.heap.objs.size],_,_,H1,rfl,I1.kept (t':=s1.toks) λb o e=>Yg _ e,Gf a _,#[_,Ys _ rfl,rfl,rfl],fp,q]
 .obtain⟨its,rv,p,hz⟩:=I1.tuple hq;show wpAny_pyIter_tuple (show s1.heap.IsTuple a its.toArray from p) ?_;show#[s1.heap.objs.size,[s1.heap.objs.size],_,_,H1,rfl,I1.kept (t':=s1.toks) λb o e=>Yg _ e,NB a _,#[_,Ys _ rfl,rfl,rfl],fp,q]
end
theorem UD{K:Ye}{g:TG}{tt:TT}{te:TE}{D:Yc}{Qe:Hp->Prop}(Pv:Nat->St->Hp->Prop)(h0:Pv 0 σ H)(hl:∀i σ H,i<=xs.length->Pv i σ H->c8 K H a xs)(hs:∀i x σ H,xs[i]?=Ya x->Pv i σ H->j8 g tt te D (Pv (i+ 1)) x σ H)(hd:∀σ H,Pv xs.length σ H->Qe H):
  ∃W:Nat->Nat->St->Hp->Prop,(∃m,W 0 m σ H)/\∀i m σ' H',W i m σ' H'->((Wr K a).stop i H'/\Qe H')∨((Wr K a).go i H'/\∃N:St->Hp->Prop,(∀σ2 H2,N σ2 H2->∃m',m'<m/\W (i+ 1) m' σ2 H2)/\
   ∀x H'',(Wr K a).yld i H' x H''->j8 g tt te D N x σ' H''):=by
 show#[λi m σ H=>m=xs.length-i/\i<=xs.length/\Pv i σ H,#[xs.length,by simp,Y1 _,h0],?_];rintro i m σ H ⟨rfl,hi,p⟩;have q:=hl i σ H hi p;by_cases hlt:i<xs.length
 .show .inr #[#[xs,xs[i],q,by simp[hlt]],Pv (i+ 1),λσ' H' p'=>#[xs.length-(i+ 1),by omega,rfl,hlt,p'],λx H' y=>?_];obtain⟨e,y⟩:=y;subst e;show hs i x σ _ (y xs q) p
 .have e:i=xs.length:=by omega
  subst e;show .inl #[#[xs,q,Ym _],hd σ H p]
theorem KV.get{kvs:List (cj×V)}{vs:List (cj×Yd)}:∀{i:Nat} {k:cj} {v:V},KV kvs vs->kvs[i]?=Ya (k,v)->∃u,vs[i]?=Ya (k,u)/\RelV v u:=by
 intro i k v r
 induction r generalizing i with
 |nil=>intro e;simp at e
 |cons r1 r2 ih=>
  rename_i p q _ _;intro e;cases i with
  |zero=>
   have e':p=(k,v):=YM e;subst e';obtain⟨k',u⟩:=q;have ek:k=k':=r1.1;subst ek;show#[u,rfl,r1.2]
  |succ i=>show ih e
theorem aM.turnLay{it:Yc}{o:HO}(I:aM X pins σ H s)(k:∀b o,b≠it->s.heap.get? b=Ya o->h'.get? b=Ya o)(hf:ya X pins H it)(hio:∃o,h'.get? it=Ya o)(ha:s.heap.objs.size<=a)(hai:a≠it)(new:cO X.prog X.w (upd H a o) h' a o):aM X pins σ (upd H a o) {s with heap:=h'}:=by
 obtain⟨f0,f1,f2,f3,f4,f5⟩:=hf;have hn:H a=none:=I.hok.fresh ha;have nea:∀b ob,s.heap.get? b=Ya ob->b≠a:=λb ob e z=>by
  have:=Yt e;rw[z]at this;show absurd (YT this ha) (Y7 _)
 have nit:∀b u,H b=Ya u->b≠it:=λb u e z=>by rw[z,f0]at e;cases e
 show I.step (g':=s.gens) (d':=s.drawn) (t':=s.toks) (ch:=[it]) (λb hb=>?_) (λb o _ _ hc e _=>k b o (λz=>hc (by simp[z])) e) (λb o _ _ hc e _=>#[o.slots,k b o (λz=>hc (by simp[z])) e]) (λb ob _ e n=>by rw[ak (nea b ob e)];show n)
  (λb o hc e=>#[o,k b o (λz=>hc (by simp[z])) e]) (λb xs e=>by rw[ak (au e hn)];show e) (λb o u e=>by rw[ak (au e hn)];show e) (λb ps e=>#[#[],by rw[ak (au e hn),e];simp]) (λm hm=>?_) (λb u e=>?_) I.bare
 .have e:b=it:=by simpa using hb
  subst e;show#[f3,f1,f4,f5]
 .obtain⟨ob,es,ep,ho,r⟩:=hm;show#[ob,es,ep,k _ ob (Ne.symm f1) ho,r]
 .by_cases hb:b=a
  .subst hb;rw[aj]at e;cases e;show new
  .rw[ak hb]at e;show(I.hok b u e).stay (λc v hc q=>k c v ?_ q) (λc q=>by rw[ak (au q hn)];show q) λc xs q=>by rw[ak (au q hn)];show q
   rcases hc with z|z
   .rw[z];show nit b u e
   .show nit c _ z
end L2
namespace GX
open PySem PyProof.Rows
variable{xs:Array Nat}{i j sl p n ep c:Nat}{t t':ais}{h:YO}{b:Bool}{x first:Yd}{prog:YU}{w:YZ}{A:sq}{E Q1:Yd->Yi->Prop}{s:Yi}{a I tp:Yc}{S:Int->Bool}{es es':Array (Int×Yd)}{Q:Option Yd->Yi->Prop}{k:Int}{R:agt->Yi->Prop}{ns:List Int}{M:amC}{o:Y8}{ps:List Nat}
def Sj(xs:Array Nat):Prop:=xs.toList.Pairwise (·<·)
theorem Sj.at(h:Sj xs)(hi:i<j)(hj:j<xs.size):xs.getD i 0<xs.getD j 0:=by
 have:=ahn.mp h i j (by simp;omega) (by simpa using hj) hi;simp only[ah7]at this;rw[YN,YN,YH (by omega),YH hj];show this
theorem Jv(h:i<xs.size)(a b:Nat):xs.getD i a=xs.getD i b:=by
 rw[YN,YN,YH h];rfl
theorem EV{xs:Array Nat}(hr:Sj xs)(j:Nat):∀(fuel lo hi:Nat),lo<=hi->hi<=xs.size->hi-lo<=fuel->(∀i,i<lo->xs.getD i 0<j)->(∀i,hi<=i->i<xs.size->j<=xs.getD i 0)->
  afJ xs j fuel lo hi<=xs.size/\(∀i,i<afJ xs j fuel lo hi->xs.getD i 0<j)/\(∀i,afJ xs j fuel lo hi<=i->i<xs.size->j<=xs.getD i 0)
 |0,lo,hi,h1,h2,h3,h4,h5=>by
  have e:lo=hi:=by omega
  subst e;unfold afJ;show#[h2,h4,h5]
 |fuel+ 1,lo,hi,h1,h2,h3,h4,h5=>by
  unfold afJ;by_cases h:lo<hi
  .rw[if_pos h];have hm:(lo+ hi) / 2<xs.size:=by omega
   change(if xs.getD ((lo+ hi) / 2) j<j then afJ xs j fuel ((lo+ hi) / 2+ 1) hi else afJ xs j fuel lo ((lo+ hi) / 2))<=_/\_;by_cases hc:xs.getD ((lo+ hi) / 2) j<j
   .simp only[if_pos hc];rw[Jv hm j 0]at hc;show EV hr j fuel _ hi (by omega) h2 (by omega) (λi hi'=>?_) h5;rcases agZ i ((lo+ hi) / 2)with z|z
    .have:=hr.at z hm;omega
    .have:i=(lo+ hi) / 2:=by omega
     rw[this];show hc
   .simp only[if_neg hc];rw[Jv hm j 0]at hc;show EV hr j fuel lo _ (by omega) (by omega) (by omega) h4 (λi hi' hs=>?_);rcases agZ ((lo+ hi) / 2) i with z|z
    .have:=hr.at z hs;omega
    .have:i=(lo+ hi) / 2:=by omega
     rw[this];omega
  .rw[if_neg h];have e:lo=hi:=by omega
   subst e;show#[h2,h4,h5]
theorem zC(hr:Sj xs)(j:Nat):nh xs j<=xs.size/\(∀i,i<nh xs j->xs.getD i 0<j)/\(∀i,nh xs j<=i->i<xs.size->j<=xs.getD i 0):=by
 unfold nh;show EV hr j _ 0 _ (Y1 _) (Ym _) (by omega) (λi h=>by omega) (λi h1 h2=>by omega)
theorem Mz(hr:Sj xs)(hi:i<xs.size):nh xs (xs.getD i 0+ 1)=i+ 1:=by
 obtain⟨h1,h2,h3⟩:=zC hr (xs.getD i 0+ 1);rcases ak3 (nh xs (xs.getD i 0+ 1)) (i+ 1)with z|z|z
 .have:=h3 i (by omega) hi;omega
 .show z
 .have q:=h2 (i+ 1) z;have:=hr.at (i:=i) (j:=i+ 1) (by omega) (by omega);omega
theorem NJ(hr:Sj xs):nh xs 0=0:=by
 obtain⟨h1,h2,h3⟩:=zC hr 0;rcases Nat.eq_zero_or_pos (nh xs 0)with z|z
 .show z
 .have:=h2 0 z;omega
def Off(xs:Array Nat)(d:Nat):Prop:=xs[nh xs d]?≠Ya d
theorem Off.no(hr:Sj xs){d:Nat}(h:Off xs d):∀i,i<xs.size->xs.getD i 0≠d:=by
 intro i hi e;obtain⟨h1,h2,h3⟩:=zC hr d;have b1:nh xs d<=i:=by
  rcases agZ i (nh xs d)with z|z
  .have:=h2 i z;omega
  .show z
 have b2:nh xs d=i:=by
  rcases agZ (nh xs d) i with z|z
  .have:=hr.at z hi;have:=h3 (nh xs d) (Ym _) (by omega);omega
  .omega
 apply h;rw[b2,YH hi];rw[YN,YH hi]at e;show congrArg Ya e
theorem J7(h:∀i,t.slot j≠.live i):Off t.place j:=by
 intro z;apply h (nh t.place j);unfold SetTable.slot;simp only[z,beq_self_eq_true,if_true]
theorem Hd(t:ais)(p:amb):(t.advance p).dummy=p.dummy:=by
 unfold SetTable.advance;split<;>rfl
theorem Ac{t:ais}{f:Nat->Int}{h:Int}:∀(fuel:Nat) (p:amb) (j:Nat) (dm:Option Nat),(∀d,p.dummy=Ya d->Off t.place d)->ahH t f h fuel p=Ya (.empty j dm)->Off t.place j/\∀d,dm=Ya d->Off t.place d
 |0,p,j,dm,hp,e=>by
  unfold ahH at e;cases e
 |fuel+ 1,p,j,dm,hp,e=>by
  unfold ahH at e;cases hs:t.slot p.j with
  |empty=>
   rw[hs]at e;dsimp only at e;cases e;show#[J7 (λi z=>by rw[hs]at z;cases z),hp]
  |dummy=>
   rw[hs]at e;dsimp only at e;show Ac fuel _ j dm (λd hd=>?_) e;rw[Hd]at hd;cases hd;show J7 (λi z=>by rw[hs]at z;cases z)
  |live i=>
   rw[hs]at e;dsimp only at e;split at e
   .cases e
   .show Ac fuel _ j dm (λd hd=>hp d (by rw[Hd]at hd;show hd)) e
theorem Sn{h:Int}(e:t.freeSlot h=Ya (sl,b)):Off t.place sl:=by
 unfold SetTable.freeSlot SetTable.probe at e;generalize hg:ahH t (λ_=>h+ 1) h (10*SetTable.turns t.mask) (t.probeStart h)=g at e;cases g with
 |none=>cases e
 |some m=>
  cases m with
  |candidate j i n=>cases e
  |empty j dm=>
   obtain⟨h1,h2⟩:=Ac _ _ j dm (λd hd=>by cases hd) hg;dsimp only at e;have e':=YM e;cases dm with
   |none=>
    have:j=sl:=congrArg Prod.fst e';rw[←this];show h1
   |some d=>
    have:d=sl:=congrArg Prod.fst e';rw[←this];show h2 d rfl
theorem Uy{x:Nat}(h:x∈xs.toList.take p):∃i,i<p/\i<xs.size/\xs.getD i 0=x:=by
 obtain⟨i,hi,e⟩:=agB h;rw[CA,mr]at hi;show#[i,by omega,by omega,?_];rw[List.getElem_take,ah7]at e;rw[YN,YH (by omega)];show e
theorem Hn{x:Nat}(h:x∈xs.toList.drop p):∃i,p<=i/\i<xs.size/\xs.getD i 0=x:=by
 obtain⟨i,hi,e⟩:=agB h;rw[ahT,mr]at hi;show#[p+ i,by omega,by omega,?_];rw[List.getElem_drop,ah7]at e;rw[YN,YH (by omega)];show e
theorem XZ(hr:Sj t.place)(ho:Off t.place sl):Sj (t.put sl).1.place:=by
 obtain⟨h1,h2,h3⟩:=zC hr sl;change(SetTable.insertAt t.place (nh t.place sl) sl).toList.Pairwise (·<·);rw[SetTable.toList_insertAt,List.pairwise_append];show#[hr.sublist (aiX _ _),?_,?_]
 .rw[akI];show#[λx hx=>?_,hr.sublist (List.drop_sublist _ _)];obtain⟨i,a,b,c⟩:=Hn hx;have q1:=h3 i a b;have q2:=ho.no hr i b;omega
 .intro x hx y hy;obtain⟨i,a,b,c⟩:=Uy hx;have q1:=h2 i a;rcases Yq.mp hy with z|z
  .omega
  .obtain⟨i',a',b',c'⟩:=Hn z;have q2:=h3 i' a' b';omega
theorem vh(t:ais)(n:Nat):Sj (t.standIn n).place:=by
 change(Array.range n).toList.Pairwise (·<·);rw[Array.toList_range];show ahL
def Tb(b:Bool)(t:ais):Prop:=Sj t.place/\t.led=b
theorem ac9(h:Tb b t)(es:Array (Int×Yd))(k:Int)(x:Yd):Tb b (layNew t es k x).2.1:=by
 unfold layNew;split
 .rename_i sl wd e;dsimp only;unfold SetTable.orStandIn;split
  .show#[XZ h.1 (Sn e),h.2]
  .show#[vh _ _,h.2]
 .show#[vh _ _,h.2]
theorem Rw{hs:Array Int}{o:Array Nat}(h:Tb b t)(e:t.relaid hs n=Ya (t',o)):Tb b t':=by
 unfold SetTable.relaid SetTable.laid at e;cases hc:SetTable.layClean (SetTable.sizeAbove n-1) hs with
 |none=>rw[hc]at e;cases e
 |some ow=>
  rw[hc]at e;have e':=YM e;have e1:=congrArg Prod.fst e';dsimp only at e1;rw[←e1];show#[?_,h.2];change List.Pairwise _ (akD (afs _));rw[List.toList_toArray,List.map_filterMap];show List.Pairwise.filterMap (R:=(·<·)) _ (λx y hxy a ha c hc=>?_) ahL;simp only[amc,Option.mem_def,ajK]at ha hc;obtain⟨_,_,rfl⟩:=ha;obtain⟨_,_,rfl⟩:=hc;show hxy
theorem SH(h:Tb b t)(es:Array (Int×Yd))(n:Nat):Tb b (als t es n).2.1:=by
 unfold als;split
 .rename_i t' o e;dsimp only;split
  .show Rw h e
  .show#[vh _ _,h.2]
 .show#[vh _ _,h.2]
noncomputable abbrev NR(w:YZ):Bool:=w.params.followText "set-order"
section
def xI(prog:YU)(w:YZ)(h:YO)(a:Yc)(S:Int->Bool)(n:Nat):Prop:=
 ∃o es ep t,h.get? a=Ya o/\o.ExactSet/\o.data=.set es ep t/\ana (aez prog w) es.toList/\(∀k,S k=true↔∃e∈es.toList,(aez prog w).is k e.2=true)/\es.size<ag3/\t.fits es.size=true/\es.size=n/\Tb (!NR w) t
theorem xI.at{h':YO}(x:xI prog w h a S n)(k:∀o,h.get? a=Ya o->h'.get? a=Ya o):xI prog w h' a S n:=by
 obtain⟨o,es,ep,t,ho,r⟩:=x;show#[o,es,ep,t,k o ho,r]
theorem xI.congr{S':Int->Bool}{n':Nat}(x:xI prog w h a S n)(e:∀k,S k=S' k)(en:n=n'):xI prog w h a S' n':=by
 have z:S=S':=funext e;rw[←z,←en];show x
def tX(prog:YU)(w:YZ)(es:Array (Int×Yd))(t:ais)(S:Int->Bool)(n:Nat):Prop:=
 ana (aez prog w) es.toList/\(∀k,S k=true↔∃e∈es.toList,(aez prog w).is k e.2=true)/\es.size<ag3/\t.fits es.size=true/\es.size=n/\Tb (!NR w) t
def JD(h:YO)(a:Yc)(es:Array (Int×Yd))(t:ais):Prop:=∃o ep,h.get? a=Ya o/\o.ExactSet/\o.data=.set es ep t
theorem JD.good(r:JD h a es t)(g:tX prog w es t S n):xI prog w h a S n:=by
 obtain⟨o,ep,r1,r2,r3⟩:=r;show#[o,es,ep,t,r1,r2,r3,g]
theorem JD.put{Q:Unit->Yi->Prop}(r:JD s.heap a es t)(hz:es'.size<ag3)(h:∀h',aaq a s.heap h'->JD h' a es' t'->Q () {s with heap:=h'}):
  Yl (Yn prog w) A (storeSet a es' t') Q E s:=by
 obtain⟨⟨c,d,b,sl⟩,ep,ho,hx,hd⟩:=r;cases hd;show wpAny_storeSet_of ho rfl (h _ (GV ..) #[_,ep+ 1,xt _ ho rfl,hx,rfl]) (aiY hz)
theorem tX.mix(g:tX prog w es t S n)(p:anm es'.toList es.toList)(f:t'.fits es'.size=true)(b:Tb (!NR w) t'):tX prog w es' t' S n:=by
 obtain⟨g1,g2,g3,_,g5,_⟩:=g;have z:es'.size=es.size:=by simpa using p.length_eq
 show#[g1.perm p,λk=>(g2 k).trans #[fun⟨e,u,v⟩=>#[e,p.mem_iff.mpr u,v],fun⟨e,u,v⟩=>#[e,p.mem_iff.mp u,v]],z▸g3,f,z.trans g5,b]
theorem tX.relaid(g:tX prog w es t S n)(m:Nat):tX prog w (als t es m).1 (als t es m).2.1 S n:=
 g.mix (relayAll_perm t es m) (relayAll_fits t es m) (SH g.2.2.2.2.2 es m)
theorem tX.more(g:tX prog w es t S n)(hk:(aez prog w).is k x=true)(hx:x.scannable=true)(room:n+ 1<ag3):
  tX prog w (layNew t es ((aez prog w).hash k) x).1 (layNew t es ((aez prog w).hash k) x).2.1 (λk'=>S k'||decide (k'=k)) (n+ 1):=by
 obtain⟨g1,g2,g3,_,g5,g6⟩:=g;have p:anm _ (es.push ((aez prog w).hash k,x)).toList:=layNew_perm t es ((aez prog w).hash k) x;rw[ak4]at p;have z:(layNew t es ((aez prog w).hash k) x).1.size=n+ 1:=by simpa [g5]using p.length_eq
 show#[(g1.push hk hx).perm p,mem_push_iff hk g2 p,z▸room,layNew_fits t es _ x,z,ac9 g6 es _ x]
theorem Mf{Q:Unit->Yi->Prop}(q:Q () s):Yl (Yn prog w) A (match b with|true=>rule "set.scan.the-table-gave-way"|false=>pure ()) Q E s:=by
 cases b
 .show Yk q
 .show akk q
theorem XD{u:agl}{Q:Bool->Yi->Prop}(x:xI prog w s.heap a S n)(room:n+ 1<ag3)(h:∀h' b,aaq a s.heap h'->xI prog w h' a (λk'=>S k'||decide (k'=k)) (if S k then n else n+ 1)->Q b {s with heap:=h'}):
  Yl (Yn prog w) A (amN a (.int k u) ((aez prog w).hash k)) Q E s:=by
 obtain⟨o,es,ep,t,ho,hx,hd,g⟩:=x;have g0:tX prog w es t S n:=g;obtain⟨he,hm,hb,hf,hn,tb⟩:=g;have hk:(aez prog w).is k (.int k u)=true:=intKind_is _ _ _ _;rw[amN,setAddHashedIn];apply xu;apply Yf;apply aeo ho hd hf;dsimp only;rw[byScan_of rfl hb he,if_pos rfl]
 wp_walk using wpAny_setScan_of hk ho hd hf he
 cases hr:List.findIdx? (λe=>(aez prog w).is k e.2) es.toList with
 |some j=>
  obtain⟨lt,is,_⟩:=List.findIdx?_eq_some_iff_getElem.mp hr;have sk:S k=true:=(hm k).mpr #[_,ahU lt,is]
  wp_walk
  show h s.heap false (.refl a _) (JD.good #[o,ep,ho,hx,hd] ?_);rw[if_pos sk,show(λk'=>S k'||decide (k'=k))=S from funext λk'=>?_]
  .show g0
  .by_cases e:k'=k
   .rw[e,sk];rfl
   .rw[decide_eq_false e,akt]
 |none=>
  have sk:¬ S k=true:=λz=>by
   obtain⟨e,u,v⟩:=(hm k).mp z;show absurd v (by simpa using List.findIdx?_eq_none_iff.mp hr e u)
  have g1:=g0.more hk rfl room;rw[if_neg sk]at h;dsimp only;generalize layNew t es ((aez prog w).hash k) (.int k u)=L at g1⊢;obtain⟨es1,t1,wd,gv⟩:=L;show Yf (Mf ?_);dsimp only;rw[hashByValue_scannable 8 (x:=.int k u) rfl];split
  all_goals
   show Yf (Yk ?_);rw[if_pos (by rfl)];show Yf (JD.put #[o,ep,ho,hx,hd] g1.2.2.1 λh1 s1 r1=>?_);split
   .have g2:=g1.relaid (SetTable.grown es1.size);show Yf (Mf (Yf (JD.put (s:={s with heap:=h1}) r1 g2.2.2.1 λh2 s2 r2=>?_)))
    wp_walk
    show h h2 true (s1.trans s2) (r2.good g2)
   .wp_walk
    show h h1 true s1 (r1.good g1)
theorem KQ(S I:Yc):al7 prog w (xb.«set.update.loop» #[[.ref S,.ref I],[]]) λA R s=>Yl (Yn prog w) A.in1 (adi (.ref I)) (λr s=>match r with
  |none=>R (.ok (.ret .none)) s
  |some v=>Yl (Yn prog w) A.in1 (setAdd S v) (λ_ s=>rl (Yn prog w) A (.builtin "set.update.loop" #[[.ref S,.ref I],[]]) R s) (λ_ _=>False) s) (λ_ _=>False) s:=by
 intro A R s nx;change Yl _ _ (adi (.ref I) >>= _) _ _ s;apply Yf;show pk nx (λr s1 h=>?_) λ_ _ z=>z.elim;rcases r with _|v
 .wp_walk
  show h
 .wp_walk using pk h
  .show λ_ _ e=>Yk #[afK af9 _,e]
  .show λ_ _ z=>z.elim
theorem Uw{S:Yc}{fp wr:List Yc}{P:Nat->Yd->Prop}{St:Nat->YO->Prop}(W:ajH prog w A.in1 I fp wr n P St)(nS:S∉fp)(val:Nat->Int)(hv:∀i v,P i v->∃t,v=.int (val i) t)(hb:n+ 1<ag3):
  ∀(k i:Nat) (s:Yi),n=i+ k->St i s.heap->xI prog w s.heap S (λk'=>(agT val i).any (·==k')) (agT val i).length->
   (∀h' tk,(∀b o,b∉wr->b≠S->s.heap.get? b=Ya o->h'.get? b=Ya o)->xI prog w h' S (λk'=>(agT val n).any (·==k')) (agT val n).length->R (.ok (.ret .none)) {s with heap:=h',toks:=tk})->
   rl (Yn prog w) A (.builtin "set.update.loop" #[[.ref S,.ref I],[]]) R s:=by
 have nW:S∉wr:=λz=>nS (W.sub _ z);intro k
 induction k with
 |zero=>
  intro i s en st x fin;obtain rfl:n=i:=en;show enter ahs af9 (KQ S I) (W.done s _ _ st λh tk kp=>fin h tk (λb o nb _ e=>kp b o nb e) (x.at λo e=>kp S o nW e))
 |succ k ih=>
  intro i s en st x fin;show enter ahs af9 (KQ S I) (W.item i s _ _ (by omega) st λv h tk pv st1 kp=>?_);obtain⟨t,rfl⟩:=hv i v pv;have len:=firstMet_length_le val i;change Yl _ _ (setAdd S (.int (val i) t)) _ _ _;unfold setAdd;show xu (Yf ((aez prog w).pyHash (k:=val i) (intKind_is _ _ _ _) (XD (s:={s with heap:=h,toks:=tk+ 1}) (x.at λo e=>kp S o nW e) (by omega) λh2 b sb x2=>?_)));show ih (i+ 1) {s with heap:=h2,toks:=tk+ 1} (by omega) (W.frame _ _ _ st1 λb hb o e=>(sb.2 b λz=>nS (z▸hb)).trans e) (x2.congr (λk'=>?_) ?_) λh3 tk3 k3 x3=>fin h3 tk3 (λb o nb nb' e=>k3 b o nb nb' ((sb.2 b nb').trans (kp b o nb e))) x3
  .rw[akv,step_any]
  .rw[akv,step_length]
theorem WA(a:Yd)(h:Q1 (.ref s.heap.objs.size) {s with heap:=s.heap.push {cls:=.type "set",dict:=Yb,data:=.set #[] 0 (.fresh 0 0 (!NR w))}}):
  rl (Yn prog w) A (.call (.builtin "set.__new__") #[[.type "set",a],[]]) (amF Q1 E) s:=by
 show aaF PySem.F.plain_set_new PySem.F.entry_set_new (agp (PySem.F.newCall_set_1 a) ?_);have sub:=sub_set_self;obtain⟨hp,g,d,tk,os⟩:=s
 wp_walk using agz
 show h
theorem K5{T newId initId:String}{args:List Yd}{Q:Yd->Yi->Prop}(ft:TypeCalled T newId initId)(ct:checkTypeCall T #[args,[]]=pure ())(new:rl (Yn prog w) A.in1 (.call (.builtin newId) #[.type T::args,[]]) (amF Q1 E) s)(init:∀v s1,Q1 v s1->s1.TypeIs v T/\rl (Yn prog w) A.in1 (.call (.builtin initId) #[v::args,[]]) (amF (λr s2=>r=.none/\Q v s2) E) s1):Yl (Yn prog w) A (call (.type T) args) Q E s:=by
 obtain⟨_,_,_⟩:=ft.mro;have:=ft.notType;have:=ft.canCreate;have:=ft.made;have:=ft.sub;show afn (alQ (Yk #[aht _ (by decide +kernel),ah5 PySem.F.entry_type_call ?_]));rw[Around.under_plain (weight_type_call_type T args []) rfl]
 repeat' first|assumption|wp_step
 show codeAny_mono new λr s1 h=>?_
 match r,h with
 | .error _,h=>show h
 | .ok (.ret v),h=>
  obtain⟨ty,c⟩:=init v s1 h;have:=ft.init.lookup;have:=ft.init.bind v
  repeat' first|assumption|wp_step
  show codeAny_mono c λr s2 h=>?_
  match r,h with
  | .error _,h=>show h
  | .ok (.ret _),h=>
   obtain⟨rfl,_⟩:=h
   repeat' first|assumption|wp_step
end
theorem c5:amL "set_iterator" "__next__" "set_iterator.__next__":=
 .of (owner:="set_iterator") (n:="__next__") (by rw[alR,aj3];kernel_rfl) (by decide +kernel) (by decide +kernel) (by decide +kernel) (by first|show .inl (by decide +kernel)|show .inr (by decide +kernel)) (by rw[ahA];kernel_rfl)
theorem oS:agS aix "set_iterator.__next__"=Ya xb.«set_iterator.__next__»:=alq (by kernel_rfl)
theorem nG(a:Yd):agy "set_iterator.__next__" #[[a],[]]:=by unfold agy;kernel_rfl
theorem Bd:amL "set_iterator" "__iter__" "set_iterator.__iter__":=
 .of (owner:="set_iterator") (n:="__iter__") (by rw[alR,aj3];kernel_rfl) (by decide +kernel) (by decide +kernel) (by decide +kernel) (by first|show .inl (by decide +kernel)|show .inr (by decide +kernel)) (by rw[ahA];kernel_rfl)
theorem KR:agS aix "set_iterator.__iter__"=Ya xb.«dict_keyiterator.__iter__»:=amd (id':="dict_keyiterator.__iter__") (by kernel_rfl) rfl (by decide +kernel) (by kernel_rfl)
theorem K9(a:Yd):agy "set_iterator.__iter__" #[[a],[]]:=by unfold agy;kernel_rfl
theorem Kx:agS aix "set.__iter__"=Ya xb.«frozenset.__iter__»:=amd (id':="frozenset.__iter__") (by kernel_rfl) rfl (by decide +kernel) (by kernel_rfl)
noncomputable abbrev Ms(w:YZ)(h:YO):YO:=h.push {cls:=.type "set",dict:=Yb,data:=.set #[] 0 (.fresh 0 0 (!NR w))}
section
theorem Ln{l:Yc}{items:Array Yd}{Q:Yd->Yi->Prop}(hh:A.handled=Yb)(hl:s.heap.IsList l items)(hi:xn items.toList ns)(hb:items.size+ 1<ag3)(h:∀h' tk,xI prog w h' s.heap.objs.size (λk'=>(agT (λi=>ns.getD i 0) items.size).any (·==k')) (agT (λi=>ns.getD i 0) items.size).length->(∀b o,s.heap.get? b=Ya o->h'.get? b=Ya o)->Q (.ref s.heap.objs.size) {s with heap:=h',toks:=tk}):
  Yl (Yn prog w) A (call (.type "set") [.ref l]) Q E s:=by
 obtain⟨⟨oc,od,odt,osl⟩,hol,hcl,nl,hdl⟩:=id hl;cases hcl;cases hdl;have lS:l<s.heap.objs.size:=Yt hol;show K5 akJ (PySem.F.typeCall_set_1 _) (WA (.ref l) (Q1:=λv s1=>v=.ref s.heap.objs.size/\s1={s with heap:=Ms w s.heap}) #[rfl,rfl]) ?_;rintro _ _ ⟨rfl,rfl⟩;have new:(Ms w s.heap).get? s.heap.objs.size=Ya {cls:=.type "set",dict:=Yb,data:=.set #[] 0 (.fresh 0 0 (!NR w))}:=Ys _ rfl;have old:(Ms w s.heap).get? l=Ya {cls:=.type "list",dict:=od,data:=.seq items nl,slots:=osl}:=Yg _ hol;have size:(Ms w s.heap).objs.size=s.heap.objs.size+ 1:=afj ..;have ty:xf {s with heap:=Ms w s.heap} (.ref s.heap.objs.size) "set":=#[_,new,rfl];show#[ty,aaF akJ.init.plain PySem.F.entry_set_init (check_set_init_1 ty ?_)];have:=PySem.F.sub_list_set;have:=PySem.F.sub_list_frozenset;have nd:(xi "list"==xi "dict")=false:=by decide
 have grown:∀b o,s.heap.get? b=Ya o->(Ms w s.heap).get? b=Ya o:=λb o e=>Yg _ e;generalize Ms w s.heap=h1 at new old size ty grown⊢;have il:h1.IsList l items:=#[_,old,rfl,nl,rfl]
 wp_walk using afG il
 have nf:s.heap.objs.size∉[h1.objs.size,l]:=by
  rw[size];intro z;rcases Yq.mp z with z|z
  .show absurd z (YB (afS _))
  .show agu lS (Yo.mp z)
 show Uw (ai2 (by simpa using hh) _ l (by rw[size];show YB (agU lS)) items) nf (λi=>ns.getD i 0) (λi v hv=>IntsAre.int_at hi i v (by rw[uc];show hv)) hb items.size 0 _ (by omega)
  #[#[_,Ys _ rfl,rfl,rfl],il.push _] #[_,#[],0,_,Yg _ new,#[rfl,rfl,rfl],rfl,λe he=>by simp at he,λk=>by simp[firstMet_zero],by decide,by rfl,rfl,#[List.Pairwise.nil,rfl]] λh2 tk kp x=>?_
 wp_walk
 show#[rfl,h h2 tk x λb o e=>?_];have lb:=Yt e;show kp b o (λz=>?_) (YB lb) (Yg _ (grown b o e));rw[Yo.mp z,size]at lb;show absurd lb (alS.mpr (aeO _))
end
section
theorem xW{α:Type}:∀{xs:List α} {i:Nat} (h:i<xs.length),(xs[i]::xs.eraseIdx i).Perm xs
 |x::xs,0,_=>.refl _
 |x::xs,i+ 1,h=>(aj4 x (xs[i]'(ajS h)) _).trans ((xW (xs:=xs) (i:=i) (ajS h)).cons x)
theorem Rt{src:Source}{Q:Nat->Yi->Prop}(hn:n≠0)(h:∀i d,i<n->Q i {s with drawn:=d}):Yl M A (choose src n) Q E s:=fun Γ p _=>by
 unfold choose;rw[Sem.wp_choose];show#[hn,h _ _ (anj _ (Nat.pos_of_ne_zero hn))]
theorem Qb{α:Type}{M:amC}:∀(n:Nat) (xs:List α) (s:Yi) (Q:List α->Yi->Prop),xs.length=n->(∀ys d,ys.Perm xs->Q ys {s with drawn:=d})->Yl M A (amo n xs) Q E s
 |0,xs,s,Q,hl,h=>by
  have e:xs=[]:=aaM hl;subst e;unfold amo;show Yk (h [] s.drawn .nil)
 |n+ 1,[],s,Q,hl,h=>by cases hl
 |n+ 1,x::xs,s,Q,hl,h=>by
  unfold amo;show Yf (Rt (by simp) λi d hi=>?_);rw[Yw hi];dsimp only;show Yf (Qb n _ _ _ (by rw[aiN hi,hl];rfl) λys d' pm=>?_);show Yk (h _ d' ((pm.cons _).trans (xW hi)))
theorem ON{α:Type}(f:Nat->Nat):∀(n k:Nat) (xs:List α) (out:Array α),xs.length=n->(pickOrder.go f n k xs out).toList.Perm (out.toList++xs)
 |0,k,xs,out,hl=>by
  have e:xs=[]:=aaM hl;subst e;unfold pickOrder.go;rw[Y4]
 |n+ 1,k,xs,out,hl=>by
  unfold pickOrder.go;have hi:f k%xs.length<xs.length:=anj _ (by omega);rw[Yw hi];dsimp only;show(ON f n (k+ 1) _ _ (by rw[aiN hi,hl];rfl)).trans ?_;rw[ak4,aem];show anb _ (xW hi)
theorem RU{α:Type}(f:Nat->Nat)(xs:Array α):(ahX f xs).toList.Perm xs.toList:=by
 have:=ON f xs.size 0 xs.toList #[] (by simp);simpa [ahX]using this
end
section
noncomputable def BV(first:Yd)(i:Nat)(a:Yc)(n ep:Nat):Y8:={cls:=.type "set_iterator",dict:=Yb,data:=.fields (afs [first,.int i 0,.ref a,.int n 0,.int ep 0]),slots:=#[]}
theorem wR(h:YO)(hI:h.get? I=Ya (BV first i a n ep))(k:Nat)(x:Yd):(h.update I (ahc (·.setIfInBounds k x))).get? I=Ya {cls:=.type "set_iterator",dict:=Yb,data:=.fields (((afs [first,.int i 0,.ref a,.int n 0,.int ep 0]):Array Yd).setIfInBounds k x),slots:=#[]}:=
 xt _ hI rfl
theorem gL(hI:s.heap.get? I=Ya (BV first i a es.size ep)):s.TypeIs (.ref I) "set_iterator":=#[_,hI,rfl]
theorem yC{sl:Int}{nx:Nat}(hI:s.heap.get? I=Ya (BV (.int sl 0) i a es.size ep))(ho:s.heap.get? a=Ya o)(hd:o.data=.set es ep t)(hf:t.fits es.size=true)(hn:∀(A:sq) (E:Yd->Yi->Prop) (Q':Option (Yd×Nat)->Yi->Prop),Q' (Ya (x,nx)) s->Yl (Yn prog w) A (ait a sl.toNat i ep) Q' E s)(h:∀h',h'.get? I=Ya (BV (.int nx 0) (i+ 1) a es.size ep)->aaq I s.heap h'->Q (Ya x) {s with heap:=h'}):Yl (Yn prog w) A (adi (.ref I)) Q E s:=by
 unfold adi;show Yf (agg (afL (name:=xl "__next__") (gL hI) c5 (afh c5 (gL hI) oS ?_ (nG _))));unfold xb.«set_iterator.__next__»;show Yf (Yk (Yf (aiu hI rfl ?_)));change Yl _ _ (akl a >>= _) _ _ _;show Yf (agC ho hd hf ?_);change Yl _ _ (if(((es.size:Nat):Int) !=((es.size:Nat):Int))=true then _ else _) _ _ _;rw[if_neg (by simp)];change Yl _ _ (ait a sl.toNat ((i:Int)).toNat ((ep:Int)).toNat >>= _) _ _ _;rw[YK,YK];show Yf (hn _ _ _ ?_);change Yl _ _ (aiv (.ref I) 0 (rawInt nx) >>= _) _ _ _;show Yf (ag0 hI rfl (by simp) ?_);have h1:=wR s.heap hI 0 (rawInt nx);show Yf (ag0 (s:={s with heap:=s.heap.update I (ahc (·.setIfInBounds 0 (rawInt nx)))}) h1 rfl (by simp) ?_);show Yk #[_,rfl,Yk (h _ ?_ ((GV ..).trans (GV ..)))];show xt _ h1 rfl
theorem Lu{Q:ajg->Yi->Prop}(hh:A.handled=Yb)(h:∀h' e,(∀b o,s.heap.get? b=Ya o->h'.get? b=Ya o)->(∃o,h'.get? e=Ya o/\o.cls=.type "StopIteration")->E (.ref e) {s with heap:=h'}):
  Yl M A (newExc (.type "StopIteration") [] >>= λe=>alu e) Q E s:=by
 show Yf ?_;simp only[newExc,newTuple];show Yf (abx ?_ (by size_fits));show Yf (m:=ame _ _) (agp (a:=abl) (by first|rfl|(simp only[ame];rfl)) ?_);show abx ?_ (by size_fits);show akx hh (h _ _ (λb o e=>Yg _ (Yg _ e)) #[_,Ys _ rfl,rfl])
theorem zp{sl:Int}(hh:A.handled=Yb)(hI:s.heap.get? I=Ya (BV (.int sl 0) i a es.size ep))(ho:s.heap.get? a=Ya o)(hd:o.data=.set es ep t)(hf:t.fits es.size=true)(hn:∀(A:sq) (E:Yd->Yi->Prop) (Q':Option (Yd×Nat)->Yi->Prop),Q' Yb s->Yl (Yn prog w) A (ait a sl.toNat i ep) Q' E s)(h:∀h',(∀b o,b≠I->s.heap.get? b=Ya o->h'.get? b=Ya o)->Q Yb {s with heap:=h'}):Yl (Yn prog w) A (adi (.ref I)) Q E s:=by
 unfold adi;show Yf (agg (afL (name:=xl "__next__") (gL hI) c5 (afh c5 (gL hI) oS ?_ (nG _))));unfold xb.«set_iterator.__next__»;show Yf (Yk (Yf (aiu hI rfl ?_)));change Yl _ _ (akl a >>= _) _ _ _;show Yf (agC ho hd hf ?_);change Yl _ _ (if(((es.size:Nat):Int) !=((es.size:Nat):Int))=true then _ else _) _ _ _;rw[if_neg (by simp)];change Yl _ _ (ait a sl.toNat ((i:Int)).toNat ((ep:Int)).toNat >>= _) _ _ _;rw[YK,YK];show Yf (hn _ _ _ ?_);change Yl _ _ (aiv (.ref I) 2 .none >>= _) _ _ _;show Yf (ag0 hI rfl (by simp) ?_);show Lu (A:=A.in1) hh λh' e kp zz=>?_;obtain⟨oe,q1,q2⟩:=zz;show Yf (ajl (T:="StopIteration") (b:=true) #[oe,q1,q2] amf ?_);show Yk (h h' λb ob nb e=>kp b ob ((gm _ _ (Ne.symm nb)).trans e))
theorem HW{k:Nat}{hk:Int}(hI:s.heap.get? I=Ya (BV (.ref tp) i a es.size ep))(ho:s.heap.get? a=Ya o)(hd:o.data=.set es ep t)(hf:t.fits es.size=true)(ht:s.heap.get? tp=Ya {cls:=.type "tuple",dict:=Yb,data:=.seq (ps.map fun(i:Nat)=>rawInt i).toArray c,slots:=#[]})(hp:ps[i]?=Ya k)(hx:es[k]?=Ya (hk,x))(h:∀h',h'.get? I=Ya (BV (.ref tp) (i+ 1) a es.size ep)->aaq I s.heap h'->Q (Ya x) {s with heap:=h'}):Yl (Yn prog w) A (adi (.ref I)) Q E s:=by
 unfold adi;show Yf (agg (afL (name:=xl "__next__") (gL hI) c5 (afh c5 (gL hI) oS ?_ (nG _))));unfold xb.«set_iterator.__next__»;show Yf (Yk (Yf (aiu hI rfl ?_)));change Yl _ _ (akl a >>= _) _ _ _;show Yf (agC ho hd hf ?_);change Yl _ _ (if(((es.size:Nat):Int) !=((es.size:Nat):Int))=true then _ else _) _ _ _;rw[if_neg (by simp)];change Yl _ _ (akG (.ref tp) >>= _) _ _ _;show Yf (air ht rfl ?_);have e1:((ps.map fun(i:Nat)=>rawInt i).toArray)[((i:Nat):Int).toNat]?=Ya (.int k 0):=by
  rw[YK,aj5,YJ,hp];rfl
 dsimp only;rw[e1];change Yl _ _ (amO a ((k:Nat):Int).toNat ((ep:Nat):Int).toNat >>= _) _ _ _;rw[YK,YK];unfold amO;show Yf (Yf (aeo ho hd hf ?_));change Yl _ _ (if(ep !=ep)=true then _ else _) _ _ _;rw[if_neg (by simp)];show Yf (Yk ?_);rw[hx];show Yk ?_;change Yl _ _ (aiv (.ref I) 1 (rawInt ((i:Int)+ 1)) >>= _) _ _ _;show Yf (ag0 hI rfl (by simp) (Yk #[_,rfl,Yk (h _ ?_ (GV ..))]));show wR s.heap hI 1 (rawInt ((i:Int)+ 1))
theorem IB(hh:A.handled=Yb)(hI:s.heap.get? I=Ya (BV (.ref tp) i a es.size ep))(ho:s.heap.get? a=Ya o)(hd:o.data=.set es ep t)(hf:t.fits es.size=true)(ht:s.heap.get? tp=Ya {cls:=.type "tuple",dict:=Yb,data:=.seq (ps.map fun(i:Nat)=>rawInt i).toArray c,slots:=#[]})(hp:ps[i]?=Yb)(h:∀h',(∀b o,b≠I->s.heap.get? b=Ya o->h'.get? b=Ya o)->Q Yb {s with heap:=h'}):Yl (Yn prog w) A (adi (.ref I)) Q E s:=by
 unfold adi;show Yf (agg (afL (name:=xl "__next__") (gL hI) c5 (afh c5 (gL hI) oS ?_ (nG _))));unfold xb.«set_iterator.__next__»;show Yf (Yk (Yf (aiu hI rfl ?_)));change Yl _ _ (akl a >>= _) _ _ _;show Yf (agC ho hd hf ?_);change Yl _ _ (if(((es.size:Nat):Int) !=((es.size:Nat):Int))=true then _ else _) _ _ _;rw[if_neg (by simp)];change Yl _ _ (akG (.ref tp) >>= _) _ _ _;show Yf (air ht rfl ?_);have e1:((ps.map fun(i:Nat)=>rawInt i).toArray)[((i:Nat):Int).toNat]?=none:=by
  rw[YK,aj5,YJ,hp];rfl
 dsimp only;rw[e1];change Yl _ _ (aiv (.ref I) 0 (rawInt 0) >>= _) _ _ _;show Yf (ag0 hI rfl (by simp) ?_);have h1:=wR s.heap hI 0 (rawInt 0);show Yf (ag0 (s:={s with heap:=s.heap.update I (ahc (·.setIfInBounds 0 (rawInt 0)))}) h1 rfl (by simp) ?_);show Lu (A:=A.in1) hh λh' e kp zz=>?_;obtain⟨oe,q1,q2⟩:=zz;show Yf (ajl (T:="StopIteration") (b:=true) #[oe,q1,q2] amf ?_);show Yk (h h' λb ob nb e=>kp b ob ((gm _ _ (Ne.symm nb)).trans ((gm _ _ (Ne.symm nb)).trans e)))
theorem Gr{Q:Option (Yd×Nat)->Yi->Prop}(b:NR w=true)(ho:s.heap.get? a=Ya o)(hd:o.data=.set es ep t)(hf:t.fits es.size=true)(h:Q (((ahX (w.params.setOrder a ep) es)[i]?).map λe=>(e.2,sl)) s):Yl (Yn prog w) A (ait a sl i ep) Q E s:=by
 have hb:w.params.followText "set-order"=true:=b;unfold ait;show Yf (aeo ho hd hf (Yf (Yf (agz (Yk ?_)))));change Yl _ _ (if w.params.followText "set-order"=true then _ else _) _ _ _;rw[hb,if_pos rfl];change Yl _ _ (if(ep !=ep)=true then _ else _) _ _ _;rw[if_neg (by simp)];show Yf ?_;unfold setWalk;show Yf (aeo ho hd hf (Yf (Yf (agz (Yk ?_)))));change Yl _ _ (if w.params.followText "set-order"=true then _ else _) _ _ _;rw[hb,if_pos rfl];show Yf (agz (Yk (Yk h)))
theorem Mg{Q:Option (Yd×Nat)->Yi->Prop}(b:NR w=false)(d:(!t.plain&&decide (es.size>1))=false)(hl:t.led=true)(ho:s.heap.get? a=Ya o)(hd:o.data=.set es ep t)(hf:t.fits es.size=true)(h:Q (match es[nh t.place sl]?,t.place[nh t.place sl]? with|some (_,x),Ya j=>Ya (x,j+ 1)|_,_=>Yb) s):Yl (Yn prog w) A (ait a sl i ep) Q E s:=by
 have hb:w.params.followText "set-order"=false:=b;unfold ait;show Yf (aeo ho hd hf (Yf (Yf (agz (Yk ?_)))));change Yl _ _ (if w.params.followText "set-order"=true then _ else _) _ _ _;rw[hb,if_neg YQ];show Yf (Yk ?_);change Yl _ _ (if(!t.plain&&decide (es.size>1))=true then _ else _) _ _ _;rw[d,if_neg YQ];show Yf ?_;change Yl _ _ (if(!t.led&& !es.isEmpty)=true then _ else _) _ _ _;rw[hl];change Yl _ _ (if(false&& !es.isEmpty)=true then _ else _) _ _ _;rw[agr,if_neg YQ];show Yk (Yk h)
end
section
theorem Dj{Q:Yd->Yi->Prop}(hI:s.heap.get? I=Ya (BV first i a es.size ep))(h:Q (.ref I) s):Yl (Yn prog w) A (aiC (.ref I)) Q E s:=by
 show ahI (gL hI) Bd (afh Bd (gL hI) KR ?_ (K9 _));change Yl _ _ (ret (.ref I)) _ _ s;show Yk #[_,rfl,"set_iterator",_,gL hI,c5.lookup,h]
theorem QE(hh:A.handled=Yb)(b:NR w=true)(hd:o.data=.set es ep t)(hf:t.fits es.size=true)(ne:a≠I):
  ajH prog w A I [I,a] [I] ((ahX (w.params.setOrder a ep) es).toList.map (·.2)).length (λi v=>((ahX (w.params.setOrder a ep) es).toList.map (·.2))[i]?=Ya v)
   (λi h=>(∃sl:Nat,h.get? I=Ya (BV (.int sl 0) i a es.size ep))/\h.get? a=Ya o) where
 sub:=λb hb=>Yo.mp hb▸Yy
 frame:=λi h h' st hk=>#[let ⟨sl,e⟩:=st.1;#[sl,hk I (by simp) _ e],hk a (by simp) _ st.2]
 item:=λi s _ _ hi st hQ=>by
  obtain⟨⟨sl,hI⟩,ho⟩:=st;have hi':i<(ahX (w.params.setOrder a ep) es).size:=by simpa using hi
  show yC (x:=((ahX (w.params.setOrder a ep) es)[i]).2) (nx:=sl) hI ho hd hf (λA E Q' q=>Gr b ho hd hf ?_) λh' e sb=>hQ _ h' s.toks ?_ #[#[sl,e],(sb.2 a ne).trans ho] λc oc nc ec=>(sb.2 c (λz=>nc (by simp[z]))).trans ec
  .rw[YH hi'];show q
  .rw[YJ,uc,YH hi'];rfl
 done:=λs Q E st hQ=>by
  obtain⟨⟨sl,hI⟩,ho⟩:=st;show zp hh hI ho hd hf (λA E Q' q=>Gr b ho hd hf ?_) λh' kp=>hQ h' s.toks λc oc nc ec=>kp c oc (λz=>nc (by simp[z])) ec;rw[ade (by simp)];show q
 self:=λi s Q E st hQ=>let ⟨⟨_,hI⟩,_⟩:=st;Dj hI hQ
theorem Ud(hh:A.handled=Yb)(b:NR w=false)(d:(!t.plain&&decide (es.size>1))=false)(tb:Tb (!NR w) t)(hd:o.data=.set es ep t)(hf:t.fits es.size=true)(ne:a≠I):
  ajH prog w A I [I,a] [I] (es.toList.map (·.2)).length (λi v=>(es.toList.map (·.2))[i]?=Ya v)
   (λi h=>(∃sl:Nat,nh t.place sl=i/\h.get? I=Ya (BV (.int sl 0) i a es.size ep))/\h.get? a=Ya o) where
 sub:=λb hb=>Yo.mp hb▸Yy
 frame:=λi h h' st hk=>#[let ⟨sl,e1,e⟩:=st.1;#[sl,e1,hk I (by simp) _ e],hk a (by simp) _ st.2]
 item:=λi s _ _ hi st hQ=>by
  obtain⟨⟨sl,e1,hI⟩,ho⟩:=st;have hi':i<es.size:=by simpa using hi
  have hl:t.led=true:=by rw[tb.2,b];rfl
  have hp:t.place.size=es.size:=by
   simp only[SetTable.fits,ag9,beq_iff_eq,decide_eq_true_eq]at hf;show hf.1
  have hip:i<t.place.size:=by omega
  show yC (x:=(es[i]).2) (nx:=t.place.getD i 0+ 1) hI ho hd hf (λA E Q' q=>Mg b d hl ho hd hf ?_) λh' e sb=>hQ _ h' s.toks ?_ #[#[t.place.getD i 0+ 1,Mz tb.1 hip,e],(sb.2 a ne).trans ho] λc oc nc ec=>(sb.2 c (λz=>nc (by simp[z]))).trans ec
  .rw[YK,e1,YH hi',YH hip];rw[YN,YH hip]at q;show q
  .rw[YJ,uc,YH hi'];rfl
 done:=λs Q E st hQ=>by
  obtain⟨⟨sl,e1,hI⟩,ho⟩:=st;have hl:t.led=true:=by rw[tb.2,b];rfl
  show zp hh hI ho hd hf (λA E Q' q=>Mg b d hl ho hd hf ?_) λh' kp=>hQ h' s.toks λc oc nc ec=>kp c oc (λz=>nc (by simp[z])) ec;rw[YK,e1,ade (by simp)];show q
 self:=λi s Q E st hQ=>let ⟨⟨_,_,hI⟩,_⟩:=st;Dj hI hQ
theorem Nf(hh:A.handled=Yb)(pm:ps.Perm (gp es.size))(hd:o.data=.set es ep t)(hf:t.fits es.size=true)(ne:a≠I)(nt:tp≠I):
  ajH prog w A I [I,a,tp] [I] (ps.map λi=>(es.getD i (0,.none)).2).length (λi v=>(ps.map λi=>(es.getD i (0,.none)).2)[i]?=Ya v)
   (λi h=>h.get? I=Ya (BV (.ref tp) i a es.size ep)/\h.get? a=Ya o/\h.get? tp=Ya {cls:=.type "tuple",dict:=Yb,data:=.seq (ps.map fun(i:Nat)=>rawInt i).toArray c,slots:=#[]}) where
 sub:=λb hb=>Yo.mp hb▸Yy
 frame:=λi h h' st hk=>#[hk I (by simp) _ st.1,hk a (by simp) _ st.2.1,hk tp (by simp) _ st.2.2]
 item:=λi s _ _ hi st hQ=>by
  obtain⟨hI,ho,ht⟩:=st;rw[Yj]at hi;have hm:ps[i]<es.size:=adn.mp (pm.mem_iff.mp (ahU hi));show HW (x:=(es[ps[i]]).2) (hk:=(es[ps[i]]).1) hI ho hd hf ht (Yw hi) (YH hm) λh' e sb=>hQ _ h' s.toks ?_ #[e,(sb.2 a ne).trans ho,(sb.2 tp nt).trans ht] λc oc nc ec=>(sb.2 c (λz=>nc (by simp[z]))).trans ec;rw[YJ,Yw hi,age,YN,YH hm];rfl
 done:=λs Q E st hQ=>by
  obtain⟨hI,ho,ht⟩:=st;show IB hh hI ho hd hf ht (agf (by rw[Yj];show Ym _)) λh' kp=>hQ h' s.toks λc oc nc ec=>kp c oc (λz=>nc (by simp[z])) ec
 self:=λi s Q E st hQ=>Dj st.1 hQ
theorem NV(es:Array (Int×Yd)):(gp es.size).map (λi=>(es.getD i (0,abl)).2)=es.toList.map (·.2):=by
 apply ak5;intro i;rw[YJ,YJ,uc (xs:=es)];by_cases h:i<es.size
 .rw[Yw (by rw[aeb];show h),List.getElem_range,age,YN,YH h];rfl
 .rw[agf (by rw[aeb];omega),ade (by omega)];rfl
theorem Vq(hh:A.handled=Yb)(ho:s.heap.get? a=Ya o)(hx:o.ExactSet)(hd:o.data=.set es ep t)(hf:t.fits es.size=true)(hb:es.size<ag3)(tb:Tb (!NR w) t){Q:Yd->Yi->Prop}
  (h:∀(h':YO) (d':akP) (I:Yc) (fp:List Yc) (vs:List Yd) (St:Nat->YO->Prop),(∀b o,s.heap.get? b=Ya o->h'.get? b=Ya o)->s.heap.objs.size<=I->(∀b∈fp,b=a∨s.heap.objs.size<=b)->vs.Perm (es.toList.map (·.2))->
   (∀A:sq,A.handled=Yb->ajH prog w A I fp [I] vs.length (λi v=>vs[i]?=Ya v) St)->St 0 h'->Q (.ref I) {s with heap:=h',drawn:=d'}):Yl (Yn prog w) A (aiC (.ref a)) Q E s:=by
 have hT:s.TypeIs (.ref a) "set":=#[o,ho,hx.1];have la:=Yt ho;show ahI hT aj6 (afh aj6 hT Kx ?_ (PySem.F.args_set_iter_1 _));unfold xb.«frozenset.__iter__» Builtin.Frozenset.slot0 Builtin.Frozenset.addrOf Builtin.Frozenset.sizeOf;show Yf (Yf (Yk (Yk (Yf (Yf (agC ho hd hf (Yk ?_)))))));show Yf ?_;unfold setDrawn;show Yf (aeo ho hd hf (Yf (Yf (agz (Yk (Yk ?_))))));change Yl _ _ (if(!NR w&&(!t.plain&&decide (es.size>1)))=true then _ else _) _ _ _;cases hc:(!NR w&&(!t.plain&&decide (es.size>1)))with
 |false=>
  rw[if_neg YQ];show Yf (Yk (Yf ?_));unfold setEpoch;show Yf (aeo ho hd hf (Yk ?_));show Yf (abx (Yk #[_,rfl,"set_iterator",_,#[_,Ys _ rfl,rfl],c5.lookup,?_]));have nI:a≠s.heap.objs.size:=YB la;have fpok:∀b∈[s.heap.objs.size,a],b=a∨s.heap.objs.size<=b:=λb hb=>by
   simp only[Yq,YF,or_false]at hb;rcases hb with z|z
   .show .inr (ah2 z.symm)
   .show .inl z
  cases hT:NR w with
  |true=>
   show h _ s.drawn s.heap.objs.size [s.heap.objs.size,a] _ _ (λb o e=>Yg _ e) (Ym _) fpok ((RU (w.params.setOrder a ep) es).map _) (λA hA=>QE hA hT hd hf nI) #[#[0,Ys _ rfl],Yg _ ho]
  |false=>
   have hc':(!t.plain&&decide (es.size>1))=false:=by rw[hT]at hc;show hc
   show h _ s.drawn s.heap.objs.size [s.heap.objs.size,a] _ _ (λb o e=>Yg _ e) (Ym _) fpok (.refl _) (λA hA=>Ud hA hT hc' tb hd hf nI) #[#[0,NJ tb.1,Ys _ rfl],Yg _ ho]
 |true=>
  rw[if_pos rfl];show Yf (Qb es.size (gp es.size) s _ (by rw[aeb]) λps d' pm=>Yf ?_);show aj7 (Yf ?_) ?_
  .unfold setEpoch;have ho':(s.heap.push {cls:=.type "tuple",data:=.seq (ps.map fun(i:Nat)=>rawInt i).toArray}).get? a=Ya o:=Yg _ ho;show Yf (aeo ho' hd hf (Yk ?_));show Yf (abx (Yk #[_,rfl,"set_iterator",_,#[_,Ys _ rfl,rfl],c5.lookup,?_]));have sz:(s.heap.push {cls:=.type "tuple",data:=.seq (ps.map fun(i:Nat)=>rawInt i).toArray}).objs.size=s.heap.objs.size+ 1:=afj ..;show h _ d' (s.heap.push {cls:=.type "tuple",data:=.seq (ps.map fun(i:Nat)=>rawInt i).toArray}).objs.size [(s.heap.push {cls:=.type "tuple",data:=.seq (ps.map fun(i:Nat)=>rawInt i).toArray}).objs.size,a,s.heap.objs.size] (ps.map λi=>(es.getD i (0,.none)).2) _
    (λb o e=>Yg _ (Yg _ e)) (by rw[sz];show aeO _) (λb hb=>?_) ?_ (λA hA=>Nf (c:=0) hA pm hd hf (by rw[sz];show YB (agU la)) (by rw[sz];show YB (afS _)))
    #[Ys _ rfl,Yg _ ho',Yg _ (Ys _ rfl)]
   .simp only[Yq,YF,or_false]at hb;rcases hb with z|z|z
    .show .inr (by rw[z,sz];show aeO _)
    .show .inl z
    .show .inr (ah2 z.symm)
   .show(pm.map _).trans (by rw[NV])
  .rw[Yj,pm.length_eq,aeb];show aiY hb
end
theorem CT{α:Type}[DecidableEq α]:∀{l m:List α},l.Nodup->(∀x∈l,x∈m)->m.length<=l.length->m.Perm l
 |[],m,_,_,h=>by
  have e:m=[]:=aaM (Nat.le_zero.mp h);rw[e]
 |x::l,m,nd,sub,h=>by
  rw[xp]at nd;have hx:=sub x Yy;have pm:=akm hx;show pm.trans (ano x (CT nd.2 (λy hy=>?_) ?_))
  .have hy':=sub y (Yx _ hy);show(ah8 (show y≠x from λz=>nd.1 (z▸hy))).mpr hy'
  .have:=pm.length_eq;rw[cT]at this h;omega
theorem Bi(val:Nat->Int):∀i,(agT val i).Nodup
 |0=>aj0
 |i+ 1=>by
  rw[akv];unfold step_dedup;have ih:=Bi val i;by_cases h:List.any (agT val i) (·==val i)
  .rw[if_pos h];show ih
  .rw[if_neg h,aec];show#[ih,by simp,λx hx y hy e=>h ?_];rw[aha];show#[x,hx,?_];have e2:=Yo.mp hy;rw[e,e2,beq_self_eq_true]
theorem Io(val:Nat->Int)(i:Nat)(k:Int):k∈agT val i↔∃j,j<i/\val j=k:=by
 have h:=firstMet_any val i k;rw[agL,aha,aha]at h;constructor
 .intro z;obtain⟨x,hx,e⟩:=h.mp #[k,z,by simp];obtain⟨j,hj,ej⟩:=YX.mp hx;show#[j,adn.mp hj,by rw[ej];simpa using e]
 .rintro⟨j,hj,e⟩;obtain⟨x,hx,e2⟩:=h.mpr #[val j,YX.mpr #[j,adn.mpr hj,rfl],by simp[e]];have:x=k:=by simpa using e2
  rw[←this];show hx
section
theorem Dq:∀{l:List (Int×Yd)},ana (aez prog w) l->∃ns,xn (l.map (·.2)) ns/\∀k,k∈ns↔∃e∈l,(aez prog w).is k e.2=true
 |[],_=>#[[],.nil,λk=>by simp]
 |e::l,h=>by
  obtain⟨ns,h1,h2⟩:=Dq h.tail;obtain⟨⟨k,hk,_⟩,_⟩:=h.head;obtain⟨t,et⟩:=akU (k:=k) (v:=e.2) hk;show#[k::ns,?_,λj=>?_]
  .rw[YL,et];show .cons k t h1
  .rw[Yq,h2 j];constructor
   .rintro(z|⟨e',he,q⟩)
    .show#[e,Yy,by rw[z];show hk]
    .show#[e',Yx _ he,q]
   .rintro⟨e',he,q⟩;rcases Yq.mp he with z|z
    .rw[z]at q;show .inl ((aez prog w).inj e.2 j k q hk)
    .show .inr #[e',z,q]
theorem Q8{vs us:List Yd}(pm:vs.Perm us)(h:xn us ns):∃ms,xn vs ms/\ms.Perm ns:=by
 induction pm generalizing ns with
 |nil=>show#[ns,h,.refl _]
 |cons x p ih=>
  cases h with
  |cons n t hr=>
   obtain⟨ms,h1,h2⟩:=ih hr;show#[n::ms,.cons n t h1,h2.cons n]
 |swap x y l=>
  cases h with
  |cons n t hr=>
   cases hr with
   |cons m u hr=>show#[_,.cons m u (.cons n t hr),aj4 ..]
 |trans p q ih1 ih2=>
  obtain⟨ms,h1,h2⟩:=ih2 h;obtain⟨ks,h3,h4⟩:=ih1 h1;show#[ks,h3,h4.trans h2]
theorem Vg{Q:Bool->Yi->Prop}(hT:s.TypeIs (.ref a) "set")(h:Q false s):Yl (Yn prog w) A (amq (.ref a)) Q E s:=by
 change Yl _ _ (specialOf (.ref a) "__len__" >>= _) _ _ s;show Yf (alM hT PySem.F.slot_set_len.lookup ?_);generalize hid:("set.__len__":String)=id0
 wp_delta
 rw[show anc id0=Ya ("set","__len__")from by subst hid;decide +kernel];subst hid;show Yf (ajl (T:="set") (b:=true) hT (by rw[ahA];kernel_rfl) ?_);show ajI (λz=>absurd z (by decide)) (λ_=>?_);show ajI (λ_=>?_) (λz=>absurd (by decide +kernel) z);show Yf (akF hT (Yk h))
theorem VN{id:String}{B:xb}{args:Args}(he:agS aix id=Ya B)(hp:aj2 id=true)(h:Yl (Yn prog w) A.in1 (B args) (λf s1=>match f with| .done f=>R (.ok f) s1| .again c=>c.quiet=true/\rl (Yn prog w) A c R s1) (λe s1=>R (.error e) s1) s):rl (Yn prog w) A (.builtin id args) R s:=
 ah5 he (by rw[Around.under_plainId hp];show h)
theorem Kv{R:List Yd->Yi->Prop}(hh:A.handled=Yb)(x:xI prog w s.heap a S n)(h:∀(h':YO) (d':akP) (tk:Nat) (vs:List Yd) (ns:List Int),(∀b o,s.heap.get? b=Ya o->h'.get? b=Ya o)->xn vs ns->ns.length=n->(∀k,k∈ns↔S k=true)->R vs {s with heap:=h',drawn:=d',toks:=tk}):
  Yl (Yn prog w) A (am9 (.ref a)) R E s:=by
 obtain⟨o,es,ep,t,ho,hx,hd,he,hm,hb,hf,hn,tb⟩:=x;have la:=Yt ho;unfold am9;show Yf (wpAny_runValue (VN entry_proto_collect' PySem.F.plain_proto_collect (Yf (abx (Yk #[afK ajA _,VN entry_list_iadd' ajA ?_])))));have hS1:(s.heap.push {cls:=.type "list",data:=.seq ([]:List Yd).toArray}).get? s.heap.objs.size=Ya {cls:=.type "list",data:=.seq #[]}:=Ys _ rfl;have ho1:(s.heap.push {cls:=.type "list",data:=.seq ([]:List Yd).toArray}).get? a=Ya o:=Yg _ ho;have sz1:(s.heap.push {cls:=.type "list",data:=.seq ([]:List Yd).toArray}).objs.size=s.heap.objs.size+ 1:=afj ..;have kp1:∀b ob,s.heap.get? b=Ya ob->(s.heap.push {cls:=.type "list",data:=.seq ([]:List Yd).toArray}).get? b=Ya ob:=λb ob e=>Yg _ e;change Yl _ A.in1 (amr (.ref s.heap.objs.size) (.ref a) (.ref s.heap.objs.size)) _ _ _;generalize s.heap.push {cls:=.type "list",data:=.seq ([]:List Yd).toArray}=H1 at hS1 ho1 sz1 kp1⊢;change Yl _ _ (alO (.ref a) >>= _) _ _ _;show Yf (akF (T:="set") #[o,ho1,hx.1] ?_);have n1:ajm (.ref s.heap.objs.size) (.ref a)=false:=by simp[ajm,agu la]
 have n2:(xi "set"==xi "list")=false:=by decide
 have n3:(xi "set"==xi "tuple")=false:=by decide
 simp only[n1,n2,n3,akt,ahr,if_false];show Yf (Vq (s:={s with heap:=H1}) (A:=A.in1) hh ho1 hx hd hf hb tb λh2 d2 I fp vs St k2 lI fpk pm W st=>?_);show Yf (xu (Vg (s:={s with heap:=h2,drawn:=d2}) #[o,k2 _ _ ho1,hx.1] ?_));have hS2:=k2 _ _ hS1;have nf:s.heap.objs.size∉fp:=λz=>by
  rcases fpk _ z with q|q
  .show absurd la (by rw[←q];show Y7 _)
  .rw[sz1]at q;show absurd q (Nat.not_succ_le_self _)
 have hlen:vs.length=n:=by rw[pm.length_eq,Yj,mr,hn]
 have nz:vs.length<=Yu:=by rw[hlen,←hn];show aiY hb
 show ajI (λ_=>?_) (λz=>absurd (by decide) z);show Yf (akk (Yf ?_));change Yl _ _ (updateSeq s.heap.objs.size (·.push .none) >>= λ_=>updateSeq s.heap.objs.size (·.pop)) _ _ _;show Yf (ahm hS2 rfl ?_);have hS3:=xt (abA (·.push abl)) hS2 rfl;show ahm (hz:=by seq_fits) hS3 rfl ?_;have hS4:=xt (abA (·.pop)) hS3 rfl;have oth:∀b ob,b≠s.heap.objs.size->h2.get? b=Ya ob->((h2.update s.heap.objs.size (abA (·.push abl))).update s.heap.objs.size (abA (·.pop))).get? b=Ya ob:=λb ob nb e=>(gm _ _ (Ne.symm nb)).trans ((gm _ _ (Ne.symm nb)).trans e);show Yk #[afK PySem.F.plain_extend_loop _,codeAny_extend_loopS (W A.in1 hh).toS nz _ nf _ vs.length 0 _ #[] _ rfl (Y1 _) ((W A.in1 hh).frame 0 _ _ st λb hb ob e=>oth b ob (λz=>nf (z▸hb)) e) hS4 (ItemsOf.nil _) λs' acc c' hmv hS' hacc=>?_];apply Yf (wpAny_load hS' _);have ea:acc.toList=vs:=by
  apply ak5;intro j;rw[uc];by_cases hj:j<acc.size
  .rw[YH hj];show(hacc.2 j _ (YH hj)).symm
  .rw[ade (by omega),agf (by rw[←hacc.1];omega)]
 obtain⟨ns0,q1,q2⟩:=Dq he;obtain⟨ns,q3,q4⟩:=Q8 pm q1;have ln:ns.length=n:=by rw[←q3.length,hlen]
 have:=h s'.heap s'.drawn s'.toks vs ns (λb ob e=>hmv.heap b ob (λz=>?_) (oth b ob (YB (Yt e)) (k2 b ob (kp1 b ob e)))) q3 ln (λk=>by rw[q4.mem_iff,q2 k,hm k])
 .obtain⟨h',g',d',t',os'⟩:=s';have eg:g'=s.gens:=hmv.gens;have eo:os'=s.os:=hmv.os;subst eg eo;change Yl _ A (pure acc.toList) _ _ _;rw[ea];show Yk this
 .have l1:=Yt e;rcases Yq.mp z with z|z
  .rw[z]at l1;show Y7 _ l1
  .rw[Yo.mp z]at l1;have q:H1.objs.size<=I:=lI;rw[sz1]at q;show absurd l1 (alS.mpr (oh (aeO _) q))
end
end GX
namespace L2
open PySem PySem.Spec PyProof.Rows
noncomputable def Sk(P:YU)(w:YZ)(a:Yc)(ks:List Int):HO:=.ext λh=>GX.xI P w h a (λk=>ks.any (·==k)) ks.length
section
variable{X:Cx}
theorem aM.draw{pins:List (Yc×Y8)}{σ:St}{H:Hp}{s:Yi}(I:aM X pins σ H s)(d:akP):aM X pins σ H {s with drawn:=d}:=#[I.ok,I.os,I.bare,I.base,I.loc,I.cell,I.free,I.freeC,I.pin,I.hok,I.len]
theorem G9(hc:X.calm=true):eU X (.type "set") (λxs H Q=>∃(p:Yc) (ns:List Int),xs=[.ref p]/\bZ X.K H p (ns.map V.int)/\ns.length<=1000/\∀(q:Yc) (ks:List Int),H q=Yb->ks.Nodup->(∀k,k∈ks↔k∈ns)->Q (.ref q) (upd H q (Sk X.prog X.w q ks))):=by
 intro pins s σ H xs us Q I r h;obtain⟨p,ns,rfl,hq,hz,q⟩:=h;obtain⟨u,rfl,rx⟩:=ij r;cases rx;obtain⟨its,rv,pl,hzz⟩:=I.list hq;have hi:xn its ns:=mG rv;have hl:its.length=ns.length:=hi.length;show GX.Ln (items:=its.toArray) (ns:=ns) (I.ok.hd hc) pl.isList (by simpa using hi) (by rw[YA,hl];unfold ag3;omega) λh' tk x kp=>?_;have sz:its.toArray.size=ns.length:=by rw[YA,hl]
 rw[sz]at x;have new:cO X.prog X.w (upd H s.heap.objs.size (Sk X.prog X.w s.heap.objs.size (agT (λi=>ns.getD i 0) ns.length))) h' s.heap.objs.size (Sk X.prog X.w s.heap.objs.size (agT (λi=>ns.getD i 0) ns.length)):=by
  show#[x,?_,λh1 h2 y k=>y.at k];obtain⟨o,_,_,_,ho,_⟩:=x;show#[o,ho]
 show#[.ref s.heap.objs.size,_,I.laid (t':=tk) kp (Ym _) new,rfl,q _ _ (I.hok.fresh (Ym _)) (GX.Bi _ _) λk=>?_];rw[GX.Io];constructor
 .rintro⟨j,hj,e⟩;rw[Y5,Yw hj]at e;have e':ns[j]=k:=e;rw[←e'];show ahU hj
 .intro hk;obtain⟨j,hj,e⟩:=agB hk;show#[j,hj,?_];rw[Y5,Yw hj];show e
theorem yi(hc:X.calm=true):eU X (.builtin "sorted") (λxs H Q=>∃(a:Yc) (ks:List Int),xs=[.ref a]/\H a=Ya (Sk X.prog X.w a ks)/\ks.Nodup/\ks.length<64/\∀(l:Yc) (ns:List Int),H l=Yb->ns.Perm ks->ns.Pairwise (·<=·)->Q (.ref l) (upd H l (.lst (ns.map V.int)))):=by
 intro pins s σ H xs us Q I r h;obtain⟨a,ks,rfl,ha,nd,hlen,q⟩:=h;obtain⟨u,rfl,rx⟩:=ij r;cases rx;have x:GX.xI X.prog X.w s.heap a (λk=>ks.any (·==k)) ks.length:=(I.hok a _ ha).1;show GX.AJ (amM _) (GX.Kv (A:=X.A.in1) (I.ok.hd hc) x λh' d' tk vs ns hk hi hl hm=>?_);have pm:ns.Perm ks:=GX.CT nd (λk hk=>(hm k).mpr (aha.mpr #[k,hk,by simp])) (ah2 hl);have hv:vs.length=ks.length:=by rw[hi.length,hl]
 have I1:aM X pins σ H {s with heap:=h',drawn:=d',toks:=tk}:=(I.draw d').kept (t':=tk) hk;show Gm (s:={s with heap:=h',drawn:=d',toks:=tk}) hi (by rw[hv];show hlen) (by rw[hv];show tm (aN (by omega))) λh2 out ns' e k2 he a1 a2 a3=>?_;have ln:ns'.length<=Yu:=by rw[a2.length_eq,hl];show tm (aN (by omega))
 show#[.ref h'.objs.size,_,I1.lay_ints (tk:=tk) k2 he a1 ln,rfl,q _ ns' (I1.hok.fresh (Ym _)) (a2.trans pm) a3]
theorem Nd(hc:X.calm=true):eU X (.type "list") (λxs H Q=>∃(d:Yc) (m:List (Int×Int)),xs=[.ref d]/\Rd H d (.dK (dI m))/\m.length<=1000/\∀(l:Yc),H l=Yb->Q (.ref l) (upd H l (.lst ((m.map (·.1)).map V.int)))):=by
 intro pins s σ H xs us Q I r h;obtain⟨d,m,rfl,hd,hlen,q⟩:=h;obtain⟨u,rfl,rx⟩:=ij r;cases rx;obtain⟨z,hS,vs,rel,dd⟩:=kP I.hok hd;obtain⟨ep,hat⟩:=dd.dictAt;have hl:vs.length=m.length:=by rw[←rel.length,ur]
 show ajn (A:=X.A) (alr (knd:=bB X.prog X.w) (kvs:=vs) (ep:=ep) hS) (I.ok.hd hc) hat (by rw[hl];show tm (aN (by omega))) λh' tk acc c hk he hacc=>?_;have hi:xn acc.toList (m.map (·.1)):=Ak (P:=X.prog) (w:=X.w) rel (by rw[mr];show hacc.1) λj v e=>hacc.2 j v (by rw[←uc];show e);show#[.ref s.heap.objs.size,_,I.lay_ints (tk:=tk) (e:=c) hk he hi (by rw[Yj];show tm (aN (by omega))),rfl,q _ (I.hok.fresh (Ym _))]
end
end L2
namespace L2
open PySem PySem.Spec PyProof.Rows
variable{X:Cx}{H:Hp}
section
theorem CV:∀{vs:List Yd} {ns:List Int},xn vs ns->∃ps:List (Int×agl),vs=ps.map (λp=>agI p.1 p.2)/\ps.map (·.1)=ns
 |_,_,.nil=>#[[],rfl,rfl]
 |_,_,.cons n t h=>by
  obtain⟨ps,e1,e2⟩:=CV h;show#[(n,t)::ps,by rw[YL,←e1],by rw[YL,e2]]
theorem Ws{ps:List (Int×agl)}{ns:List Int}(en:ps.map (·.1)=ns){j:Nat}(hj:j<ps.length):akS ps.toArray j∈ns/\∀z∈ns,∃i,i<=ps.length-1/\akS ps.toArray i=z:=by
 have na:∀i (hi:i<ps.length),akS ps.toArray i=(ps[i]).1:=λi hi=>by simp[akS,hi]
 constructor
 .rw[na j hj,←en];show xj (ahU hj)
 .intro z hz;rw[←en]at hz;obtain⟨p,hp,e⟩:=YX.mp hz;obtain⟨i,hi,e2⟩:=agB hp;show#[i,by omega,by rw[na i hi,e2,e]]
theorem RC(hc:X.calm=true):eU X (.builtin "min") (λxs H Q=>∃(p:Yc) (ns:List Int),xs=[.ref p]/\bZ X.K H p (ns.map V.int)/\ns≠[]/\∀b,b∈ns->(∀z∈ns,b<=z)->Q (.int b) H):=by
 intro pins s σ H xs us Q I r h;obtain⟨p,ns,rfl,hq,hne,q⟩:=h;obtain⟨u,rfl,rx⟩:=ij r;cases rx;obtain⟨its,rv,pl,hz⟩:=I.list hq;obtain⟨ps,e1,e2⟩:=CV (mG rv);have ei:intItems ps.toArray=its.toArray:=by rw[e1];simp[intItems]
 have lp:0<ps.length:=by
  cases ps with
  |nil=>show absurd e2.symm hne
  |cons _ _=>show Nat.succ_pos _
 show min_intList (xs:=ps.toArray) (I.ok.hd hc) (by rw[ei];show pl.isList) (by rw[YA];show lp) λv h' tk hv kp=>?_;obtain⟨b1,b2⟩:=argBest_lt (akS ps.toArray) (ps.toArray.size-1);rw[YA]at b1 b2 hv;obtain⟨t,et⟩:=intItems_at hv;obtain⟨m1,m2⟩:=Ws e2 (show argBest (λi j=>decide (akS ps.toArray i<akS ps.toArray j)) (ps.length-1)<ps.length by omega);show#[.int _,H,I.kept (t':=tk) kp,#[t,et],q _ m1 λz hz=>?_];obtain⟨i,hi,e⟩:=m2 z hz;rw[←e];show b2 i hi
abbrev VW(H:Hp):List V->List (List (Int×Int))->Prop:=Aq λx m=>∃d,x=.ref d/\Rd H d (.dK (dI m))
theorem VW.get:∀{xs:List V} {ms:List (List (Int×Int))} {i:Nat} {x:V},VW H xs ms->xs[i]?=Ya x->∃m,ms[i]?=Ya m/\∃d,x=.ref d/\Rd H d (.dK (dI m)):=by
 intro a b i x w
 induction w generalizing i with
 |nil=>show λe=>by simp at e
 |cons r _ ih=>
  intro e;cases i with
  |zero=>simp at e;subst e;show#[_,rfl,r]
  |succ i=>
   obtain⟨p,h1,h2⟩:=ih (i:=i) (by simpa using e);show#[p,by simpa using h1,h2]
end
section
theorem aM.thaw{pins:List (Yc×Y8)}{σ:St}{s:Yi}{a:Yc}{o:Y8}{kvs:List (cj×V)}(I:aM X pins σ H s)(h:H a=Ya (.frz o (.dK kvs)))(n1:∀xs,X.H₀ a≠Ya (.tup xs))(n2:∀o u,X.H₀ a≠Ya (.frz o u))(n3:∀ps,X.H₀ a≠Ya (.tbl ps)):aM X pins σ (upd H a (.dK kvs)) s:=by
 have ne:∀b,H b=Yb->b≠a:=λb q z=>by rw[z,h]at q;cases q
 have b:=I.base;show#[I.ok,I.os,I.bare,#[b.keep,b.slot,λc oc e n x=>?_,b.there,λc xs e=>?_,λc oc u e=>?_,λc ps e=>?_],I.loc,I.cell,by rw[ak (ne _ I.free)];show I.free,λx c z=>by rw[ak (ne _ (I.freeC x c z))];show I.freeC x c z,
  λp hp=>let ⟨p1,p2,p3⟩:=I.pin p hp;#[p1,by rw[ak (ne _ p2)];show p2,p3],λc u e=>?_,I.len]
 .have q:=b.free c oc e n x;rw[ak (ne _ q)];show q
 .have nc:c≠a:=λz=>n1 _ (z▸e);rw[ak nc];show b.tups c xs e
 .have nc:c≠a:=λz=>n2 _ _ (z▸e);rw[ak nc];show b.frzs c oc u e
 .have nc:c≠a:=λz=>n3 _ (z▸e);rw[ak nc];show b.tbls c ps e
 .by_cases hc:c=a
  .subst hc;rw[aj]at e;cases e;show(I.hok c _ h).2
  .rw[ak hc]at e;show(I.hok c u e).stay (λ_ _ _ q=>q) (λd q=>?_) λd xs q=>?_
   .rw[ak (λz=>by rw[z,h]at q;cases q)];show q
   .rw[ak (λz=>by rw[z,h]at q;cases q)];show q
def aas(t:TS):TS:=λD σ H=>∃a kvs,H a=Ya (.dK kvs)/\t {D with nx:=λσ' H'=>(∃o,H' a=Ya (.frz o (.dK kvs)))/\D.nx σ' (upd H' a (.dK kvs)),rt:=λv H'=>(∃o,H' a=Ya (.frz o (.dK kvs)))/\D.rt v (upd H' a (.dK kvs))} σ H
theorem Wi{st:YI}{t:TS}(h:PS X st t):PS X st (aas t):=by
 intro pins s σ H D I hw;obtain⟨a,kvs,ha,ht⟩:=hw;have n1:∀xs,X.H₀ a≠Ya (.tup xs):=λxs e=>by have:=I.base.tups a xs e;rw[ha]at this;cases this
 have n2:∀o u,X.H₀ a≠Ya (.frz o u):=λo u e=>by have:=I.base.frzs a o u e;rw[ha]at this;cases this
 have n3:∀ps,X.H₀ a≠Ya (.tbl ps):=λps e=>by obtain⟨m,q⟩:=I.base.tbls a ps e;rw[ha]at q;cases q
 show cR (h pins s σ H _ I ht) λf s1 q=>?_;cases f with
 |next=>
  obtain⟨σ',H',I',⟨o,e⟩,n⟩:=q;show#[σ',_,I'.thaw e n1 n2 n3,n]
 |brk=>show q
 |cont=>show q
 |ret u=>
  obtain⟨v,σ',H',I',r,⟨o,e⟩,n⟩:=q;show#[v,σ',_,I'.thaw e n1 n2 n3,r,n]
end
mutual
inductive Dp (K:Ye) (H:Hp):V->ae2->Prop
 |none:Dp K H .non .none
 |bool (b:Bool):Dp K H (.bl b) (.bool b)
 |int (i:Int):Dp K H (.int i) (.int i)
 |str (x:Yh):Dp K H (.str x) (.str x)
 |tup {a:Yc} {xs:List V} {ds:List ae2}:c8 K H a xs->VM K H xs ds->Dp K H (.ref a) (.tuple ds)
inductive VM (K:Ye) (H:Hp):List V->List ae2->Prop
 |nil:VM K H [] []
 |cons {x:V} {xs:List V} {d:ae2} {ds:List ae2}:Dp K H x d->VM K H xs ds->VM K H (x::xs) (d::ds)
end
def SmT(K:Ye)(H H':Hp):Prop:=∀a xs,c8 K H a xs->c8 K H' a xs
theorem SmT.same{K:Ye}{H H':Hp}(e:aG H H'):SmT K H H':=by
 rintro a xs ((h|⟨o,h⟩)|h)
 .show .inl (.inl (e _ _ h))
 .show .inl (.inr #[o,e _ _ h])
 .show .inr h
section
variable{X:Cx}{pins:List (Yc×Y8)}{σ:St}{H:Hp}{s:Yi}
mutual
theorem Dp.reads(I:aM X pins σ H s):∀{x:V} {d:ae2} {u:Yd},Dp X.K H x d->RelV x u->∃as,Reads s.heap u d as
 |_,_,_,.none,r=>by cases r;show#[_,.none]
 |_,_,_,.bool b,r=>by cases r;show#[_,.bool b]
 |_,_,_,.int i,r=>by obtain⟨t,rfl⟩:=r;show#[_,.int i t]
 |_,_,_,.str z,r=>by obtain⟨t,rfl⟩:=r;show#[_,.str z t]
 |_,_,_,.tup h t,r=>by
  cases r;obtain⟨its,rv,⟨o,e,c,n,dd⟩,_⟩:=I.tuple h;obtain⟨as,q⟩:=VM.reads I t rv;show#[_,.tuple e c dd (by simpa using q)]
theorem VM.reads(I:aM X pins σ H s):∀{xs:List V} {ds:List ae2} {us:List Yd},VM X.K H xs ds->Vals xs us->∃as,ReadsAll s.heap us ds as
 |_,_,_,.nil,r=>by cases r;show#[_,.nil]
 |_,_,_,.cons h t,r=>by
  cases r with
  |cons r1 r2=>
   obtain⟨as,q⟩:=Dp.reads I h r1;obtain⟨bs,q2⟩:=VM.reads I t r2;show#[_,.cons q q2]
end
def Dl(K:Ye)(H:Hp)(x:V)(d:ae2):Prop:=Dp K H x d∨∃a xs ds,x=.ref a/\d=.list ds/\bZ K H a xs/\VM K H xs ds
theorem Dl.reads(I:aM X pins σ H s){x:V}{d:ae2}{u:Yd}(h:Dl X.K H x d)(r:RelV x u):∃as,Reads s.heap u d as:=by
 rcases h with h|⟨a,xs,ds,rfl,rfl,h,t⟩
 .show Dp.reads I h r
 .cases r;obtain⟨its,rv,⟨o,n,e,c,_,dd⟩,_⟩:=I.list h;obtain⟨as,q⟩:=VM.reads I t rv;show#[_,.list e c dd (by simpa using q)]
def aeT(K:Ye):R2:=λx y H Q=>∃d e,Dl K H x d/\Dl K H y e/\d.canLay0=true/\e.canLay0=true/\min d.depth e.depth<=60/\Q (.bl (d.eqv e)) H
theorem Xz(hu:X.A.units+ 64<ab0):sI X (xk .Eq) (aeT X.K):=by
 intro pins s σ H x y v u Q I rx ry h;obtain⟨d,e,h1,h2,c1,c2,dp,q⟩:=h;obtain⟨as,r1⟩:=h1.reads I rx;obtain⟨bs,r2⟩:=h2.reads I ry;show SeqAt.compareEq_reads r1 r2 c1 c2 (by omega) #[.bl _,H,I,rfl,q]
def WY(K:Ye)(neg:Bool):R2:=λx y H Q=>∃a xs ds d,y=.ref a/\(bZ K H a xs∨c8 K H a xs)/\VM K H xs ds/\Dp K H x d/\PyData.canLayAll0 ds=true/\d.canLay0=true/\d.depth<=60/\Q (.bl (if neg then !(ds.any λz=>z.eqv d)else ds.any λz=>z.eqv d)) H
theorem afY(hu:X.A.units+ 64<ab0):sI X (xk .In) (WY X.K false):=by
 intro pins s σ H x y v u Q I rx ry h;obtain⟨a,xs,ds,d,rfl,hs,hd,hx,c1,c2,dp,q⟩:=h;obtain⟨bs,r2⟩:=hx.reads I rx;cases ry;rcases hs with hs|hs
 .obtain⟨as,r1⟩:=Dl.reads I (x:=.ref a) (u:=.ref a) (.inr #[a,xs,ds,rfl,rfl,hs,hd]) rfl;show SeqAt.in_list_reads r1 r2 c1 c2 (by omega) #[.bl _,H,I,rfl,q]
 .obtain⟨as,r1⟩:=Dp.reads I (x:=.ref a) (u:=.ref a) (.tup hs hd) rfl;show SeqAt.in_tuple_reads r1 r2 c1 c2 (by omega) #[.bl _,H,I,rfl,q]
theorem QO(hu:X.A.units+ 64<ab0):sI X (xk .NotIn) (WY X.K true):=by
 intro pins s σ H x y v u Q I rx ry h;obtain⟨a,xs,ds,d,rfl,hs,hd,hx,c1,c2,dp,q⟩:=h;obtain⟨bs,r2⟩:=hx.reads I rx;cases ry;rcases hs with hs|hs
 .obtain⟨as,r1⟩:=Dl.reads I (x:=.ref a) (u:=.ref a) (.inr #[a,xs,ds,rfl,rfl,hs,hd]) rfl;show SeqAt.notIn_list_reads r1 r2 c1 c2 (by omega) #[.bl _,H,I,rfl,q]
 .obtain⟨as,r1⟩:=Dp.reads I (x:=.ref a) (u:=.ref a) (.tup hs hd) rfl;show SeqAt.notIn_tuple_reads r1 r2 c1 c2 (by omega) #[.bl _,H,I,rfl,q]
end
theorem aE{H:Hp}{l:Yc}{o:HO}(h:H l=Yb):aG H (upd H l o):=λb u e=>by rw[ak (au e h)];show e
def Om(d:Yc)(H H':Hp):Prop:=∀b,b≠d->H' b=H b
theorem Om.upd{d:Yc}{H:Hp}{o:HO}:Om d H (L2.upd H d o):=λb h=>ak h
theorem Om.at{d b:Yc}{H H':Hp}{o:Option HO}(e:Om d H H')(n:b≠d)(h:H b=o):H' b=o:=by rw[e b n];show h
theorem Om.of{d b:Yc}{H H':Hp}{o u:HO}(e:Om d H H')(hd:H d=Ya u)(h:H b=Ya o)(n:o≠u):H' b=Ya o:=e.at (cG h hd n) h
def nwT(xs:List V)(H:Hp)(Q:VK):Prop:=xs.length<=Yu/\∀p,H p=Yb->Q (.ref p) (upd H p (.tup xs))
def nwL(xs:List V)(H:Hp)(Q:VK):Prop:=xs.length<=Yu/\∀p,H p=Yb->Q (.ref p) (upd H p (.lst xs))
section
variable{D:q8}{σ:St}{H:Hp}{Q:VK}{K:Ye}
theorem eQ{t u:TS}(h:t {D with nx:=u D} σ H):aL t u D σ H:=h
theorem abj{te:TE}{g:TG}{u:TS}(h:te σ H λx H1=>g x σ H1 (u D)):aL (abn te g) u D σ H:=h
theorem aaY{te:TE}{u:TS}(h:te σ H λ_ H1=>u D σ H1):aL (Ti te) u D σ H:=h
theorem aa4{td ty tv:TE}{u:TS}(h:Px td ty tv {D with nx:=u D} σ H):aL (Px td ty tv) u D σ H:=h
theorem abm{wi:TI}{g:TG}{tb u:TS}(h:WV wi g tb {D with nx:=u D} σ H):aL (WV wi g tb) u D σ H:=h
theorem acG{c:TT}{tb u:TS}(h:Nk c tb {D with nx:=u D} σ H):aL (Nk c tb) u D σ H:=h
theorem aaQ{ta tv:TE}{f:Yh}{u:TS}(h:U9 K ta tv f {D with nx:=u D} σ H):aL (U9 K ta tv f) u D σ H:=h
theorem acM{c:TT}{te:TE}{u:TS}(h:c σ H λb H1=>if b=true then te σ H1 D.rt else u D σ H1):aL (Xj c (aaR te) OE) u D σ H:=h
theorem Sd(I:St->Hp->Prop){t u:TS}(h2:∀σ' H',I σ' H'->u D σ' H')(h:∀N:St->Hp->Prop,(∀σ' H',I σ' H'->N σ' H')->t {D with nx:=N} σ H):aL t u D σ H:=h _ h2
theorem pQ(h:D.nx σ H):OE D σ H:=h
theorem adY{te:TE}(h:te σ H D.rt):aaR te D σ H:=h
theorem abi{te:TE}(h:te σ H λ_ H1=>D.nx σ H1):Ti te D σ H:=h
theorem aea{te:TE}{g:TG}(h:te σ H λx H1=>g x σ H1 D.nx):abn te g D σ H:=h
theorem aed{c:TT}{t u:TS}(h:c σ H λb H1=>if b=true then t D σ H1 else u D σ H1):Xj c t u D σ H:=h
theorem aeg(h:D.bk σ H):U3 D σ H:=h
theorem abq{i:Nat}{v:V}{R:St->Hp->Prop}(h:R (σ.set i (Ya v)) H):Gx i v σ H R:=h
theorem ac0{R:St->Hp->Prop}(h:R σ H):acr [] σ H R:=#[rfl,h]
theorem WB{t:TG}{u:VY}{v:V}{r:List V}{R:St->Hp->Prop}(h:t v σ H λσ' H'=>u r σ' H' R):N9 t u (v::r) σ H R:=#[v,r,rfl,h]
theorem acR{n:Nat}{t:VY}{a:Yc}{xs:List V}{R:St->Hp->Prop}(h1:c8 K H a xs)(h2:xs.length=n)(h:t xs σ H R):Xc K n t (.ref a) σ H R:=#[a,xs,rfl,h1,h2,h]
theorem ad0{i:Nat}{v:V}(h1:σ[i]?=Ya (Ya v))(h:Q v H):Rm i σ H Q:=#[v,h1,h]
theorem x_c{v:V}(h:Q v H):tC v σ H Q:=h
theorem afF{r:R2}{ta tb:TE}(h:ta σ H λx H1=>tb σ H1 λy H2=>r x y H2 Q):tOp r ta tb σ H Q:=h
theorem afu{r:V->Hp->VK->Prop}{ta:TE}(h:ta σ H λx H1=>r x H1 Q):tUn r ta σ H Q:=h
theorem af3{g:Int->Int->V}{i j:Int}(h:Q (g i j) H):RV g (.int i) (.int j) H Q:=#[i,j,rfl,rfl,h]
theorem x_I{C:Int->Int->Prop}{g:Int->Int->V}{i j:Int}(hc:C i j)(h:Q (g i j) H):rI C g (.int i) (.int j) H Q:=#[i,j,rfl,rfl,hc,h]
theorem x_U{g:Int->V}{i:Int}(h:Q (g i) H):rU g (.int i) H Q:=#[i,rfl,h]
theorem afO(i j:Int):decide (V.int i=V.int j)=decide (i=j):=by
 by_cases h:i=j
 .subst h;rw[decide_eq_true rfl,decide_eq_true rfl]
 .rw[decide_eq_false h,decide_eq_false (λe=>h (V.int.inj e))]
theorem afM(i j:Yh):decide (V.str i=V.str j)=decide (i=j):=by
 by_cases h:i=j
 .subst h;rw[decide_eq_true rfl,decide_eq_true rfl]
 .rw[decide_eq_false h,decide_eq_false (λe=>h (V.str.inj e))]
theorem aeE{i j:Int}(h:Q (.bl (decide (i=j))) H):rEq (.int i) (.int j) H Q:=#[rfl,by rw[afO];show h]
theorem aes{i j:Yh}(h:Q (.bl (decide (i=j))) H):rEq (.str i) (.str j) H Q:=#[rfl,by rw[afM];show h]
theorem abb{t:TE}{R:Bool->Hp->Prop}(h:t σ H λx H'=>∃k,x=.bl k/\R k H'):Sq t σ H R:=h
theorem adZ{t:TE}{R:Bool->Hp->Prop}(h:t σ H λx H'=>∃k,Tz K x H' k/\R k H'):adI K t σ H R:=h
theorem x_b{t:TE}{R:Bool->Hp->Prop}(h:t σ H λx H'=>∃k,x=.bl k/\R k H'):tB t σ H R:=h
theorem aa3{c:Bool}{P:Bool->Prop}(h:P c):∃k,V.bl c=.bl k/\P k:=#[c,rfl,h]
theorem XA{c:Bool}{P:Bool->Prop}(h:P c):∃k,Tz K (.bl c) H k/\P k:=#[c,rfl,h]
theorem aeS{t u:TT}{R:Bool->Hp->Prop}(h:t σ H λc H1=>if c=true then u σ H1 R else R false H1):aer t u σ H R:=h
theorem af1{t u:TT}{R:Bool->Hp->Prop}(h:t σ H λc H1=>if c=true then R true H1 else u σ H1 R):tOr t u σ H R:=h
theorem aeD{t:TT}{R:Bool->Hp->Prop}(h:t σ H λc H1=>R (!c) H1):ae0 t σ H R:=h
theorem abD{ta tb:TE}(h:ta σ H λx H1=>∃c,x=.bl c/\if c=true then tb σ H1 Q else Q (.bl false) H1):aaI ta tb σ H Q:=h
theorem adC{ta tb:TE}(h:ta σ H λx H1=>∃c,x=.bl c/\if c=true then Q (.bl true) H1 else tb σ H1 Q):ad2 ta tb σ H Q:=h
theorem abc{ta:TE}(h:ta σ H λx H1=>∃c,x=.bl c/\Q (.bl (!c)) H1):aaw ta σ H Q:=h
theorem ae6{t:TT}{ta tb:TE}(h:t σ H λc H1=>if c=true then ta σ H1 Q else tb σ H1 Q):tIf t ta tb σ H Q:=h
theorem ae8{R:List V->Hp->Prop}(h:R [] H):KZ σ H R:=h
theorem aba{ta:TE}{tr:TA}{R:List V->Hp->Prop}(h:ta σ H λx H1=>tr σ H1 λxs H2=>R (x::xs) H2):Fs ta tr σ H R:=h
theorem ae4{t:TA}(h:t σ H λxs H1=>nwT xs H1 Q):acS t σ H Q:=h
theorem adX{t:TA}(h:t σ H λxs H1=>nwL xs H1 Q):adt t σ H Q:=h
theorem aeN{xs:List V}(hl:xs.length<=Yu)(h:∀p H',H p=Yb->aG H H'->H' p=Ya (.tup xs)->Q (.ref p) H'):nwT xs H Q:=#[hl,λp hp=>h p _ hp (aE hp) aj]
theorem aeK{xs:List V}(hl:xs.length<=Yu)(h:∀p H',H p=Yb->aG H H'->H' p=Ya (.lst xs)->Q (.ref p) H'):nwL xs H Q:=#[hl,λp hp=>h p _ hp (aE hp) aj]
theorem abf(h:∀p H',H p=Yb->aG H H'->H' p=Ya (.dK (dI []))->Q (.ref p) H'):VB σ H Q:=λp hp=>h p _ hp (aE hp) aj
theorem abF{sp:Sp}{dvs:List V}{E:XK}{t:TA}(h:t σ H λvs H1=>sp (vs++dvs) H1 Q E):N1 sp dvs E t σ H Q:=h
theorem afz{r:List V->Hp->VK->Prop}{t:TA}(h:t σ H λvs H1=>r vs H1 Q):tCB r t σ H Q:=h
theorem afC{r:V->Option Int->Option Int->Hp->VK->Prop}{te:TE}{tl th:TO}(h:te σ H λx H1=>tl σ H1 λl H2=>th σ H2 λu H3=>r x l u H3 Q):tSl r te tl th σ H Q:=h
theorem VT{R:Option Int->Hp->Prop}(h:R Yb H):Py σ H R:=h
theorem adb{t:TE}{R:Option Int->Hp->Prop}(h:t σ H λx H1=>∃i,x=.int i/\R (Ya i) H1):aaf t σ H R:=h
theorem XW{c:Int}{P:Int->Prop}(h:P c):∃k,V.int c=.int k/\P k:=#[c,rfl,h]
theorem adF{a:Yc}{xs:List V}{lo hi:Option Int}(h1:bZ K H a xs)(h:∀p H',H p=Yb->aG H H'->H' p=Ya (.lst (EZ xs lo hi))->Q (.ref p) H'):aaS K (.ref a) lo hi H Q:=#[a,xs,rfl,h1,λp hp=>h p _ hp (aE hp) aj]
theorem ael{a:Yc}{xs:List V}{i:Int}{v:V}(h1:bZ K H a xs)(h2:Fx xs i=Ya v)(h:Q v H):Wc K (.ref a) (.int i) H Q:=#[a,xs,i,v,rfl,rfl,h1,h2,h]
theorem aeL{a:Yc}{xs:List V}{i:Int}{v:V}(h1:c8 K H a xs)(h2:Fx xs i=Ya v)(h:Q v H):X3 K (.ref a) (.int i) H Q:=#[a,xs,i,v,rfl,rfl,h1,h2,h]
theorem acN{td ty:TE}(h:td σ H λx H1=>ty σ H1 λy H2=>∃a v,x=.ref a/\ud H2 a y (Ya v)/\Q v H2):aam td ty σ H Q:=h
theorem aev{td ty:TE}(h:ty σ H λy H1=>td σ H1 λx H2=>∃a o,x=.ref a/\ud H2 a y o/\Q (.bl o.isSome) H2):adV ty td σ H Q:=h
theorem ab3{td ty tv:TE}(h:tv σ H λv H1=>td σ H1 λx H2=>ty σ H2 λy H3=>∃a H4,x=.ref a/\HE H3 a y v H4/\D.nx σ H4):Px td ty tv D σ H:=h
theorem Sy{d:Yc}{m:List (Int×Int)}{k n:Int}{P:Hp->Prop}(hd:H d=Ya (.dK (dI m)))(nd:(m.map (·.1)).Nodup)(hl:m.length<Yu)(h:∀H2,Om d H H2->H2 d=Ya (.dK (dI (gC m k n)))->P H2):∃a H4,V.ref d=.ref a/\HE H a (.int k) (.int n) H4/\P H4:=
 #[d,_,rfl,.inl #[_,YG k,hd,rfl,by rw[ur];show hl,rfl],h _ .upd (by rw[aj,VR m k n nd])]
theorem adP{wi:TI}{g:TG}{tb:TS}(h:wi σ H λJ H1=>∃W:Nat->Nat->St->Hp->Prop,(∃m,W 0 m σ H1)/\∀i m σ H,W i m σ H->
 (J.stop i H/\D.nx σ H)∨(J.go i H/\∃N:St->Hp->Prop,(∀σ' H',N σ' H'->∃m',m'<m/\W (i+ 1) m' σ' H')/\∀x H',J.yld i H x H'->g x σ H' λσ2 H2=>tb {D with nx:=N,ct:=N,bk:=D.nx} σ2 H2)):WV wi g tb D σ H:=h
theorem XI{tl:TE}{R:It->Hp->Prop}(h:tl σ H λx H1=>∃a,x=.ref a/\(∃xs,bZ K H1 a xs)/\R (U0 K a) H1):Uj K tl σ H R:=h
theorem acK{a:Yc}{xs:List V}{P:Yc->Prop}(hd:bZ K H a xs)(h:P a):∃b,V.ref a=.ref b/\(∃xs,bZ K H b xs)/\P b:=#[a,rfl,#[xs,hd],h]
theorem ad5{ta:TA}{R:It->Hp->Prop}(h:ta σ H λvs H1=>∃j:Int,vs=[.int j]/\-(2^62)<=j/\j<2^62/\R (V1 0 j.toNat) H1):aaC ta σ H R:=h
theorem afr{T:String}{r:V->List V->Hp->VK->Prop}{to:TE}{t:TA}(h:to σ H λx H1=>tyV K T x H1/\t σ H1 λxs H2=>r x xs H2 Q):tBM K T r to t σ H Q:=h
theorem adH{T:String}{r:V->List V->Hp->VK->Prop}{to:TE}(h:to σ H λx H1=>tyV K T x H1/\r x [] H1 Q):aew K T r to σ H Q:=h
theorem adJ{a:Yc}{xs:List V}{P:Prop}(hd:H a=Ya (.lst xs))(h:P):tyV K "list" (.ref a) H/\P:=#[.inl #[rfl,_,bZ.of hd],h]
theorem Vj{a:Yc}{xs:List V}{y:V}(hd:H a=Ya (.lst xs))(hl:xs.length<Yu)(h:∀H2,Om a H H2->H2 a=Ya (.lst (xs++[y]))->Q .non H2):CD (.ref a) [y] H Q:=#[a,xs,y,rfl,rfl,hd,hl,h _ .upd aj]
theorem acH{src:List (Option Nat)}{wi:TI}{g:TG}{tt:TT}{te:TE}(h:wi σ H λJ H1=>∀D,H1 D=Yb->∃W:Nat->Nat->St->Hp->Prop,(∃m,W 0 m (J8 src σ) (upd H1 D (.lst [])))/\
 ∀i m σ' H',W i m σ' H'->(J.stop i H'/\Q (.ref D) H')∨(J.go i H'/\∃N:St->Hp->Prop,(∀σ2 H2,N σ2 H2->∃m',m'<m/\W (i+ 1) m' σ2 H2)/\
  ∀x H'',J.yld i H' x H''->j8 g tt te D N x σ' H'')):aae src wi g tt te σ H Q:=h
theorem abd{a:Yc}{kvs:List (cj×V)}{P:List (cj×V)->Prop}(hd:Rd H a (.dK kvs))(h:P kvs):∃p ys,[V.ref a]=[.ref p]/\Rd H p (.dK ys)/\P ys:=#[a,kvs,rfl,hd,h]
end
theorem aeB{A B:Prop}(h:B):if(!true)=true then A else B:=h
theorem ad7{A B:Prop}(h:A):if(!false)=true then A else B:=h
section
variable{X:Cx}{K:Ye}
theorem dw(hK:X.K=K):RY X (X3 K):=by subst hK;show Uh
theorem EW(hK:X.K=K):RY X (Wc K):=by subst hK;show OF
theorem Ew(hK:X.K=K):SlR X (aaS K):=by subst hK;show Ww
theorem Wl(hK:X.K=K):SlR X (aa7 K):=by subst hK;show acv
theorem acf(hK:X.K=K)(hu:X.A.units+ 64<ab0):sI X (xk .Eq) (aeT K):=by subst hK;show Xz hu
theorem XC(hK:X.K=K)(hu:X.A.units+ 64<ab0):sI X (xk .NotIn) (WY K true):=by subst hK;show QO hu
def adU(K:Ye):List V->Hp->VK->Prop:=λxs H Q=>∃p ys,xs=[.ref p]/\(bZ K H p ys∨c8 K H p ys)/\Q (.int ys.length) H
theorem lK(hK:X.K=K):eU X (.builtin "len") (adU K):=by subst hK;show Jm
def Pq(K:Ye):List V->Hp->VK->Prop:=λxs H Q=>∃p ys,xs=[.ref p]/\(bZ K H p ys∨c8 K H p ys)/\∀l,H l=Yb->Q (.ref l) (upd H l (.lst ys))
theorem xT(hK:X.K=K):eU X (.type "list") (Pq K):=by subst hK;show IE
def S6(K:Ye):List V->Hp->VK->Prop:=λxs H Q=>∃p ys,xs=[.ref p]/\((bZ K H p ys/\∀l,H l=Yb->Q (.ref l) (upd H l (.tup ys)))∨(c8 K H p ys/\Q (.ref p) H))
theorem LH(hK:X.K=K):eU X (.type "tuple") (S6 K):=by subst hK;show Fz
def afH(K:Ye):List V->Hp->VK->Prop:=λxs H Q=>∃(x:V) (t:Yd) (T:String) (b:Bool),xs=[x,.ty T]/\yl K H x t/\cw K t (.type T)=Ya b/\Q (.bl b) H
theorem lJ(hK:X.K=K):eU X (.builtin "isinstance") (afH K):=by subst hK;show Lb
def Va:List V->Hp->VK->Prop:=λxs H Q=>∃(d:Yc) (kvs:List (cj×V)),xs=[.ref d]/\Rd H d (.dK kvs)/\∀p,H p=Yb->Q (.ref p) (upd H p (.dK kvs))
theorem QA:eU X (.type "dict") Va:=Nt
theorem IS{es:List YY}{k:Nat}{t:VY}{n:Nat}{pos:adq}(hK:X.K=K)(hc:X.calm=true)(h:PGs X es t)(hn:autoParam ((ahx es X.env).length=n) aq0)(hst:autoParam ((ahx es X.env).findIdx? (·.1)=none) aq0):PG X (.Tuple es k pos) (Xc K n t):=by subst hK;show abU hc h hn hst
theorem cJ{tg l:YY}{tl:TE}(hK:X.K=K)(hl:PE X l tl):PI X tg l (Uj K tl):=by subst hK;show V8 hl
theorem Oi{tg l:YY}{tl:TE}(hK:X.K=K)(hl:PE X l tl):PI X tg l (ac6 K tl):=by subst hK;show abC hl
theorem xP{o e:YY}{to:TE}{t:TA}{apos cpos:adq}(hK:X.K=K)(h:PE X (.Call (.Attribute o "append" apos) [e] [] cpos) (tBM X.K "list" CD to t)):PE X (.Call (.Attribute o "append" apos) [e] [] cpos) (tBM K "list" CD to t):=by subst hK;show h
end
section
variable{H:Hp}{Q:VK}{K:Ye}
theorem VE{a:Yc}{xs:List V}(hd:bZ K H a xs)(h:∀p H',H p=Yb->aG H H'->H' p=Ya (.lst xs)->Q (.ref p) H'):Pq K [.ref a] H Q:=#[a,xs,rfl,.inl hd,λp hp=>h p _ hp (aE hp) aj]
end
theorem dE{H H':Hp}{a:Yc}{u:HO}(s:aG H H')(h:Rd H a u):Rd H' a u:=by
 rcases h with h|⟨o,h⟩
 .show .inl (s _ _ h)
 .show .inr #[o,s _ _ h]
theorem bI{α:Type}{ls:List α}{i:Nat}{n:α}(h:ls[i]?=Ya n):ls.take (i+ 1)=ls.take i++[n]:=by
 rw[amg,h];rfl
theorem ot{ms:List Int}{i:Nat}{x:V}(h:(ms.map V.int)[i]?=Ya x):∃n:Int,ms[i]?=Ya n/\x=.int n:=by
 rw[YJ]at h;cases e:ms[i]? with
 |none=>rw[e]at h;cases h
 |some n=>rw[e]at h;show#[n,rfl,(YM h).symm]
theorem Ox{α:Type}{xs:List α}{i:Int}{v:α}(h0:0<=i)(h:xs[i.toNat]?=Ya v):Fx xs i=Ya v:=by
 obtain⟨n,rfl⟩:=ahD h0;show m6 h
abbrev Nm:=Int×Int×Int
noncomputable def Sv(p:Nm):ae2:=.tuple [.int p.1,.int p.2.1,.int p.2.2]
def BM(H:Hp)(x:V)(p:Nm):Prop:=∃a,x=.ref a/\H a=Ya (.tup [.int p.1,.int p.2.1,.int p.2.2])
abbrev xZ(H:Hp):List V->List Nm->Prop:=Aq (BM H)
def pT(H H':Hp):Prop:=∀a xs,H a=Ya (.tup xs)->H' a=Ya (.tup xs)
theorem pT.trans{H1 H2 H3:Hp}(a:pT H1 H2)(b:pT H2 H3):pT H1 H3:=λ_ _ h=>b _ _ (a _ _ h)
theorem pT.same{H H':Hp}(e:aG H H'):pT H H':=λ_ _ h=>e _ _ h
theorem pT.upd{H:Hp}{l:Yc}{o:HO}(h1:∀xs,H l≠Ya (.tup xs)):pT H (upd H l o):=λa xs h=>by
 have:a≠l:=λe=>h1 xs (e▸h);rw[ak this];show h
theorem pT.lst{H:Hp}{l:Yc}{o:HO}{ys:List V}(h:H l=Ya (.lst ys)):pT H (L2.upd H l o):=.upd (λ_ z=>by rw[h]at z;cases z)
theorem BM.up{H H':Hp}(m:pT H H'){x:V}{p:Nm}(h:BM H x p):BM H' x p:=by
 obtain⟨a,e,h⟩:=h;show#[a,e,m _ _ h]
theorem xZ.up{H H':Hp}(m:pT H H'):∀{xs:List V} {ns:List Nm},xZ H xs ns->xZ H' xs ns
 |_,_,.nil=>.nil
 |_,_,.cons r t=>.cons (r.up m) (xZ.up m t)
theorem xZ.get{H:Hp}:∀{xs:List V} {ns:List Nm} {i:Nat} {x:V},xZ H xs ns->xs[i]?=Ya x->∃p,ns[i]?=Ya p/\BM H x p:=by
 intro a b i x w
 induction w generalizing i with
 |nil=>show λe=>by simp at e
 |cons r _ ih=>
  intro e;cases i with
  |zero=>simp at e;subst e;show#[_,rfl,r]
  |succ i=>
   obtain⟨p,h1,h2⟩:=ih (i:=i) (by simpa using e);show#[p,by simpa using h1,h2]
theorem xZ.len{H:Hp}{xs:List V}{ns:List Nm}(h:xZ H xs ns):xs.length=ns.length:=Y2 h
theorem xZ.at{H:Hp}{xs:List V}{ns:List Nm}{i:Nat}(h:xZ H xs ns)(hi:i<ns.length):∃x,xs[i]?=Ya x/\BM H x ns[i]:=by
 have hx:i<xs.length:=by rw[h.len];show hi
 obtain⟨p,e,r⟩:=h.get (Yw hx);rw[Yw hi]at e;cases e;show#[_,Yw hx,r]
theorem xZ.snoc{H:Hp}:∀{xs:List V} {ns:List Nm} {x:V} {p:Nm},xZ H xs ns->BM H x p->xZ H (xs++[x]) (ns++[p]):=by
 intro x0 x1 x2 x3 w h
 induction w with
 |nil=>show .cons h .nil
 |cons r _ ih=>show .cons r ih
theorem BM.dp{K:Ye}{H:Hp}{x:V}{p:Nm}(h:BM H x p):Dp K H x (Sv p):=by
 obtain⟨a,rfl,h⟩:=h;show .tup (c8.of h) (.cons (.int _) (.cons (.int _) (.cons (.int _) .nil)))
theorem UJ(p:Nm):(Sv p).canLay0=true:=rfl
section
variable{H:Hp}{Q:VK}{K:Ye}{X:Cx}
theorem OW(hK:X.K=K):RY X (rIx K):=by subst hK;show ach
theorem aeC{a:Yc}{xs:List V}{i:Int}{v:V}(h1:bZ K H a xs∨c8 K H a xs)(h2:Fx xs i=Ya v)(h:Q v H):rIx K (.ref a) (.int i) H Q:=by
 rcases h1 with h1|h1
 .show .inl #[a,xs,i,v,rfl,rfl,h1,h2,h]
 .show .inr (.inl #[a,xs,i,v,rfl,rfl,h1,h2,h])
theorem WS{a:Yc}{xs:List V}(hd:bZ K H a xs∨c8 K H a xs)(h:Q (.int xs.length) H):adU K [.ref a] H Q:=#[a,xs,rfl,hd,h]
end
theorem Su{P:Prop}(h:P):V.non=V.non/\P:=#[rfl,h]
section
variable{X:Cx}{k:Nat}{f C:Yc}{fd:Yr}{ps:List Yh}{sp:Sp}{x m:Yh}{p pos apos:adq}{e o:YY}{es:List YY}{ta:TE}{t:TA}
theorem Uz{pl:ag1 Bool}(hg:Gl X x)(hm:X.mg x=Ya (.ref C))(c:UB X.K C m f)(F:aw X.prog X.w X.K X.mg X.base bo k f fd ps sp)(hb:Binds X.K fd ps [])(hr:cV k X.A)(ha:PA X (e::es) t)
  (hdb:autoParam ((x==("__debug__":Yh))=false) aq1)
  (hst:autoParam (YC (e::es) X.env=(false,Y3 e X.env)::YC es X.env) aq0) (hpl:autoParam ((tq pos (YC es X.env)).any (·.1)=false) aq0)
  (ht:autoParam (Y3 (.Call (.Attribute (.Name x p) m apos) (e::es) [] pos) X.env=(do
   let ov←Y3 (.Name x p) X.env
   agX apos.atName
   let (f,first)←afR [ov] (agm ov m pl)
   ag7 pos f first (tq pos (YC (e::es) X.env)) (adj pos (BD [] X.env)))) aq0):
  PE X (.Call (.Attribute (.Name x p) m apos) (e::es) [] pos) (N1 sp [] E0 t):=by
 intro pins s σ H Q I h;show KW (pl:=pl) (cR (jT (v:=.ref C) hg hm rfl hdb pins s σ H (λv H1=>v=.ref C/\t σ H1 λvs H2=>sp (vs++[]) H2 Q E0) I #[rfl,h]) λu s1 zz=>?_) ht;obtain⟨x,H1,I1,rx,ex,q⟩:=zz;subst ex;obtain rfl:u=Yv C:=rx;show PySem.W.method_cls I1.kIn c.ga (PySem.W.cls_value I1.kIn c.rd c.at_ c.hd ?_);show acD (first:=[]) (h₀:=X.base) I.ok.mod.kin c.kp (cR (ha pos pins _ σ H1 _ (I1.tok _) q) λus s2 ⟨vs,H2,I2,r,q2⟩=>#[I2.kIn,?_]) hst hpl;show uH (us:=us) (vs:=vs) F hr hb .nil rJ I2 r q2
def cC(P:YU)(w:YZ)(K:Ye)(mg:Yh->Option Yd)(base:YO)(k:Nat)(m:Yh)(ms:List (Yc×Sp)):Prop:=
 ∀cs∈ms,∃f fd ps,CJ K cs.1/\aX K cs.1 m f/\aw P w K mg base bo k f fd ps cs.2/\Binds K fd ps []
theorem cC.nil{P:YU}{w:YZ}{K:Ye}{mg:Yh->Option Yd}{base:YO}:cC P w K mg base k m []:=λ_ h=>nomatch h
theorem cC.cons{P:YU}{w:YZ}{K:Ye}{mg:Yh->Option Yd}{base:YO}{ms:List (Yc×Sp)}(c:CJ K C)(hm:aX K C m f)(F:aw P w K mg base bo k f fd ps sp)(hb:Binds K fd ps [])(r:cC P w K mg base k m ms):cC P w K mg base k m ((C,sp)::ms):=by
 intro cs h;rcases Yq.mp h with rfl|h
 .show#[f,fd,ps,c,hm,F,hb]
 .show r cs h
def mtS(ms:List (Yc×Sp))(m:Yh)(t:TA)(σ:St)(x:V)(H:Hp)(Q:VK):Prop:=
 ∃cs∈ms,∃a dx fs,x=.ref a/\H a=Ya (.ins cs.1 dx fs)/\fs.lookup m=Yb/\t σ H λvs H2=>cs.2 (x::(vs++[])) H2 Q E0
def Nu(ms:List (Yc×Sp))(m:Yh)(ta:TE)(t:TA):TE:=λσ H Q=>ta σ H λx H1=>mtS ms m t σ x H1 Q
theorem eJ{pl:ag1 Bool}{ms:List (Yc×Sp)}(M:cC X.prog X.w X.K X.mg X.base k m ms)(he:PE X o ta)(hr:cV k X.A)(ha:PA X (e::es) t)
  (hst:autoParam (YC (e::es) X.env=(false,Y3 e X.env)::YC es X.env) aq0) (hpl:autoParam ((tq pos (YC es X.env)).any (·.1)=false) aq0)
  (ht:autoParam (Y3 (.Call (.Attribute o m apos) (e::es) [] pos) X.env=(do
   let ov←Y3 o X.env
   agX apos.atName
   let (f,first)←afR [ov] (agm ov m pl)
   ag7 pos f first (tq pos (YC (e::es) X.env)) (adj pos (BD [] X.env)))) aq0):
  PE X (.Call (.Attribute o m apos) (e::es) [] pos) (Nu ms m ta t):=by
 intro pins s σ H Q I h;show KW (pl:=pl) (cR (he pins s σ H _ I h) λu s1 zz=>?_) ht;obtain⟨x,H1,I1,rx,cs,hcs,a,dx,fs,ex,ea,l,q⟩:=zz;subst ex;obtain rfl:u=Yv a:=rx;obtain⟨f,fd,ps,c,hm,F,hb⟩:=M cs hcs;show gX I1 ea c hm l ?_;show acD (first:=[.ref a]) (h₀:=X.base) I.ok.mod.kin hm.kp (cR (ha pos pins s1 σ H1 _ I1 q) λus s2 ⟨vs,H2,I2,r,q2⟩=>#[I2.kIn,?_]) hst hpl;show uH (us:=.ref a::us) (vs:=.ref a::vs) F hr hb .nil rJ I2 (.cons rfl r) q2
theorem aQ{pl:ag1 Bool}{ms:List (Yc×Sp)}(M:cC X.prog X.w X.K X.mg X.base k m ms)(he:PE X o ta)(hr:cV k X.A)
  (ht:autoParam (Y3 (.Call (.Attribute o m apos) [] [] pos) X.env=(do
   let ov←Y3 o X.env
   agX apos.atName
   let (f,first)←afR [ov] (agm ov m pl)
   ag7 pos f first (tq pos (YC [] X.env)) (adj pos (BD [] X.env)))) aq0):
  PE X (.Call (.Attribute o m apos) [] [] pos) (Nu ms m ta KZ):=by
 intro pins s σ H Q I h;show KW (pl:=pl) (cR (he pins s σ H _ I h) λu s1 zz=>?_) ht;obtain⟨x,H1,I1,rx,cs,hcs,a,dx,fs,ex,ea,l,q⟩:=zz;subst ex;obtain rfl:u=Yv a:=rx;obtain⟨f,fd,ps,c,hm,F,hb⟩:=M cs hcs;show gX I1 ea c hm l ?_;show aii (first:=[.ref a]) I1.kIn hm.kp (uH (us:=[.ref a]) (vs:=[.ref a]) F hr hb .nil rJ I1 (.cons rfl .nil) q)
end
section
variable{X:Cx}{K:Ye}
theorem ao{e:YY}{ta:TE}{f:Yh}{pos:adq}(hK:X.K=K)(he:PE X e ta)(hb:afd e f X.env (Y3 e X.env)=Y3 e X.env):PE X (.Attribute e f pos) (acU K ta f):=by subst hK;show acX he hb
theorem aR{o value:YY}{ta tv:TE}{f:Yh}{pos pos':adq}(hK:X.K=K)(ha:PE X o ta)(hv:PE X value tv)(hs:aiB value (Ya (.Attribute o f pos')) pos.line X.env=pure false):PS X (.Assign [.Attribute o f pos'] value pos) (U9 K ta tv f):=by subst hK;show abK ha hv hs
end
section
variable{D:q8}{σ:St}{H:Hp}{Q:VK}{K:Ye}
def ad3(K:Ye)(f:Yh)(x:V)(H:Hp)(Q:VK):Prop:=∃a C dx fs v,x=.ref a/\H a=Ya (.ins C dx fs)/\CJ K C/\bu K C f/\fs.lookup f=Ya v/\Q v H
theorem ad8{ta:TE}{f:Yh}(h:ta σ H λx H1=>ad3 K f x H1 Q):acU K ta f σ H Q:=h
theorem abr{f:Yh}{a C dx:Yc}{fs:List (Yh×V)}{v:V}(e:H a=Ya (.ins C dx fs))(c:CJ K C)(n:bu K C f)(l:fs.lookup f=Ya v)(h:Q v H):ad3 K f (.ref a) H Q:=#[a,C,dx,fs,v,rfl,e,c,n,l,h]
def sfK(K:Ye)(f:Yh)(y x:V)(H:Hp)(R:Hp->Prop):Prop:=∃a C dx fs,x=.ref a/\H a=Ya (.ins C dx fs)/\CJ K C/\bu K C f/\fs.length<1000/\R (upd H a (.ins C dx (bY f y fs)))
theorem aa8{ta tv:TE}{f:Yh}(h:tv σ H λy H1=>ta σ H1 λx H2=>sfK K f y x H2 λH3=>D.nx σ H3):U9 K ta tv f D σ H:=h
theorem adO{f:Yh}{y:V}{a C dx:Yc}{fs:List (Yh×V)}{R:Hp->Prop}(e:H a=Ya (.ins C dx fs))(c:CJ K C)(n:bu K C f)(hl:fs.length<1000)(h:∀H2,Om a H H2->H2 a=Ya (.ins C dx (bY f y fs))->R H2):sfK K f y (.ref a) H R:=#[a,C,dx,fs,rfl,e,c,n,hl,h _ .upd aj]
theorem WW{ms:List (Yc×Sp)}{m:Yh}{ta:TE}{t:TA}(h:ta σ H λx H1=>mtS ms m t σ x H1 Q):Nu ms m ta t σ H Q:=h
theorem ME{ms:List (Yc×Sp)}{m:Yh}{t:TA}{C a dx:Yc}{sp:Sp}{fs:List (Yh×V)}(e:H a=Ya (.ins C dx fs))(l:fs.lookup m=Yb)(h:t σ H λvs H2=>sp (.ref a::(vs++[])) H2 Q E0):mtS ((C,sp)::ms) m t σ (.ref a) H Q:=
 #[(C,sp),Yy,a,dx,fs,rfl,e,l,h]
theorem MX{ms:List (Yc×Sp)}{m:Yh}{t:TA}{cs:Yc×Sp}{x:V}(h:mtS ms m t σ x H Q):mtS (cs::ms) m t σ x H Q:=by
 obtain⟨c,h1,h2⟩:=h;show#[c,Yx _ h1,h2]
def mkK(C:Yc)(sp:Sp)(vs:List V)(H:Hp)(Q:VK):Prop:=∀x dx,H x=Yb->H dx=Yb->dx≠x->sp (.ref x::(vs++[])) (upd (upd H dx (.own x)) x (.ins C dx [])) (λv H2=>v=.non/\Q (.ref x) H2) E0
theorem acI{C:Yc}{sp:Sp}{t:TA}(h:t σ H λvs H1=>mkK C sp vs H1 Q):UZ C sp [] E0 t σ H Q:=h
theorem afW{C:Yc}{sp:Sp}{vs:List V}(h:∀x dx H',H x=Yb->aG H H'->H' x=Ya (.ins C dx [])->sp (.ref x::(vs++[])) H' (λv H2=>v=.non/\Q (.ref x) H2) E0):mkK C sp vs H Q:=by
 intro x dx nx ndx nex;show h x dx _ nx (λb o e=>?_) aj;rw[ak (au e nx),ak (au e ndx)];show e
end
theorem afp{f b c:St->Hp->Prop}{r:VK}{σ:St}{H:Hp}(h:f σ H):q8.nx #[f,r,b,c] σ H:=h
theorem adB{σ:St}{H:Hp}{R:Bool->Hp->Prop}(h:R true H):ab8 σ H R:=h
theorem ab1{g:TG}{tt:TT}{te:TE}{D:Yc}{N:St->Hp->Prop}{x:V}{σ:St}{H:Hp}(h:g x σ H λσ2 H2=>tt σ2 H2 λb H3=>if b=true then te σ2 H3 λy H4=>∃ys,H4 D=Ya (.lst ys)/\ys.length<Yu/\N σ2 (upd H4 D (.lst (ys++[y])))else N σ2 H3):j8 g tt te D N x σ H:=h
theorem aa0{D:q8}{σ:St}{H:Hp}{c:TT}{u:TS}(h:c σ H λb H1=>if b=true then False else u D σ H1):aL (Xj c U4 OE) u D σ H:=h
theorem Lf{H H':Hp}(s:aG H H'){xs:List V}{ps:List (Int×Int)}(r:qP H xs ps):qP H' xs ps:=r.mono λa xs e=>s a _ e
theorem TF{K:Ye}{H H':Hp}{a:Yc}{xs:List V}(e:aG H H')(h:c8 K H a xs):c8 K H' a xs:=by
 rcases h with(h|⟨o,h⟩)|h
 .show .inl (.inl (e _ _ h))
 .show .inl (.inr #[o,e _ _ h])
 .show .inr h
theorem Ux{H H':Hp}(s:aG H H'){xs:List V}{ms:List (List (Int×Int))}(r:VW H xs ms):VW H' xs ms:=Aq.mapP r λ_ _ ⟨d,e,q⟩=>#[d,e,dE s q]
structure Ck(m:List (Int×Int)):Prop where
 nd:(m.map (·.1)).Nodup
 nn:∀p∈m,0<=p.2
 rg:∀p∈m,0<=p.1/\p.1<63
noncomputable def V5:List Int:=(gp 63).map fun(h:Nat)=>(h:Int)
theorem ab5{k:Int}:k∈V5↔0<=k/\k<63:=by
 unfold V5;rw[YX];constructor
 .rintro⟨n,hn,rfl⟩;have:=adn.mp hn;omega
 .rintro⟨h0,h1⟩;show#[k.toNat,adn.mpr (by omega),by omega]
theorem Te{α:Type}[DecidableEq α]:∀{l m:List α},l.Nodup->(∀x∈l,x∈m)->l.length<=m.length
 |[],m,_,_=>Y1 _
 |x::l,m,nd,sub=>by
  rw[xp]at nd;have hx:=sub x Yy;have pm:=akm hx;have:=Te (l:=l) (m:=m.erase x) nd.2 λy hy=>(ah8 (show y≠x from λz=>nd.1 (z▸hy))).mpr (sub y (Yx _ hy));have q:=pm.length_eq;rw[cT]at q⊢;omega
theorem qR{l:List Int}(nd:l.Nodup)(h:∀k∈l,0<=k/\k<63):l.length<64:=by
 have:=Te nd (m:=V5) λk hk=>ab5.mpr (h k hk);unfold V5 at this;rw[Yj,aeb]at this;omega
theorem Ck.keys{m:List (Int×Int)}(c:Ck m):∀k∈m.map (·.1),0<=k/\k<63:=λk hk=>by
 obtain⟨p,hp,e⟩:=YX.mp hk;rw[←e];show c.rg p hp
theorem Ck.len{m:List (Int×Int)}(c:Ck m):m.length<64:=by
 have:=qR c.nd c.keys;rw[Yj]at this;show this
theorem Ck.nil:Ck []:=#[aj0,(λp hp=>nomatch hp),(λp hp=>nomatch hp)]
theorem Ck.ct{m:List (Int×Int)}(c:Ck m)(k:Int):0<=ct m k:=by
 unfold L2.ct;cases e:Cb m k with
 |none=>show aeZ _
 |some v=>show c.nn _ (Nx e)
theorem xU{m:List (Int×Int)}{k:Int}(h:k∉m.map (·.1)):ct m k=0:=by
 unfold ct;rw[WD h];rfl
theorem ae3{m:List (Int×Int)}{k:Int}(h:k∈m.map (·.1)):Cb m k=Ya (ct m k):=by
 obtain⟨v,e⟩:=Xf h;unfold ct;rw[e];rfl
theorem aeX{m:List (Int×Int)}(nd:(m.map (·.1)).Nodup){p:Int×Int}(h:p∈m):ct m p.1=p.2:=by
 unfold ct;rw[aaE (k:=p.1) (v:=p.2) nd h];rfl
theorem Ck.put{m:List (Int×Int)}(c:Ck m){k v:Int}(h0:0<=k)(h1:k<63)(hv:0<=v):Ck (gC m k v):=
 #[SE m k v c.nd,λp hp=>by
  rcases zq m k v p hp with z|z
  .rw[z];show hv
  .show c.nn p z,λp hp=>by
  rcases zq m k v p hp with z|z
  .rw[z];show#[h0,h1]
  .show c.rg p z]
theorem AI(m:List (Int×Int))(k v j:Int):ct (gC m k v) j=if j=k then v else ct m j:=by
 unfold ct;rw[RZ];split<;>rfl
structure Td(m:List (Int×Int)):Prop extends Ck m where
 ps:∀p∈m,0<p.2
theorem Td.nil:Td []:=#[Ck.nil,(λp hp=>nomatch hp)]
def Uu(ms:List (List (Int×Int)))(k b:Int):Prop:=(∃m∈ms,ct m k=b)/\∀m∈ms,ct m k<=b
def NU(ms:List (List (Int×Int)))(k b:Int):Prop:=(∃m∈ms,ct m k=b)/\∀m∈ms,b<=ct m k
noncomputable def cov(m n:List (Int×Int)):Bool:=(gp 63).all fun(h:Nat)=>decide (ct n h<=ct m h)
theorem W9{m n:List (Int×Int)}(cm:Ck m)(cn:Ck n):cov m n=true↔∀k,ct n k<=ct m k:=by
 unfold cov;rw[alv];constructor
 .intro h k;by_cases hk:0<=k/\k<63
  .have:=of_decide_eq_true (h k.toNat (adn.mpr (by omega)));rw[show((k.toNat:Nat):Int)=k by omega]at this;show this
  .rw[xU (λz=>hk (cn.keys k z))];show cm.ct k
 .intro h n _;show decide_eq_true (h n)
noncomputable def iN(ps:List (Int×Int)):List (Int×Int):=ps.filter λp=>decide (0<p.2)
theorem XS{ps:List (Int×Int)}{p:Int×Int}(h:0<p.2):iN (ps++[p])=iN ps++[p]:=by
 unfold iN;rw[gf,xy,decide_eq_true h];rfl
theorem abX{ps:List (Int×Int)}{p:Int×Int}(h:¬ 0<p.2):iN (ps++[p])=iN ps:=by
 unfold iN;rw[gf,xy,decide_eq_false h];show Y4 _
theorem HH{ps:List (Int×Int)}(h:(ps.map (·.1)).Nodup):((iN ps).map (·.1)).Nodup:=by
 unfold iN;show h.sublist ((aik).map _)
theorem Wu(ps:List (Int×Int)):(iN ps).length<=ps.length:=km _ _
noncomputable def UU(S:List Int)(f:Int->Int):List (Int×Int):=S.map λk=>(k,f k)
theorem qt(S:List Int)(f:Int->Int):(UU S f).map (·.1)=S:=by
 unfold UU;rw[adk];show ajR _
theorem U5{S:List Int}{f:Int->Int}(nd:S.Nodup)(rg:∀k∈S,0<=k/\k<63):Td (iN (UU S f)):=by
 have mem:∀p∈iN (UU S f),0<p.2/\p.1∈S:=λp hp=>by
  have h:=aab.mp hp;show#[of_decide_eq_true h.2,?_];have:=xj (f:=(·.1)) h.1;rw[qt]at this;show this
 show#[#[HH (by rw[qt];show nd),λp hp=>ae9 (mem p hp).1,λp hp=>rg _ (mem p hp).2],λp hp=>(mem p hp).1]
theorem Us{S:List Int}{f:Int->Int}(nd:S.Nodup)(k:Int)(hk:k∈S)(h0:0<=f k):ct (iN (UU S f)) k=f k:=by
 by_cases h:0<f k
 .have hm:(k,f k)∈iN (UU S f):=aab.mpr #[xj (f:=λk=>(k,f k)) hk,decide_eq_true h];show aeX (p:=(k,f k)) (HH (by rw[qt];show nd)) hm
 .have e:f k=0:=by omega
  rw[e];apply xU;intro z;obtain⟨p,hp,e2⟩:=YX.mp z;have q:=aab.mp hp;obtain⟨k',_,e3⟩:=YX.mp q.1;have:=of_decide_eq_true q.2;rw[←e3]at e2 this;have e2:k'=k:=e2;rw[e2]at this;show h this
theorem O6{S:List Int}{f:Int->Int}{k:Int}(hk:k∉S):ct (iN (UU S f)) k=0:=by
 apply xU;intro z;apply hk;have:k∈(UU S f).map (·.1):=((aik).map _).subset z;rw[qt]at this;show this
theorem two{m n:List (Int×Int)}{k:Int}:(∃x∈[m,n],k∈x.map (·.1))↔k∈m.map (·.1)∨k∈n.map (·.1):=by simp
noncomputable def Gs(m:List (Int×Int))(S:List Int):List (Int×Int):=(S.filter λk=>decide (0<ct m k)).map λk=>(k,ct m k)
theorem WL{m:List (Int×Int)}{S:List Int}{k:Int}(h:0<ct m k):Gs m (S++[k])=Gs m S++[(k,ct m k)]:=by
 unfold Gs;rw[gf,YD,xy,decide_eq_true h];rfl
theorem abZ{m:List (Int×Int)}{S:List Int}{k:Int}(h:¬ 0<ct m k):Gs m (S++[k])=Gs m S:=by
 unfold Gs;rw[gf,YD,xy,decide_eq_false h];show Y4 _
theorem XE(m:List (Int×Int))(h:Int):((hX (dI m) (YG h:cj)).getD (.int 0))=V.int (ct m h):=by
 rw[Iw];unfold ct;cases Cb m h<;>rfl
noncomputable def z5(n c k w cs:V):List (Yh×V):=[("number",n),("caller",c),("count",k),("word",w),("causes",cs)]
theorem Xg(n c k w cs:V):bY "causes" cs (bY "word" w (bY "count" k (bY "caller" c (bY "number" n []))))=z5 n c k w cs:=by
 have e:∀(a b:Yh),decide (a=b)=false->a≠b:=λa b h=>of_decide_eq_false h;simp only[bY,z5,if_neg (e "number" "caller" (by decide +kernel)),if_neg (e "number" "count" (by decide +kernel)),if_neg (e "caller" "count" (by decide +kernel)),if_neg (e "number" "word" (by decide +kernel)),if_neg (e "caller" "word" (by decide +kernel)),if_neg (e "count" "word" (by decide +kernel)),if_neg (e "number" "causes" (by decide +kernel)),if_neg (e "caller" "causes" (by decide +kernel)),if_neg (e "count" "causes" (by decide +kernel)),if_neg (e "word" "causes" (by decide +kernel))]
theorem Nj{n c k w cs:V}:(z5 n c k w cs).lookup ("number":Yh)=Ya n:=by kernel_rfl
theorem NQ{n c k w cs:V}:(z5 n c k w cs).lookup ("caller":Yh)=Ya c:=by kernel_rfl
theorem RN{n c k w cs:V}:(z5 n c k w cs).lookup ("count":Yh)=Ya k:=by kernel_rfl
theorem UM{n c k w cs:V}:(z5 n c k w cs).lookup ("word":Yh)=Ya w:=by kernel_rfl
theorem MP{n c k w cs:V}:(z5 n c k w cs).lookup ("causes":Yh)=Ya cs:=by kernel_rfl
theorem Vd{n c k w cs:V}:(z5 n c k w cs).lookup ("free":Yh)=none:=by kernel_rfl
theorem LA{n c k w cs:V}:(z5 n c k w cs).lookup ("in_turn":Yh)=none:=by kernel_rfl
theorem Dg{n c k w cs:V}:(z5 n c k w cs).lookup ("asks_place":Yh)=none:=by kernel_rfl
theorem SU{n c k w cs:V}:(z5 n c k w cs).lookup ("kind":Yh)=none:=by kernel_rfl
theorem Vx{n c k w cs:V}:(z5 n c k w cs).lookup ("name":Yh)=none:=by kernel_rfl
theorem Ug{n c k w cs:V}:(z5 n c k w cs).lookup ("rank":Yh)=none:=by kernel_rfl
theorem VH{n c k w cs:V}:(z5 n c k w cs).lookup ("told":Yh)=none:=by kernel_rfl
theorem Xl{K:Ye}{H:Hp}{Q:VK}{a:Yc}{kd:Yh}(h:kd="own"∨kd="heard"∨kd="one")(ha:c8 K H a [.str "own",.str "heard",.str "one"])(q:Q (.bl false) H):WY K true (.str kd) (.ref a) H Q:=by
 show#[a,_,_,_,rfl,.inr ha,.cons (.str _) (.cons (.str _) (.cons (.str _) .nil)),.str kd,by kernel_rfl,?_,by change 0<=60;decide,?_]
 .rcases h with rfl|rfl|rfl<;>kernel_rfl
 .have e:(([.str "own",.str "heard",.str "one"]:List ae2).any λz=>z.eqv (.str kd))=true:=by rcases h with rfl|rfl|rfl<;>kernel_rfl
  change Q (.bl (!_)) H;rw[e];show q
theorem adQ:decide (("heard":Yh)="own")=false:=by decide +kernel
theorem aeU:decide (("one":Yh)="own")=false:=by decide +kernel
theorem aeQ:decide (("one":Yh)="heard")=false:=by decide +kernel
theorem aef:decide (("own":Yh)="own")=true:=by decide +kernel
theorem aep:decide (("heard":Yh)="heard")=true:=by decide +kernel
theorem UO{H:Hp}{Q:VK}{a b:Yc}{xs zs:List V}(h1:H a=Ya (.lst xs))(h2:H b=Ya (.lst zs))(hl:xs.length+ zs.length<=1000)(h:∀p H',H p=Yb->aG H H'->H' p=Ya (.lst (xs++zs))->Q (.ref p) H'):adG (.ref a) (.ref b) H Q:=#[a,b,xs,zs,rfl,rfl,h1,h2,tm (aN hl),λp hp=>h p _ hp (aE hp) aj]
def V3(d:Yc)(B H:Hp):Prop:=∀b o,b≠d->B b=Ya o->H b=Ya o
theorem V3.refl(d:Yc)(B:Hp):V3 d B B:=λ_ _ _ h=>h
noncomputable def dG(m:List (Int×V)):List (cj×V):=m.map λp=>(YG p.1,p.2)
theorem DS(m:List (Int×V)):(dG m).length=m.length:=Yj ..
noncomputable def lkG:List (Int×V)->Int->Option V
 |[],_=>Yb
 |p::m,k=>if p.1=k then Ya p.2 else lkG m k
theorem ML:∀(m:List (Int×V)) (k:Int),hX (dG m) (YG k:cj)=lkG m k
 |[],_=>rfl
 |p::m,k=>by
  change hX ((YG p.1,p.2)::dG m) (YG k)=_;unfold lkG;by_cases e:p.1=k
  .rw[if_pos e,fj (by rw[e])]
  .rw[if_neg e,fc (λz=>e (af5 z)),ML m k]
noncomputable def Ci:List (Int×V)->Int->V->List (Int×V)
 |[],k,v=>[(k,v)]
 |p::m,k,v=>if p.1=k then(p.1,v)::m else p::Ci m k v
theorem Ay:∀(m:List (Int×V)) (k:Int) (v:V) (p:Int×V),p∈Ci m k v->p=(k,v)∨p∈m
 |[],k,v,p,h=>.inl (by simpa [Ci]using h)
 |q::m,k,v,p,h=>by
  have h':p∈(if q.1=k then(q.1,v)::m else q::Ci m k v):=h;by_cases e:q.1=k
  .rw[if_pos e]at h';rcases Yq.mp h' with z|z
   .show .inl (by rw[z,e])
   .show .inr (Yx _ z)
  .rw[if_neg e]at h';rcases Yq.mp h' with z|z
   .show .inr (by rw[z];show Yy)
   .rcases Ay m k v p z with z|z
    .show .inl z
    .show .inr (Yx _ z)
theorem TK(k:Int):∀m:List (Int×V),((dG m).any λkv=>decide (kv.1=(YG k:cj)))=m.any λp=>decide (p.1=k)
 |[]=>rfl
 |p::m=>by
  change(decide ((YG p.1:cj)=YG k)||(dG m).any _)=(decide (p.1=k)||m.any _);rw[TK k m];congr 1;rw[decide_eq_decide];show#[λh=>af5 h,λh=>congrArg _ h]
theorem De:∀(m:List (Int×V)) (k:Int) (v:V),(m.any λp=>decide (p.1=k))=false->Ci m k v=m++[(k,v)]
 |[],_,_,_=>rfl
 |p::m,k,v,h=>by
  rw[agG,akj]at h;change(if p.1=k then(p.1,v)::m else p::Ci m k v)=_;rw[if_neg (of_decide_eq_false h.1),De m k v h.2];rfl
theorem LJ:∀(m:List (Int×V)) (k:Int) (v:V),(m.map (·.1)).Nodup->(m.any λp=>decide (p.1=k))=true->Ci m k v=m.map λp=>if p.1=k then(p.1,v)else p
 |[],_,_,_,h=>by cases h
 |p::m,k,v,nd,h=>by
  rw[YL,xp]at nd;change(if p.1=k then(p.1,v)::m else p::Ci m k v)=(if p.1=k then(p.1,v)else p)::m.map _;by_cases e:p.1=k
  .rw[if_pos e,if_pos e];congr 1;have:m.map (λp=>if p.1=k then(p.1,v)else p)=m.map id:=aeA λq hq=>by
    rw[if_neg (λz=>nd.1 (by rw[e,←z];show xj hq))];rfl
   rw[this,ajR]
  .rw[if_neg e,if_neg e,LJ m k v nd.2 (by
    rw[agG,decide_eq_false e,akr]at h;show h)]
theorem UQ(m:List (Int×V))(k:Int)(v:V)(nd:(m.map (·.1)).Nodup):iP (dG m) (YG k:cj) (v)=dG (Ci m k v):=by
 unfold iP;rw[TK];cases e:m.any λp=>decide (p.1=k)with
 |false=>
  rw[De m k v e];unfold dG;rw[YD];rfl
 |true=>
  rw[LJ m k v nd e];unfold dG;rw[adk,if_pos rfl,adk];apply aeA;intro p _;change(if(YG p.1:cj)=YG k then((YG p.1:cj),v)else(YG p.1,p.2))=((YG (if p.1=k then(p.1,v)else p).1:cj),(if p.1=k then(p.1,v)else p).2);by_cases z:p.1=k
  .rw[if_pos (congrArg _ z),if_pos z]
  .rw[if_neg (λq=>z (af5 q)),if_neg z]
section
variable{X:Cx}
theorem Fn{α β:Type}{R:α->β->Prop}:∀{xs:List α} {ys:List β},xs.length=ys.length->(∀(i:Nat) x y,xs[i]?=Ya x->ys[i]?=Ya y->R x y)->Aq R xs ys:=by
 intro xs
 induction xs with
 |nil=>
  intro ys h _;cases ys with
  |nil=>show .nil
  |cons _ _=>cases h
 |cons x xs ih=>
  intro ys h k;cases ys with
  |nil=>cases h
  |cons y ys=>show .cons (k 0 x y rfl rfl) (ih (Nat.succ.inj h) λi a b ha hb=>k (i+ 1) a b (by simpa using ha) (by simpa using hb))
abbrev Ma(H:Hp):List V->List (Int×V)->Prop:=Aq λx p=>∃a,x=.ref a/\H a=Ya (.tup [.int p.1,p.2])
theorem Rc{pins:List (Yc×Y8)}{σ:St}{H:Hp}{s:Yi}(I:aM X pins σ H s):∀{xs:List V} {us:List Yd} {ps:List (Int×V)},Ma H xs ps->Vals xs us->
  ∃kx:List (cj×Yd),KV (dG ps) kx/\kx.length=us.length/\∀(i:Nat) v,us[i]?=Ya v->∃a key k x o c,v=.ref a/\kx[i]?=Ya (k,x)/\(bB X.prog X.w).is k key=true/\s.heap.get? a=Ya o/\o.cls=.type "tuple"/\o.data=.seq (afs [key,x]) c:=by
 intro xs us ps w
 induction w generalizing us with
 |nil=>
  intro w;cases w;show#[[],.nil,rfl,λi v e=>by simp at e]
 |@cons x p xs ps h t ih=>
  intro w;cases w with|cons r q=>
  rename_i u us;obtain⟨kx,k1,k2,k3⟩:=ih q;obtain⟨a,rfl,ha⟩:=h;obtain rfl:u=Yv a:=r;obtain⟨_,its,rv,o,ho,hc,n,hd,_⟩:[V.int p.1,p.2].length<=Yu/\∃its:List Yd,Vals [V.int p.1,p.2] its/\qc s.heap a its.toArray:=I.hok a _ ha;obtain⟨u1,u2,rfl,r1,r2⟩:=Hu rv;obtain⟨t1,rfl⟩:=r1;show#[(YG p.1,u2)::kx,.cons #[rfl,r2] k1,congrArg (·+ 1) k2,λi v e=>?_];cases i with
  |zero=>
   have e':Yv a=v:=YM e;subst e';show#[a,_,_,u2,o,n,rfl,rfl,tP X.prog X.w p.1 t1,ho,hc,hd]
  |succ i=>show k3 i v e
theorem Gy:∀(ps acc:List (Int×V)),((acc++ps).map (·.1)).Nodup->Af (dG acc) (dG ps)=dG (acc++ps)
 |[],acc,_=>by rw[Y4];rfl
 |p::ps,acc,h=>by
  have e:Af (dG acc) (dG (p::ps))=Af (iP (dG acc) (YG p.1:cj) p.2) (dG ps):=rfl;have h1:(acc.map (·.1)).Nodup:=by rw[YD]at h;show(aec.mp h).1
  have h2:p.1∉acc.map (·.1):=by
   rw[YD,YL]at h;intro z;show(aec.mp h).2.2 _ z _ Yy rfl
  rw[e,UQ acc p.1 p.2 h1,De acc p.1 p.2 (by
   rw[aiU];intro q hq;show λz=>h2 (by rw[←of_decide_eq_true z];show xj hq)),Gy ps (acc++[p]) (by rw[aem];show h),aem]
  rfl
theorem M4(hc:X.calm=true):eU X (.type "dict") (λxs H Q=>∃(a:Yc) (ys:List V) (ps:List (Int×V)),xs=[.ref a]/\H a=Ya (.lst ys)/\Ma H ys ps/\(ps.map (·.1)).Nodup/\ps.length<=1000/\∀p,H p=Yb->Q (.ref p) (upd H p (.dK (dG ps)))):=by
 intro pins s σ H xs us Q I r h;obtain⟨a,ys,ps,rfl,ha,hp,nd,hl,q⟩:=h;obtain⟨u,rfl,rx⟩:=ij r;cases rx;obtain⟨z,its,n,rv,hlen,e⟩:=I.lstM ha;obtain⟨kx,k1,k2,k3⟩:=Rc I hp rv;show GX.y4 (knd:=bB X.prog X.w) (I.ok.hd hc) e (by rw[←hlen];show z) k2 k3 λh' tk kp dd=>?_;have rel:KV (dG ps) (ajc [] kx):=by
  have:=KV.merge k1 (show KV (dG []) []from .nil);rw[Gy ps [] (by simpa using nd)]at this;show this
 show#[.ref s.heap.objs.size,_,I.laid (t':=tk) kp (Ym _) (Hz ?_ (beq_eq_false_iff_ne.mpr (Ne.symm (YB I.big))) rel dd),rfl,q _ (I.hok.fresh (Ym _))];rw[DS];show tm (aN hl)
end
section
variable{H:Hp}
theorem QX{d:Yc}{H A:Hp}{u:HO}(s:V3 d H A)(h:H d=Ya u):aG H (upd A d u):=λb o e=>by
 by_cases z:b=d
 .subst z;rw[h]at e;cases e;show aj
 .rw[ak z];show s b o z e
theorem aeR{d:Yc}{m:List (Int×V)}{k:Int}{v:V}{P:V->Prop}(hd:Rd H d (.dK (dG m)))(hk:lkG m k=Ya v)(h:P v):∃a v,V.ref d=.ref a/\ud H a (.int k) (Ya v)/\P v:=
 #[d,v,rfl,.inl #[_,YG k,hd,rfl,by rw[ML,hk]],h]
theorem acQ{d:Yc}{m:List (Int×V)}{k:Int}{P:Option V->Prop}(hd:Rd H d (.dK (dG m)))(h:P (lkG m k)):∃a o,V.ref d=.ref a/\ud H a (.int k) o/\P o:=#[d,_,rfl,.inl #[_,YG k,hd,rfl,(ML m k).symm],h]
theorem Wo{d:Yc}{m:List (Int×V)}{k:Int}{v:V}{P:Hp->Prop}(hd:H d=Ya (.dK (dG m)))(nd:(m.map (·.1)).Nodup)(hl:m.length<Yu)(h:∀H2,Om d H H2->H2 d=Ya (.dK (dG (Ci m k v)))->P H2):∃a H4,V.ref d=.ref a/\HE H a (.int k) v H4/\P H4:=
 #[d,_,rfl,.inl #[_,YG k,hd,rfl,by rw[DS];show hl,rfl],h _ .upd (by rw[aj,UQ m k v nd])]
end
theorem UI{n h:Int}(h0:0<=n)(h1:0<=h):(!decide (V.int (abJ n (2^h.toNat))=V.int 0))=n.toNat.testBit h.toNat:=by
 have e1:(0:Int)<=2^h.toNat:=Ee _;have e2:((2:Int)^h.toNat).toNat=2^h.toNat:=by
  have:((2:Int)^h.toNat)=((2^h.toNat:Nat):Int):=by push_cast;rfl
  rw[this,YK]
 rw[am2 h0 e1,e2];cases q:n.toNat.testBit h.toNat with
 |false=>
  rw[(GB.PU _ _).mpr q];rfl
 |true=>
  have z:¬ (n.toNat &&& 2^h.toNat=0):=λz=>by rw[(GB.PU _ _).mp z]at q;cases q
  have z':¬ V.int ((n.toNat &&& 2^h.toNat:Nat):Int)=V.int 0:=λe=>z (by injection e with e;omega);rw[decide_eq_false z'];rfl
noncomputable def Ex(n:Int)(i:Nat):List Int:=((gp i).filter λh=>n.toNat.testBit h).map (fun(h:Nat)=>(h:Int))
theorem Vk(n:Int)(i:Nat):(Ex n i).length<=i:=by
 unfold Ex;rw[Yj];have:=km (λh=>n.toNat.testBit h) (gp i);rw[aeb]at this;show this
theorem U2{n:Int}{i:Nat}(h:n.toNat.testBit i=true):Ex n (i+ 1)=Ex n i++[(i:Int)]:=by
 unfold Ex;rw[ajG,gf,YD,xy,h];rfl
theorem Wv{n:Int}{i:Nat}(h:n.toNat.testBit i=false):Ex n (i+ 1)=Ex n i:=by
 unfold Ex;rw[ajG,gf,YD,xy,h];show Y4 _
theorem Qt{n:Int}(h0:0<=n)(h1:n<9223372036854775808):aa9 n<=63/\Ex n (aa9 n)=GB.hl n:=by
 have a:n.natAbs=n.toNat:=by omega
 have l:n.toNat<2^63:=by
  have:(2:Nat)^63=9223372036854775808:=by decide
  omega
 have b:aa9 n<=63:=amV (by rw[a];show l);show#[b,?_];unfold Ex GB.hl;rw[GB.W6 b];unfold aa9;by_cases z:n=0
 .subst z;decide
 .have z':(n==0)=false:=by simpa using z
  rw[z',a];show Nat.lt_log2_self
structure Hs(hs:List Int):Prop where
 up:hs.Pairwise (·<·)
 rg:∀h∈hs,0<=h/\h<63
theorem Ry{d:V}:([(("learnt":Yh),d)]:List (Yh×V)).lookup ("learnt":Yh)=Ya d:=by kernel_rfl
theorem Sb{d:V}:([(("learnt":Yh),d)]:List (Yh×V)).lookup ("learn":Yh)=none:=by kernel_rfl
theorem Tv{d:V}:([(("learnt":Yh),d)]:List (Yh×V)).lookup ("floor":Yh)=none:=by kernel_rfl
theorem Uv{d:V}:([(("learnt":Yh),d)]:List (Yh×V)).lookup ("reach":Yh)=none:=by kernel_rfl
theorem X0{d:V}:([(("learnt":Yh),d)]:List (Yh×V)).lookup ("sure":Yh)=none:=by kernel_rfl
theorem SW{H:Hp}{Q:VK}{a:Yc}{kvs:List (cj×V)}(hd:Rd H a (.dK kvs))(h:∀p H',H p=Yb->aG H H'->H' p=Ya (.dK kvs)->Q (.ref p) H'):Va [.ref a] H Q:=#[a,_,rfl,hd,λp hp=>h p _ hp (aE hp) aj]
abbrev wQ(H:Hp):List (Int×V)->List (Int×List (Int×Int))->Prop:=Aq λq e=>q.1=e.1/\∃r,q.2=.ref r/\H r=Ya (.dK (dI e.2))
structure xG(K:Ye)(mg:Yh->Option Yd)(H:Hp)(p d:Yc)(rs:List (Int×V))(tb:List (Int×List (Int×Int))):Prop where
 ob:∃C dx,mg "Known"=Ya (.ref C)/\H p=Ya (.ins C dx [("learnt",.ref d)])
 dc:H d=Ya (.dK (dG rs))
 rw:wQ H rs tb
 hs:Hs (tb.map (·.1))
 td:∀e∈tb,Td e.2
 ap:∀q∈rs,q.2≠V.ref d
theorem wQ.keys{H:Hp}:∀{rs:List (Int×V)} {tb:List (Int×List (Int×Int))},wQ H rs tb->rs.map (·.1)=tb.map (·.1):=by
 intro a b w
 induction w with
 |nil=>rfl
 |cons h _ ih=>rw[YL,YL,h.1,ih]
noncomputable def tbl:List (Int×List (Int×Int))->Int->Option (List (Int×Int))
 |[],_=>Yb
 |e::tb,h=>if e.1=h then Ya e.2 else tbl tb h
theorem wQ.lk{H:Hp}:∀{rs:List (Int×V)} {tb:List (Int×List (Int×Int))} (h:Int),wQ H rs tb->(lkG rs h=Yb/\tbl tb h=Yb)∨∃r m,lkG rs h=Ya (.ref r)/\tbl tb h=Ya m/\H r=Ya (.dK (dI m)):=by
 intro rs tb h w
 induction w with
 |nil=>show .inl #[rfl,rfl]
 |@cons q e rs tb k t ih=>
  obtain⟨e1,r,e2,e3⟩:=k;unfold lkG tbl;by_cases z:e.1=h
  .rw[if_pos (e1.trans z),if_pos z];show .inr #[r,e.2,by rw[e2],rfl,e3]
  .rw[if_neg (λw=>z (e1.symm.trans w)),if_neg z];show ih
theorem Po:∀{tb:List (Int×List (Int×Int))} {h:Int} {m:List (Int×Int)},tbl tb h=Ya m->(h,m)∈tb
 |e::tb,h,m,q=>by
  unfold tbl at q;by_cases z:e.1=h
  .rw[if_pos z]at q;cases q;rw[←z];show Yy
  .rw[if_neg z]at q;show Yx _ (Po q)
theorem Oe:∀{tb:List (Int×List (Int×Int))} {h:Int},(tbl tb h).isSome=true↔h∈tb.map (·.1)
 |[],h=>by simp[tbl]
 |e::tb,h=>by
  unfold tbl;rw[YL,Yq];by_cases z:e.1=h
  .rw[if_pos z];show#[λ_=>.inl z.symm,λ_=>rfl]
  .rw[if_neg z,Oe];show#[.inr,λq=>q.resolve_left λw=>z w.symm]
noncomputable def C6(tb:List (Int×List (Int×Int)))(h:Int)(m:List (Int×Int)):List (Int×List (Int×Int)):=tb.map λe=>if e.1=h then(e.1,m)else e
theorem Gu(tb:List (Int×List (Int×Int)))(h:Int)(m:List (Int×Int)):(C6 tb h m).map (·.1)=tb.map (·.1):=by
 unfold C6;rw[adk];show aeA λe _=>?_;change(if e.1=h then(e.1,m)else e).1=e.1;split<;>rfl
noncomputable def Itv(d:Yc)(o:Y8)(kvs:List (cj×V)):It:=
 #[λi H=>i<kvs.length/\H d=Ya (.frz o (.dK kvs)),λi H x H'=>H'=H/\∃k,kvs[i]?=Ya (k,x),λi H=>kvs.length<=i/\H d=Ya (.frz o (.dK kvs))]
theorem QI{P:YU}{w:YZ}{K:Ye}{tg:YY}{d it:Yc}{o:Y8}{kvs:List (cj×V)}{vs:List (cj×Yd)}{ep:Nat}(rel:KV kvs vs)(fz:∀h:YO,h.get? d=Ya o->h.DictAt (bB P w) d vs ep):
  Turn P w K tg (Itv d o kvs) [it] it (λi h=>h.IsValIter it d i vs.length ep) where
 mem:=by simp
 obj:=λi h st b hb=>by
  have e:b=it:=by simpa using hb
  subst e;obtain⟨o,e,c,dd⟩:=st;show#[o,e,λv z=>by rw[dd]at z;cases z]
 keep:=λi h h' st k=>let ⟨o,e,c,dd⟩:=st;#[o,k it (by simp) o e,c,dd]
 item:=by
  intro X hP hw hK hc i pins s σ H E I hf st hg;subst hP hw hK;obtain⟨hi,hd⟩:=hg;have hdo:s.heap.get? d=Ya o:=(show s.heap.get? d=Ya o/\_ from I.hok d _ hd).1;have hx:kvs[i]?=Ya kvs[i]:=Yw hi;obtain⟨u,hu,ru⟩:=rel.get (k:=kvs[i].1) (v:=kvs[i].2) hx;obtain⟨f0,f1,f2,f3,f4,f5⟩:=hf it (by simp);show wpAny_pyNext_values_item st (fz _ hdo) hu λh' st' sb=>?_;have I1:aM X pins σ H {s with heap:=h'}:=I.turned (t':=s.toks) (λb o hb e=>(sb.2 b hb).trans e) f0 f1 f3 f4 f5;obtain⟨oo,e,c,dd⟩:=id st';show#[u,rfl,Pz (s:={s with heap:=h'}) e c dd (by decide) #[kvs[i].2,H,I1,ru,#[rfl,kvs[i].1,hx],st',λb hb=>(hf b hb).1]]
 done:=by
  intro X hP hw hK hc i pins s σ H E I hf st hg;subst hP hw hK;obtain⟨hi,hd⟩:=hg;have hdo:s.heap.get? d=Ya o:=(show s.heap.get? d=Ya o/\_ from I.hok d _ hd).1;obtain⟨f0,f1,f2,f3,f4,f5⟩:=hf it (by simp);have hlen:kvs.length=vs.length:=KV.length rel;show wpAny_pyNext_values_end (I.ok.hd hc) st (fz _ hdo) (agf (by omega)) λh' eb=>#[rfl,I.turned (t':=s.toks) (λb o hb e=>eb b o hb e) f0 f1 f3 f4 f5]
 self:=λ_ _ _ _ _ st h=>akn st h
section
variable{X:Cx}
def aad(td:TE):TI:=λσ H R=>td σ H λx H1=>∃d kvs,x=.ref d/\H1 d=Ya (.dK kvs)/\∀o,R (Itv d o kvs) (upd H1 d (.frz o (.dK kvs)))
theorem Xp{tg e:YY}{apos cpos:adq}{td:TE}(he:PE X e td)(hbase:autoParam (afd e "values" X.env (Y3 e X.env)=Y3 e X.env) aq0)(hline:autoParam ((apos.endLine==cpos.line)=true) aq0):
  PI X tg (.Call (.Attribute e "values" apos) [] [] cpos) (aad td):=by
 intro pins s σ H R I h;show ahC hbase hline (cR (he pins s σ H _ I h) λv s1 zz=>?_);obtain⟨x,H1,I1,r1,d,kvs,ex,hd,q⟩:=zz;subst ex;obtain rfl:v=Yv d:=r1;obtain⟨z,hS,vs,rel,dd⟩:=Tx I1.hok hd;obtain⟨h1,h2⟩:=Eu (T:="dict") I1 (x:=.ref d) rfl (.inr (.inr (.inl #[rfl,.inl #[kvs,hd]])));show#["dict","dict.values",ads,aft,ahu,h1,h2,aeW rfl (aij ?_)];show ahp aft h1 ai3 (aiO _) (ak6 (bB X.prog X.w) d hS) #[#[vs,dd],?_];have dd':(s1.heap.push {cls:=.type "dict_values",data:=.fields (afs [.ref d])}).DictOf (bB X.prog X.w) d vs:=dd.push _;obtain⟨o,es,ep,ho,rr⟩:=id dd';have fz:∀h:YO,h.get? d=Ya o->h.DictAt (bB X.prog X.w) d vs ep:=λh hh=>#[o,es,hh,rr];have I2:aM X pins σ H1 {s1 with heap:=s1.heap.push {cls:=.type "dict_values",data:=.fields (afs [.ref d])}}:=I1.kept (t':=s1.toks) λb ob e=>Yg _ e;have hv:(s1.heap.push {cls:=.type "dict_values",data:=.fields (afs [.ref d])}).IsValuesView s1.heap.objs.size d:=#[_,Ys _ rfl,rfl,rfl];change Yl _ _ (aiC (.ref s1.heap.objs.size)) _ _ _;show wpAny_pyIter_values hv (fz _ ho) ?_;have I3:aM X pins σ (upd H1 d (.frz o (.dK kvs))) {s1 with heap:=s1.heap.push {cls:=.type "dict_values",data:=.fields (afs [.ref d])}}:=
  I2.write (t':=s1.toks) (x:=d) (e:=d) (by rw[hd];trivial) (.inl rfl) (λ_ _ _ e=>e) #[o,ho] #[ho,z,hS,vs,rel,dd']
 show#[_,[_],_,Itv d o kvs,upd H1 d (.frz o (.dK kvs)),rfl,I3.kept (t':=s1.toks) λb ob e=>Yg _ e,QI rel fz,#[_,Ys _ rfl,rfl,rfl],λb hb=>?_,q o];have eb:b=(s1.heap.push {cls:=.type "dict_values",data:=.fields (afs [.ref d])}).objs.size:=by simpa using hb
 subst eb;show I3.fpOk (Ym _) (I3.hok.fresh (Ym _))
end
theorem RE{d:Yc}{o:Y8}{kvs:List (cj×V)}{g:TG}{tt:TT}{te:TE}{σ:St}{H:Hp}{D:Yc}{Qe:Hp->Prop}(Pv:Nat->St->Hp->Prop)(h0:Pv 0 σ H)(hl:∀i σ H,i<=kvs.length->Pv i σ H->H d=Ya (.frz o (.dK kvs)))
  (hs:∀i k v σ H,kvs[i]?=Ya (k,v)->Pv i σ H->j8 g tt te D (Pv (i+ 1)) v σ H) (hd:∀σ H,Pv kvs.length σ H->Qe H):
  ∃W:Nat->Nat->St->Hp->Prop,(∃m,W 0 m σ H)/\∀i m σ' H',W i m σ' H'->((Itv d o kvs).stop i H'/\Qe H')∨((Itv d o kvs).go i H'/\∃N:St->Hp->Prop,(∀σ2 H2,N σ2 H2->∃m',m'<m/\W (i+ 1) m' σ2 H2)/\
   ∀x H'',(Itv d o kvs).yld i H' x H''->j8 g tt te D N x σ' H''):=by
 show#[λi m σ H=>m=kvs.length-i/\i<=kvs.length/\Pv i σ H,#[kvs.length,by simp,Y1 _,h0],?_];rintro i m σ H ⟨rfl,hi,p⟩;have q:=hl i σ H hi p;by_cases hlt:i<kvs.length
 .show .inr #[#[hlt,q],Pv (i+ 1),λσ' H' p'=>#[kvs.length-(i+ 1),by omega,rfl,hlt,p'],λx H' y=>?_];obtain⟨rfl,k,e1⟩:=y;show hs i k x σ _ e1 p
 .have e:i=kvs.length:=by omega
  subst e;show .inl #[#[Ym _,q],hd σ H p]
def fzK(J:Yc->Y8->List (cj×V)->It)(x:V)(H:Hp)(R:It->Hp->Prop):Prop:=∃d kvs,x=.ref d/\H d=Ya (.dK kvs)/\∀o,R (J d o kvs) (upd H d (.frz o (.dK kvs)))
theorem Xe{td:TE}{σ:St}{H:Hp}{R:It->Hp->Prop}(h:td σ H λx H1=>fzK Itv x H1 R):aad td σ H R:=h
theorem afv{J:Yc->Y8->List (cj×V)->It}{H:Hp}{d:Yc}{kvs:List (cj×V)}{R:It->Hp->Prop}(hd:H d=Ya (.dK kvs))(h:∀o A,A d=Ya (.frz o (.dK kvs))->V3 d H A->R (J d o kvs) A):fzK J (.ref d) H R:=
 #[d,kvs,rfl,hd,λo=>h o _ aj λb u n e=>by rw[ak n];show e]
def sqK(K:Ye)(x:V)(H:Hp)(R:It->Hp->Prop):Prop:=∃a,x=.ref a/\(((∃xs,bZ K H a xs)/\R (U0 K a) H)∨((∃xs,c8 K H a xs)/\R (Wr K a) H))
theorem ac3{K:Ye}{tl:TE}{σ:St}{H:Hp}{R:It->Hp->Prop}(h:tl σ H λx H1=>sqK K x H1 R):ac6 K tl σ H R:=h
theorem US{K:Ye}{a:Yc}{xs:List V}{g:TG}{tb:TS}{D:q8}{σ:St}{H:Hp}(hS:bZ K H a xs∨c8 K H a xs)(Pv:Nat->St->Hp->Prop)(h0:Pv 0 σ H)(hl:∀i σ' H',i<=xs.length->Pv i σ' H'->aG H H')
  (hs:∀i x σ H,xs[i]?=Ya x->Pv i σ H->g x σ H λσ2 H2=>tb {D with nx:=Pv (i+ 1),ct:=Pv (i+ 1),bk:=D.nx} σ2 H2) (hd:∀σ H,Pv xs.length σ H->D.nx σ H):
  sqK K (.ref a) H λJ H1=>∃W:Nat->Nat->St->Hp->Prop,(∃m,W 0 m σ H1)/\∀i m σ H,W i m σ H->
   (J.stop i H/\D.nx σ H)∨(J.go i H/\∃N:St->Hp->Prop,(∀σ' H',N σ' H'->∃m',m'<m/\W (i+ 1) m' σ' H')/\∀x H',J.yld i H x H'->g x σ H' λσ2 H2=>tb {D with nx:=N,ct:=N,bk:=D.nx} σ2 H2):=by
 rcases hS with hS|hS
 .show#[a,rfl,.inl #[#[_,hS],j0 Pv h0 (λi σ' H' hi p=>(hl i σ' H' hi p).seq hS) hs hd]]
 .show#[a,rfl,.inr #[#[_,hS],W5 Pv h0 (λi σ' H' hi p=>SmT.same (hl i σ' H' hi p) _ _ hS) hs hd]]
theorem acj{t:TS}{D:q8}{σ:St}{H:Hp}{d:Yc}{kvs:List (cj×V)}(hd:H d=Ya (.dK kvs))(h:t {D with nx:=λσ' H'=>(∃o,H' d=Ya (.frz o (.dK kvs)))/\D.nx σ' (upd H' d (.dK kvs)),rt:=λv H'=>(∃o,H' d=Ya (.frz o (.dK kvs)))/\D.rt v (upd H' d (.dK kvs))} σ H):aas t D σ H:=#[d,kvs,hd,h]
section
variable{X:Cx}
noncomputable def OL(v d:Yc):HO:=.ext λh=>h.IsValuesView v d
theorem Nw:MtR X "dict.values" (λx vs H Q=>∃d kvs,x=.ref d/\vs=[]/\H d=Ya (.dK kvs)/\∀v,H v=Yb->Q (.ref v) (upd H v (OL v d))):=by
 intro pins s σ H x xs v us Q I rx rv h;obtain⟨d,kvs,rfl,rfl,hd,q⟩:=h;cases rx;cases rv;obtain⟨z,hS,vs,rel,dd⟩:=Tx I.hok hd;obtain⟨h1,h2⟩:=Eu (T:="dict") I (x:=.ref d) rfl (.inr (.inr (.inl #[rfl,.inl #[kvs,hd]])));show ahp aft h1 ai3 (aiO _) (ak6 (bB X.prog X.w) d hS) #[#[vs,dd],?_];show#[.ref s.heap.objs.size,_,I.laid (o:=OL s.heap.objs.size d) (t':=s.toks) (λb ob e=>Yg _ e) (Ym _) #[#[_,Ys _ rfl,rfl,rfl],#[_,Ys _ rfl],λh1 h2 ⟨o,e1,e2,e3⟩ k=>#[o,k o e1,e2,e3]],rfl,q _ (I.hok.fresh (Ym _))]
theorem NS(hc:X.calm=true):eU X (.type "list") (λxs H Q=>∃(v d:Yc) (kvs:List (cj×V)),xs=[.ref v]/\H v=Ya (OL v d)/\Rd H d (.dK kvs)/\kvs.length<=1000/\∀l,H l=Yb->Q (.ref l) (upd H l (.lst (kvs.map (·.2))))):=by
 intro pins s σ H xs us Q I r h;obtain⟨v,d,kvs,rfl,hv,hd,hlen,q⟩:=h;obtain⟨u,rfl,rx⟩:=ij r;cases rx;obtain⟨z,hS,vs,rel,dd⟩:=kP I.hok hd;obtain⟨ep,hat⟩:=dd.dictAt;have hl:vs.length=kvs.length:=(KV.length rel).symm;have hvw:s.heap.IsValuesView v d:=(I.hok v _ hv).1;show ajn (A:=X.A) (PySem.W.kdl_values (knd:=bB X.prog X.w) (kvs:=vs) (ep:=ep)) (I.ok.hd hc) #[hvw,hat] (by rw[hl];show tm (aN (by omega))) λh' tk acc c hk he hacc=>?_;show#[.ref s.heap.objs.size,_,I.laid (o:=.lst (kvs.map (·.2))) (t':=tk) hk (Ym _) #[by rw[Yj];show tm (aN hlen),acc.toList,c,Fn ?_ λi x u hx hu=>?_,he],rfl,q _ (I.hok.fresh (Ym _))]
 .have e:acc.toList.length=vs.length:=by rw[mr];show hacc.1
  rw[Yj,e,hl]
 .rw[uc]at hu;obtain⟨k,hk⟩:=hacc.2 i u hu;rw[YJ]at hx;cases e:kvs[i]? with
  |none=>rw[e]at hx;cases hx
  |some p=>
   rw[e]at hx;cases hx;obtain⟨u',hu',ru⟩:=rel.get (k:=p.1) (v:=p.2) e;rw[hk]at hu';cases hu';show ru
theorem aen{K:Ye}{H:Hp}{a:Yc}{kvs:List (cj×V)}{P:Prop}(hd:H a=Ya (.dK kvs))(h:P):tyV K "dict" (.ref a) H/\P:=#[.inr (.inr (.inl #[rfl,.inl #[kvs,hd]])),h]
end
section
variable{X:Cx}
def ad6:R2:=λx y H Q=>∃(a c:Yc) (m:List (Int×Int)),x=.ref a/\y=.ref c/\Rd H a (.dK (dI m))/\Rd H c (.dK [])/\Q (.bl (!m.isEmpty)) H
theorem abe(hu:X.A.units<ab0):sI X (xk .NotEq) ad6:=by
 intro pins s σ H x y v u Q I rx ry h;obtain⟨a,c,m,rfl,rfl,ha,hb,q⟩:=h;cases rx;cases ry;obtain⟨_,s1,vs,r1,d1⟩:=kP I.hok ha;obtain⟨_,s2,ws,r2,d2⟩:=kP I.hok (show Rd H c (.dK (dI []))from hb);have e1:vs.length=m.length:=by rw[←r1.length,ur]
 have e2:ws.length=0:=by rw[←r2.length,ur];rfl
 show PySem.W.keq_ne s1 s2 d1 d2 hu (r:=true) (λz=>IA r2 r1 (λp hp=>?_)) #[.bl (!m.isEmpty),H,I,?_,q]
 .have:m.length=0:=by omega
  rw[ahE.mp this]at hp;cases hp
 .rw[e1,e2];cases m<;>rfl
end
theorem aaO{H:Hp}{Q:VK}{a c:Yc}{m:List (Int×Int)}(ha:Rd H a (.dK (dI m)))(hc:Rd H c (.dK []))(h:Q (.bl (!m.isEmpty)) H):ad6 (.ref a) (.ref c) H Q:=#[a,c,m,rfl,rfl,ha,hc,h]
end L2
namespace L2
open PySem PySem.Spec PyProof.Rows
theorem jF{α β:Type}{F:α->β->Prop}:∀{l:List α} {m:List β} {i:Nat} {a:α},Aq F l m->l[i]?=Ya a->∃b,m[i]?=Ya b/\F a b:=by
 intro a b i x w
 induction w generalizing i with
 |nil=>show λe=>by simp at e
 |cons r _ ih=>
  intro e;cases i with
  |zero=>simp at e;subst e;show#[_,rfl,r]
  |succ i=>
   obtain⟨p,h1,h2⟩:=ih (i:=i) (by simpa using e);show#[p,by simpa using h1,h2]
end L2
namespace L2
open PySem PySem.Spec PyProof.Rows
noncomputable def chf(me hd ba ye vo re ag:V):List (Yh×V):=[("me",me),("hands",hd),("ballot",ba),("yes",ye),("votes",vo),("reports",re),("agreed",ag)]
section
variable{me hd ba ye vo re ag:V}
theorem V4:bY "agreed" ag (bY "reports" re (bY "votes" vo (bY "yes" ye (bY "ballot" ba (bY "hands" hd (bY "me" me []))))))=chf me hd ba ye vo re ag:=by kernel_rfl
theorem Mr:(chf me hd ba ye vo re ag).lookup ("ballot":Yh)=Ya ba:=by kernel_rfl
theorem NX:(chf me hd ba ye vo re ag).lookup ("agreed":Yh)=Ya ag:=by kernel_rfl
theorem Ko:(chf me hd ba ye vo re ag).lookup ("gathers":Yh)=none:=by kernel_rfl
theorem Ml:(chf me hd ba ye vo re ag).lookup ("settled":Yh)=none:=by kernel_rfl
end
end L2
namespace GX
open PySem PyProof.Rows
variable{prog:YU}{w:YZ}{A:sq}{n:Nat}{b:Yc}
section
variable{R:agt->Yi->Prop}{I d:Yc}{fp wr:List Yc}{P:Nat->Yd->Prop}{St:Nat->YO->Prop}{K:Type}[DecidableEq K]{knd:ai8 prog w K}
noncomputable def kW(kx:List (List K×Yc×Yd)):List (List K×Yc×Yd):=kx.foldl (λacc p=>agY acc p.1 p.2.1 p.2.2) []
theorem HF(kx:List (List K×Yc×Yd))(p:List K×Yc×Yd):kW (kx++[p])=agY (kW kx) p.1 p.2.1 p.2.2:=by
 unfold kW;rw[ak7];rfl
theorem KN{xs:List (List K×Yc×Yd)}{k:List K}{v:Yd}{x:List K×Yc×Yd}(h:x∈agY xs k b v):(∃y∈xs,y.1=x.1/\y.2.1=x.2.1)∨x=(k,b,v):=by
 unfold agY at h;by_cases z:(ai1 xs k).isSome=true
 .rw[if_pos z]at h;obtain⟨y,hy,e⟩:=YX.mp h;show .inl #[y,hy,?_];rw[←e];unfold putAt;split<;>show#[rfl,rfl]
 .rw[if_neg z]at h;rcases YV.mp h with q|q
  .show .inl #[x,q,rfl,rfl]
  .show .inr (Yo.mp q)
theorem Lk(xs:List (List K×Yc×Yd))(k:List K)(b:Yc)(v:Yd):(agY xs k b v).length<=xs.length+ 1:=by
 unfold agY;split
 .rw[Yj];omega
 .rw[Yz];show Ym _
theorem tM{G:List K->Yc->Prop}:∀(kx acc:List (List K×Yc×Yd)),(∀x∈acc,G x.1 x.2.1)->(∀p∈kx,G p.1 p.2.1)->(∀x∈kx.foldl (λacc p=>agY acc p.1 p.2.1 p.2.2) acc,G x.1 x.2.1)/\(kx.foldl (λacc p=>agY acc p.1 p.2.1 p.2.2) acc).length<=acc.length+ kx.length
 |[],acc,ha,_=>#[ha,Ym _]
 |p::kx,acc,ha,h=>by
  have hp:=h p Yy;have:=tM (G:=G) kx (agY acc p.1 p.2.1 p.2.2) (λx hx=>by
   rcases KN hx with⟨y,hy,e1,e2⟩|e
   .have:=ha y hy;rw[e1,e2]at this;show this
   .rw[e];show hp) (λq hq=>h q (Yx _ hq))
  show#[this.1,?_];have l:=Lk acc p.1 p.2.1 p.2.2;have l2:=this.2;simp only[agN,cT];omega
theorem J9{h h':YO}{k:List K}(x:ahb knd h k b)(e:∀o,h.get? b=Ya o->h'.get? b=Ya o):ahb knd h' k b:=by
 obtain⟨o,items,n,ho,r⟩:=x;show#[o,items,n,e o ho,r]
def DT(knd:ai8 prog w K)(h:YO)(d:Yc)(xs:List (List K×Yc×Yd)):Prop:=∃o es ep,h.get? d=Ya o/\o.ExactDict/\o.data=.dict es ep/\es.toList=xs.map (aka (afi knd))/\(xs.map (·.1)).Nodup
theorem QL(W:ajH prog w A.in1 I fp wr n P St)(nd:d∉fp)(h₀:YO)(kx:List (List K×Yc×Yd))(hn:kx.length=n)(hz:n<=Yu)(hu:(afi knd).room A.in1)
  (hK:∀p∈kx,ahb knd h₀ p.1 p.2.1/\p.2.1≠d/\p.2.1∉wr)
  (hP:∀i v,P i v->∃a k b x o c,v=.ref a/\kx[i]?=Ya (k,b,x)/\h₀.get? a=Ya o/\o.cls=.type "tuple"/\o.data=.seq (afs [.ref b,x]) c/\a≠d/\a∉wr):
  ∀(k i:Nat) (s:Yi) (t:agl),n=i+ k->St i s.heap->(∀b o,b∉wr->b≠d->h₀.get? b=Ya o->s.heap.get? b=Ya o)->DT knd s.heap d (kW (kx.take i))->
  (∀h' tk,(∀b o,b∉wr->b≠d->h₀.get? b=Ya o->h'.get? b=Ya o)->DT knd h' d (kW kx)->R (.ok (.ret .none)) {s with heap:=h',toks:=tk})->
  rl (Yn prog w) A (.builtin "dict.update.loop" #[[.ref d,.ref I,.int i t,.none],[]]) R s:=by
 have nw:d∉wr:=λz=>nd (W.sub _ z);have isAt:∀(h:YO) (j:Nat),(∀b o,b∉wr->b≠d->h₀.get? b=Ya o->h.get? b=Ya o)->∀x∈kW (kx.take j),ahb knd h x.1 x.2.1:=λh j kp=>(tM (G:=λk b=>ahb knd h k b) (kx.take j) [] (λx hx=>(nomatch hx)) (λp hp=>by
  obtain⟨q1,q2,q3⟩:=hK p (List.mem_of_mem_take hp);show J9 q1 λo e=>kp _ o q3 q2 e)).1
 intro k i s t en st kp dd fin;show U1 (D:=λi h=>(∀b o,b∉wr->b≠d->h₀.get? b=Ya o->h.get? b=Ya o)/\DT knd h d (kW (kx.take i))) W nd ?_ ?_ k i s t en st #[kp,dd] λh tk q=>fin h tk q.1 ?_
 .rintro i h h' ⟨kp,od,es,ep,ho,r⟩ q;show#[λb o nb nb' e=>q b o nb (kp b o nb nb' e),od,es,ep,q d od nw ho,r]
 .rintro i v s pv ⟨kp,od,es,ep,ho,r1,r2,r3,r4⟩;obtain⟨a,k,b,x,o,c,rfl,hx,ha,hc,hd,na,naw⟩:=hP i v pv;obtain⟨q1,q2,q3⟩:=hK _ (Y0 hx);have len:=(tM (G:=λ_ _=>True) (kx.take i) [] (λ_ _=>trivial) λ_ _=>trivial).2;show#[a,o,.ref b,x,c,rfl,kp a o naw na ha,hc,hd,λQ q=>wpAny_dictSet_heap (knd:=afi knd) hu (J9 q1 λo e=>kp _ o q3 q2 e) #[od,es,ep,ho,r1,r2,r3,isAt s.heap i kp,r4] (λh2 d2 sb=>q h2 #[λb o nb nb' e=>(sb.2 b nb').trans (kp b o nb nb' e),?_] sb.2 _) (oh len (by rw[CA,afo];omega))];obtain⟨od,es,ep,ho,r1,r2,r3,_,r4⟩:=d2;rw[amg,hx,Option.toList_some,HF];show#[od,es,ep,ho,r1,r2,r3,r4]
 .have z:=q.2;rwa [←hn,Y6]at z
end
section
variable{E:Yd->Yi->Prop}{s:Yi}{K:Type}[DecidableEq K]{knd:ai8 prog w K}
theorem FP{l:Yc}{vs:List Yd}{kx:List (List K×Yc×Yd)}{Q:Yd->Yi->Prop}(hA:A.handled=Yb)(hu:(afi knd).room A.in1.in1)(hl:s.heap.get? l=Ya {cls:=.type "list",dict:=Yb,data:=.seq vs.toArray n,slots:=#[]})(hz:vs.length<=Yu)(hlen:kx.length=vs.length)(hK:∀p∈kx,ahb knd s.heap p.1 p.2.1)(hP:∀(i:Nat) v,vs[i]?=Ya v->∃a k b x o c,v=.ref a/\kx[i]?=Ya (k,b,x)/\s.heap.get? a=Ya o/\o.cls=.type "tuple"/\o.data=.seq (afs [.ref b,x]) c)(h:∀h' tk,(∀b o,s.heap.get? b=Ya o->h'.get? b=Ya o)->DT knd h' s.heap.objs.size (kW kx)->Q (.ref s.heap.objs.size) {s with heap:=h',toks:=tk}):
  Yl (Yn prog w) A (call (.type "dict") [.ref l]) Q E s:=by
 have hl':(Rj s.heap).get? l=Ya {cls:=.type "list",dict:=Yb,data:=.seq vs.toArray n,slots:=#[]}:=Yg _ hl;show DP (T:="list") #[_,hl',rfl] (by decide) (N8 hA hl' λh1 Js k1=>#[rfl,?_]);have hl1:=k1 l _ hl';have lt1:l<h1.objs.size:=Yt hl1;have ld:l<s.heap.objs.size:=Yt hl;have il:h1.IsList l vs.toArray:=#[_,hl1,rfl,n,rfl];have d1:DT knd h1 s.heap.objs.size []:=by
  obtain⟨od,es,ep,ho,r1,r2,r3,_,r4⟩:=Heap.DictOfH.new (knd:=afi knd) s.heap;show#[od,es,ep,k1 _ _ ho,r1,r2,r3,r4]
 have dlt:s.heap.objs.size<h1.objs.size:=by
  obtain⟨od,es,ep,ho,r⟩:=d1;show Yt ho
 have hI:∀{b:Yc},b<h1.objs.size->b≠h1.objs.size:=λz=>YB z;have nw:∀{b:Yc},b<s.heap.objs.size->b∉[h1.objs.size]:=fun{b} hb z=>by
  have z':b=h1.objs.size:=by simpa using z
  show absurd (ajb hb dlt) (by rw[z'];show Y7 _)
 show afG (s:={s with heap:=h1,toks:=Js}) il ?_;have W:=ai2 (prog:=prog) (w:=w) (A:=A.in1.in1) hA h1.objs.size l (hI lt1) vs.toArray;show QL (A:=A.in1) (knd:=knd) W (d:=s.heap.objs.size) ?_ s.heap kx (by rw[hlen,YA]) (by rw[YA];show hz) hu (λp hp=>?_) (λi v hv=>?_) vs.toArray.size 0 _ 0 (by omega)
  #[#[_,Ys _ rfl,rfl,rfl],il.push _] (λb o _ nb e=>Yg _ (k1 b o (Yg _ e))) ?_ λh2 tk2 k2 d2=>?_
 .intro z;have z':s.heap.objs.size=h1.objs.size∨s.heap.objs.size=l:=by simpa using z
  rcases z' with z'|z'
  .show absurd dlt (by rw[z'];show Y7 _)
  .show absurd ld (by rw[z'];show Y7 _)
 .have q:=hK p hp;obtain⟨o,items,m,ho,r⟩:=id q;show#[q,YB (Yt ho),nw (Yt ho)]
 .obtain⟨a,k,b,x,o,c,e1,e2,e4,e5,e6⟩:=hP i v (by simpa using hv);show#[a,k,b,x,o,c,e1,e2,e4,e5,e6,YB (Yt e4),nw (Yt e4)]
 .obtain⟨od,es,ep,ho,r⟩:=d1;show#[od,es,ep,Yg _ ho,r]
 .show#[rfl,h h2 tk2 (λb o e=>k2 b o (nw (Yt e)) (YB (Yt e)) e) d2]
end
end GX
namespace L2
open PySem PySem.Spec PyProof.Rows
variable{X:Cx}{pins:List (Yc×Y8)}{σ:St}{H:Hp}{s:Yi}{l f a:Yc}{xs:List V}{its vs:List Yd}{ks:List (List Int)}{k n:Nat}{fd:Yr}{ps:List Yh}{sp:Sp}{Q E:Yd->Yi->Prop}{A:sq}{K:Ye}{te td:TE}{prog:YU}{w:YZ}{P:ajg->Yi->Prop}{p:Array Nat}
abbrev JA(H:Hp):List V->List (List cj×V)->Prop:=Aq λx q=>∃a b,x=.ref a/\H a=Ya (.tup [.ref b,q.2])/\H b=Ya (.tup (q.1.map kV))
noncomputable def lP(ps:List (List cj×V)):List (List cj×V):=ps.foldl (λacc p=>iP acc p.1 p.2) []
section
theorem RT(I:aM X pins σ H s):∀{xs:List V} {us:List Yd} {ps:List (List cj×V)},JA H xs ps->Vals xs us->
  ∃kx:List (List cj×Yc×Yd),Aq (fun(p:List cj×V) (q:List cj×Yc×Yd)=>p.1=q.1/\H q.2.1=Ya (.tup (p.1.map kV))/\RelV p.2 q.2.2) ps kx/\kx.length=us.length/\∀(i:Nat) v,us[i]?=Ya v->∃a k b x o c,v=.ref a/\kx[i]?=Ya (k,b,x)/\s.heap.get? a=Ya o/\o.cls=.type "tuple"/\o.data=.seq (afs [.ref b,x]) c:=by
 intro xs us ps w
 induction w generalizing us with
 |nil=>
  intro w;cases w;show#[[],.nil,rfl,λi v e=>by simp at e]
 |@cons x p xs ps h t ih=>
  intro w;cases w with|cons r q=>
  rename_i u us;obtain⟨kx,k1,k2,k3⟩:=ih q;obtain⟨a,b,rfl,ha,hb⟩:=h;obtain rfl:u=Yv a:=r;obtain⟨_,its,rv,o,ho,hc,n,hd,_⟩:[V.ref b,p.2].length<=Yu/\∃its:List Yd,Vals [V.ref b,p.2] its/\qc s.heap a its.toArray:=I.hok a _ ha;obtain⟨u1,u2,rfl,r1,r2⟩:=Hu rv;obtain rfl:u1=Yv b:=r1;show#[(p.1,b,u2)::kx,.cons #[rfl,hb,r2] k1,congrArg (·+ 1) k2,λi v e=>?_];cases i with
  |zero=>
   have e':Yv a=v:=YM e;subst e';show#[a,p.1,b,u2,o,n,rfl,rfl,ho,hc,hd]
  |succ i=>show k3 i v e
theorem V9:∀{ps:List (List cj×V)} {kx:List (List cj×Yc×Yd)},Aq (fun(p:List cj×V) (q:List cj×Yc×Yd)=>p.1=q.1/\H q.2.1=Ya (.tup (p.1.map kV))/\RelV p.2 q.2.2) ps kx->∀{acc:List (List cj×V)} {xs:List (List cj×Yc×Yd)},KT H acc xs->
  KT H (ps.foldl (λacc p=>iP acc p.1 p.2) acc) (kx.foldl (λacc p=>agY acc p.1 p.2.1 p.2.2) xs):=by
 intro ps kx w
 induction w with
 |nil=>show λh=>h
 |@cons p q ps kx w t ih=>
  obtain⟨e1,e2,e3⟩:=w;intro acc xs h;rw[agN,agN];show ih ?_;rw[←e1];show h.put p.1 e2 e3
theorem MG(ps:List (List cj×V)):∀acc:List (List cj×V),(ps.foldl (λacc p=>iP acc p.1 p.2) acc).length<=acc.length+ ps.length:=by
 induction ps with
 |nil=>intro acc;show Ym _
 |cons p ps ih=>
  intro acc;have h1:=ih (iP acc p.1 p.2);have h2:=tu acc p.1 p.2;simp only[agN,cT];omega
theorem AY(hc:X.calm=true)(hu:X.A.units+ 2<ab0):eU X (.type "dict") (λxs H Q=>∃(a:Yc) (ys:List V) (ps:List (List cj×V)),xs=[.ref a]/\H a=Ya (.lst ys)/\JA H ys ps/\ps.length<=1000/\∀p,H p=Yb->Q (.ref p) (upd H p (.dT (lP ps)))):=by
 intro pins s σ H xs us Q I r h;obtain⟨a,ys,ps,rfl,ha,hp,hl,q⟩:=h;obtain⟨u,rfl,rx⟩:=ij r;cases rx;obtain⟨z,its,n,rv,hlen,e⟩:=I.lstM ha;obtain⟨kx,k1,k2,k3⟩:=RT I hp rv;have hK:∀p∈kx,ahb (bB X.prog X.w) s.heap p.1 p.2.1:=by
  have all:∀{l:List (List cj×V)} {m:List (List cj×Yc×Yd)},Aq (fun(p:List cj×V) (q:List cj×Yc×Yd)=>p.1=q.1/\H q.2.1=Ya (.tup (p.1.map kV))/\RelV p.2 q.2.2) l m->∀x∈m,ahb (bB X.prog X.w) s.heap x.1 x.2.1:=by
   intro l m q
   induction q with
   |nil=>intro x hx;show nomatch hx
   |@cons a b as bs h t ih=>
    intro x hx;rcases Yq.mp hx with z|z
    .rw[z,←h.1];show key_of I.hok h.2.1
    .show ih x z
  show all k1
 show GX.FP (knd:=bB X.prog X.w) (I.ok.hd hc) ?_ e (by rw[←hlen];show z) k2 hK k3 λh' tk kp dd=>?_
 .show hu
 have I0:aM X pins σ H {s with heap:=h',toks:=tk}:=I.kept kp;obtain⟨o,es,ep,ho,r1,r2,r3,r4⟩:=dd;show#[.ref s.heap.objs.size,_,I.laid (o:=.dT (lP ps)) (t':=tk) kp (Ym _) #[?_,beq_eq_false_iff_ne.mpr (Ne.symm (YB I.big)),GX.kW kx,?_,o,es,ep,ho,r1,r2,r3,r4],rfl,q _ (I.hok.fresh (Ym _))]
 .have:=MG ps [];rw[afo]at this;show tm (aN (by unfold lP;omega))
 .show(V9 k1 .nil).keeps λc zs ec=>?_;rw[ak (au ec (I.hok.fresh (Ym _)))];show ec
end
noncomputable abbrev Cx.one(X:Cx):Cx:={X with A:=X.A.in1,xe:=λ_ _=>False}
section
theorem aM.one(I:aM X pins σ H s):aM X.one pins σ H s:=
 #[#[I.ok.mod,I.ok.kind,I.ok.glob,I.ok.blt,I.ok.above,I.ok.inj,I.ok.has,I.ok.cab,I.ok.hd,I.ok.frames,I.ok.stk,I.ok.exf,I.ok.bs,I.ok.bsz,I.ok.noex,I.ok.exfs,I.ok.funs,I.ok.frf],I.os,I.bare,I.base,I.loc,I.cell,I.free,I.freeC,I.pin,I.hok,I.len]
theorem aM.back(ok:X.Ok)(I:aM X.one pins σ H s):aM X pins σ H s:=
 #[ok,I.os,I.bare,I.base,I.loc,I.cell,I.free,I.freeC,I.pin,I.hok,I.len]
end
theorem Of:∀a:List Int,HT.gh a a=false
 |[]=>rfl
 |x::a=>by rw[HT.qS,if_pos rfl];show Of a
theorem Lc:∀{a b:List Int},HT.gh a b=true->HT.gh b a=false
 |[],[],h=>by cases h
 |[],_::_,_=>rfl
 |_::_,[],h=>by cases h
 |x::a,y::b,h=>by
  rw[HT.qS]at h⊢;by_cases z:x=y
  .rw[if_pos z]at h;rw[if_pos z.symm];show Lc h
  .rw[if_neg z]at h;rw[if_neg (λw=>z w.symm)];have h:=of_decide_eq_true h;show decide_eq_false (by omega)
theorem PX:∀{a b c:List Int},HT.gh a b=true->HT.gh c b=false->HT.gh a c=true
 |[],[],_,h,_=>by cases h
 |_::_,[],_,h,_=>by cases h
 |[],_::_,[],_,h=>by cases h
 |[],_::_,_::_,_,_=>rfl
 |x::a,y::b,[],h,h2=>by cases h2
 |x::a,y::b,z::c,h,h2=>by
  rw[HT.qS]at h h2⊢;by_cases e1:x=y
  .rw[if_pos e1]at h;by_cases e2:z=y
   .rw[if_pos e2]at h2;rw[if_pos (e1.trans e2.symm)];show PX h h2
   .rw[if_neg e2]at h2;have h2:=of_decide_eq_false h2;rw[if_neg (λw=>e2 (w.symm.trans e1))];show decide_eq_true (by omega)
  .rw[if_neg e1]at h;have h:=of_decide_eq_true h;by_cases e2:z=y
   .rw[if_neg (λw=>e1 (w.trans e2))];show decide_eq_true (by omega)
   .rw[if_neg e2]at h2;have h2:=of_decide_eq_false h2;rw[if_neg (by omega)];show decide_eq_true (by omega)
section
theorem acd(a v d:Yd):agy "min" #[[a],[(xl "key",v),(xl "default",d)]]:=by unfold agy;kernel_rfl
theorem ac7(d:Yd)(hh:X.A.handled=Yb)(hu:X.A.units+ 2<ab0)(F:aw X.prog X.w X.K X.mg X.base bo k f fd ps sp)(hr:cV k X.A.in1)(hb:Binds X.K fd ps [])(IV:aM X pins σ H s)(rv:Vals xs its)(lk:xs.length=ks.length)(lst:∀s H',aM X pins σ H' s->aG H H'->s.heap.IsList l its.toArray)(KY:∀(i:Nat) x k H3 (Q':VK),xs[i]?=Ya x->ks[i]?=Ya k->aG H H3->(∀H4 t,aG H3 H4->c8 X.K H4 t (k.map V.int)->Q' (.ref t) H4)->sp [x] H3 Q' E0)(hD:xs=[]->∀s',aM X pins σ H s'->Q d s')(hR:∀(i:Nat) v kb s' H',its[i]?=Ya v->ks[i]?=Ya kb->(∀(j':Nat) k',ks[j']?=Ya k'->HT.gh k' kb=false/\(j'<i->HT.gh kb k'=true))->aM X pins σ H' s'->aG H H'->Q v s'):
  Yl (Yn X.prog X.w) X.A (call (.builtin "min") [.ref l] [(xl "key",.ref f),(xl "default",d)]) Q E s:=by
 have lx:=rv.length;have fp:∀x H',x=s.heap.objs.size∨x=s.heap.objs.size+ 1->H' x=Yb->ya X pins H' x:=λx H' hx n=>IV.fpOk (by rcases hx with rfl|rfl<;>omega) n;show GX.Gg GX.GR GX.LG ajP ajQ (ko:=Ya (.ref f)) (d:=Ya d) (vs:=its) hh rfl (acd _ _ _) (lst s H IV (.refl _)) (bt:=λi j=>HT.gh (ks.getD i []) (ks.getD j []))
  (G:=λL s'=>∃H',aM X pins σ H' s'/\(aG H H'/\(L=[]->H'=H))/\(∀x,x=s.heap.objs.size∨x=s.heap.objs.size+ 1->H' x=Yb)/\∀p∈L,∃t k,p.2=.ref t/\ks[p.1]?=Ya k/\c8 X.K H' t (k.map V.int))
  #[λi=>Of _,λi j=>Lc,λa b c=>PX,?_,?_,?_,?_,?_,?_] ?_ ?_ ?_
 .show λp q L s' ⟨H',a,b,c,e⟩=>#[H',a,#[b.1,λz=>nomatch z],c,λq hq=>e q (Yx _ hq)]
 .show λp L s' ⟨H',a,b,c,e⟩=>#[H',a,#[b.1,λz=>nomatch z],c,λq hq=>e q (Yo.mp hq▸Yy)]
 .rintro x L s' h tk hx ⟨H',a,b,c,e⟩ kp;obtain⟨f0,f1,f2,f3,f4,f5⟩:=fp x H' hx (c x hx);show#[H',a.turned (it:=x) kp f0 f1 f3 f4 f5,b,c,e]
 .show λL s' ⟨H',a,b,_⟩=>lst s' H' a b.1
 .rintro L s' j v a c m ⟨H',I1,⟨sm,_⟩,nn,hL⟩ hv hS hI;obtain⟨oI,gI,cI,dI⟩:=id hI;have hx:j<xs.length:=by have:=(Yp.mp hv).1;omega
  obtain⟨v',hv',rx⟩:=rv.get (Yw hx);cases hv.symm.trans hv';have hk:ks[j]?=Ya (ks[j]'(lk▸hx)):=Yw _;have pl:∀b∈[s.heap.objs.size+ 1,s.heap.objs.size],b=s.heap.objs.size∨b=s.heap.objs.size+ 1:=λb hb=>by simp at hb;show hb.symm
  have IP:=I1.pinned (fp:=[s.heap.objs.size+ 1,s.heap.objs.size]) (λb hb=>fp b H' (pl b hb) (nn b (pl b hb))) λb hb=>by
   rcases pl b hb with rfl|rfl
   .show#[oI,gI,λz e=>by rw[dI]at e;cases e]
   .show#[_,hS,λz e=>nomatch e]
  show pk (uH (X:=X.one) (vs:=[xs[j]]) (us:=[v]) (Q:=λz H4=>∃t,z=.ref t/\aG H' H4/\c8 X.K H4 t ((ks[j]'(lk▸hx)).map V.int)) (E:=E0) (dvs:=[]) (ds:=[]) F hr hb .nil (λ_ _ _ _ _ _ _ q=>q.elim) IP.one (.cons rx .nil) (by
   rw[Y4];show KY j _ _ H' _ (Yw hx) hk sm λH4 t s4 h4=>#[t,rfl,s4,h4])) ?_ λ_ _ q=>q.elim
  rintro u s2 ⟨z,H4,I4,rz,t,rfl,s4,ht⟩;cases rz;have I4:=aM.back IV.ok I4;have at_:∀b o,b∈[s.heap.objs.size+ 1,s.heap.objs.size]->s'.heap.get? b=Ya o->s2.heap.get? b=Ya o/\H4 b=none:=λb o hb e=>
   let r:=I4.pin (b,o) (YE _ (YE _ (js hb e)))
   #[r.1,r.2.1]
  have aS:=at_ _ _ (by simp) hS;have aI:=at_ _ _ (by simp) gI;show#[#[H4,I4.unpinned,#[sm.trans s4,λz=>nomatch z],λx hx=>?_,λp hp=>?_],aS.1,oI,aI.1,cI,dI]
  .rcases hx with rfl|rfl
   .show aI.2
   .show aS.2
  .rcases Yq.mp hp with rfl|hp
   .show#[t,_,rfl,hk,ht]
   .obtain⟨t',k',e1,e2,e3⟩:=hL p hp;show#[t',k',e1,e2,SmT.same s4 _ _ e3]
 .rintro i j y y' s' ⟨H',I1,_,nn,hL⟩;obtain⟨t1,k1,rfl,e1,h1⟩:=hL (j,y) (by simp);obtain⟨t2,k2,rfl,e2,h2⟩:=hL (i,y') (by simp);obtain⟨ia,ra,pa,_⟩:=I1.tuple h1;obtain⟨ib,rb,pb,_⟩:=I1.tuple h2;show HT.MV (A:=X.A.in1) pa pb (mG ra) (mG rb) (by change X.A.units+ 1<ab0;omega) #[?_,rfl];simp[Y5,e1,e2]
 .show λh kp=>#[H,IV.kept (t':=s.toks) kp,#[.refl _,λ_=>rfl],λx hx=>IV.hok.fresh (by rcases hx with rfl|rfl<;>omega),by simp]
 .show λe=>#[d,rfl,λs' ⟨H',a,b,_⟩=>hD (aaM (by rw[lx,e];rfl)) s' (b.2 rfl▸a)]
 .rintro i v y s' hv ft ⟨H',I1,⟨sm,_⟩,nn,hL⟩;obtain⟨t,k',_,e1,_⟩:=hL (i,y) (by simp);show hR i v k' s' H' hv e1 (λj k2 hj=>?_) I1 sm;have b:=ft j (by have:=(Yp.mp hj).1;omega);simpa [Y5,e1,hj]using b
end
theorem cV.one(r:cV (k+ 1) A):cV k A.in1:=#[r.hd,by have:=r.dp;change A.depth+ 3*k+ 5<ain;omega,by have:=r.un;change A.units+ 1+ 16*k+ 200<ab0;omega]
def acC(K:Ye)(sp:Sp)(x y:V)(H2:Hp)(Q:VK):Prop:=∃(l:Yc) (xs:List V) (ks:List (List Int)),x=.ref l/\bZ K H2 l xs/\xs.length=ks.length/\(∀x∈xs,∃p,x=V.ref p)/\
 (∀(i:Nat) (x:V) (k:List Int) (H3:Hp) (Q':VK),xs[i]?=Ya x->ks[i]?=Ya k->aG H2 H3->(∀H4 t,aG H3 H4->c8 K H4 t (k.map V.int)->Q' (.ref t) H4)->sp [x] H3 Q' E0)/\(xs=[]->Q y H2)/\
 ∀(i:Nat) (v:V) (kb:List Int) (H':Hp),xs[i]?=Ya v->ks[i]?=Ya kb->(∀(j':Nat) k',ks[j']?=Ya k'->HT.gh k' kb=false/\(j'<i->HT.gh kb k'=true))->aG H2 H'->Q v H'
def aaG(K:Ye)(sp:Sp)(te td:TE):TE:=λσ H Q=>te σ H λx H1=>td σ H1 λy H2=>acC K sp x y H2 Q
theorem Rb:∀{xs:List V} {a b:List Yd},Vals xs a->Vals xs b->(∀x∈xs,∃p,x=V.ref p)->a=b:=by
 intro xs a b w
 induction w generalizing b with
 |nil=>
  intro w _;cases w;rfl
 |cons r1 t1 ih=>
  intro w h;cases w with|cons r2 t2=>
  obtain⟨p,rfl⟩:=h _ Yy;rw[ih t2 λy hy=>h y (Yx _ hy)];cases r1;cases r2;rfl
section
theorem QW{e dflt:YY}{p p2 pos k1 k2:adq}{fx:Yh}(hK:X.K=K)(hc:X.calm=true)(hu:X.A.units+ 2<ab0)(ha:PA X [e] (Fs te KZ))(hd:PE X dflt td)(hg:Gl X "min")(hm:X.mg "min"=Yb)(G:aw X.prog X.w X.K X.mg X.base bo k f fd ps sp)(hmk:X.mg fx=Ya (.ref f))(hbk:Binds X.K fd ps [])(hgk:Gl X fx)(hr:cV (k+ 1) X.A)(hdb:autoParam ((fx==("__debug__":Yh))=false) aq1)(h1:autoParam (tq pos (YC [e] X.env)=(false,Y3 e X.env)::tq pos (YC [] X.env)) aq0)(h2:autoParam ((tq pos (YC [e] X.env)).any (·.1)=false) aq0):
  PE X (.Call (.Name "min" p) [e] [#[Ya "key",.Name fx p2,k1],#[Ya "default",dflt,k2]] pos) (aaG K sp te td):=by
 subst hK;intro pins s σ H Q I h;show acb (xC I hg hm ahY ?_);show aid ?_ h1 h2;show cR (ha pos pins s σ H (λvs H1=>match vs with|[x]=>td σ H1 λy H2=>acC X.K sp x y H2 Q|_=>False) I h) λus s1 zz=>?_;obtain⟨vs,H1,I1,r1,q1⟩:=zz;obtain⟨x,rfl⟩:∃x,vs=[x]:=by
  match vs,q1 with
  |[x],_=>show#[x,rfl]
 obtain⟨u,rfl,rx⟩:=ij r1;show ahZ (lq I1 hgk hmk ?_ hdb);show ahZ (cR (hd pins s1 σ H1 _ I1 q1) λw s2 zz=>?_);obtain⟨y,H2,I2,ry,l,xs,ks,ex,hl,lk,rfs,KY,q0,q⟩:=zz;subst ex;cases rx;show ako ?_;obtain⟨its,rv,pl,hz⟩:=I2.list hl;have lx:=rv.length;change Yl _ _ (call (.builtin "min") [Yv l] [(xl "key",.ref f),(xl "default",w)]) _ _ _;show ac7 (H:=H2) w (I2.ok.hd hc) hu G (cV.one hr) hbk I2 rv lk (λs' H' I' sm=>?_) KY (λe s' I'=>#[y,H2,I',ry,q0 e]) (λi v kb s' H' hv hkb best I' sm=>?_)
 .obtain⟨its',rv',pl',_⟩:=I'.list (sm.seq hl);rw[Rb rv rv' rfs];show pl'.isList
 .have hi:i<xs.length:=by rw[lx];show(Yp.mp hv).1
  obtain⟨u',hu',ru⟩:=rv.get (Yw hi);rw[hv]at hu';cases hu';show#[xs[i],H',I',ru,q i _ kb H' (Yw hi) hkb best sm]
end
theorem abp{Q:VK}(h:te σ H λx H1=>td σ H1 λy H2=>acC K sp x y H2 Q):aaG K sp te td σ H Q:=h
section
theorem Q4{kw:List (Yh×Yd)}(hl:s.heap.IsList l vs.toArray)(h64:vs.length<64)(a1:agy "sorted" #[[.ref l],kw])(a2:∀D,agy "list.sort" #[[D],kw])(h:∀h1:YO,GX.yg s.heap h1->h1.get? (s.heap.objs.size+ 1)=Ya (seqObj "list" vs.toArray 0)->Yl (Yn prog w) A.in1.in1 (xb.«list.sort» #[[.ref (s.heap.objs.size+ 1)],kw]) (λf s2=>f=.done (.ret .none)/\Q (.ref (s.heap.objs.size+ 1)) s2) E {s with heap:=h1}):
  Yl (Yn prog w) A (call (.builtin "sorted") [.ref l] kw) Q E s:=by
 have z:vs.length<=Yu:=by rw[adm];omega
 show GX.AJ a1 (collect_list hl (Yf (aku ?_ z)) z);have g:GX.yg s.heap ((s.heap.push (seqObj "list" #[] 0)).update s.heap.objs.size (abA (·++vs.toArray))):=λb o q=>(gm _ _ (agu (Yt q))).trans (Yg _ q);have sz:((s.heap.push (seqObj "list" #[] 0)).update s.heap.objs.size (abA (·++vs.toArray))).objs.size=s.heap.objs.size+ 1:=(Heap.size_after_update ..).trans (afj ..);generalize (s.heap.push (seqObj "list" #[] 0)).update s.heap.objs.size (abA (·++vs.toArray))=h0 at g sz⊢;have at1:(h0.push (seqObj "list" vs.toArray 0)).get? (s.heap.objs.size+ 1)=Ya (seqObj "list" vs.toArray 0):=ak2 sz.symm rfl;have:=h _ (λb o q=>Yg _ (g b o q)) at1;change Yl _ _ (afR [.ref h0.objs.size] (call (.builtin "list.sort") [.ref h0.objs.size] kw) >>= λ_=>ret (.ref h0.objs.size)) _ _ {s with heap:=h0.push (seqObj "list" vs.toArray 0)};rw[sz];show Yf (xu (wpAny_call_entry_kw ama #[_,at1,rfl] alP (pk this (λf s2 q=>?_) λ_ _ e=>e) (a2 _)));show#[_,q.1,Yk #[_,rfl,q.2]]
theorem W8{k:Array Yd->Nat->Yd->ag1 ajg}(ho:s.heap.get? a=Ya (seqObj "list" vs.toArray n))(h64:vs.length<64)(h:∀(h2:YO) (e:Nat),(∀b o,b≠a->s.heap.get? b=Ya o->h2.get? b=Ya o)->h2.get? a=Ya (seqObj "list" #[] e)->Yl (Yn prog w) A (k vs.toArray e (.ref h2.objs.size)) P E {s with heap:=h2.push (seqObj "list" #[] 0)}):
  Yl (Yn prog w) A (am3 (.ref a) >>= λits=>ajB (.ref a) (λ_=>#[]) >>= λ_=>seqEpoch a >>= λe=>newTuple its.toList >>= λt=>al9 [] >>= λks=>afR [t,ks] (k its e ks)) P E s:=by
 have z:vs.toArray.size<=Yu:=by rw[YA,adm];omega
 obtain⟨e,he⟩:∃e,(s.heap.update a (abA λ_=>(#[]:Array Yd))).get? a=Ya (seqObj "list" #[] e):=#[_,alT ho λ_=>#[]];show Yf (amP ho rfl (Yf (aiP ho rfl (Yf (seqEpoch_at he rfl (Yf (aj7 (Yf (aku (xu (h _ e (λb o nb q=>?_) (Yg _ he))) (Y1 _))) ?_)))) z (Y1 _))))
 .show Yg _ ((gm _ _ (Ne.symm nb)).trans q)
 .simpa using z
theorem NL{e:Nat}{out:Array Yd}{tl:Nat->ag1 ajg}(ho:s.heap.get? a=Ya (seqObj "list" #[] e))(hz:out.size<=Yu)(h:∀(h1:YO) (c:Nat),(∀b o,b≠a->s.heap.get? b=Ya o->h1.get? b=Ya o)->h1.get? a=Ya (seqObj "list" out c)->Yl (Yn prog w) A (tl e) P E {s with heap:=h1}):
  Yl (Yn prog w) A (seqEpoch a >>= λx=>ajB (.ref a) (λ_=>out) >>= λ_=>tl x) P E s:=
 Yf (seqEpoch_at ho rfl (Yf (aiP ho rfl (h _ _ (λb o nb q=>(gm _ _ (Ne.symm nb)).trans q) (alT ho λ_=>out)) (Y1 _) (ahJ hz))))
end
def Lv{α:Type}(n:Nat)(P:α->Prop):afa α->Prop
 | .ret a=>P a
 | .ask i j k=>i<n/\j<n/\∀b,Lv n P (k b)
theorem uZ{α β:Type}{n:Nat}{P:α->Prop}{P':β->Prop}{f:α->afa β}(hf:∀a,P a->Lv n P' (f a)):∀t:afa α,Lv n P t->Lv n P' (t.bind f)
 | .ret a,h=>hf a h
 | .ask i j k,h=>#[h.1,h.2.1,λb=>uZ hf (k b) (h.2.2 b)]
def qN(n:Nat)(p:Array Nat):Prop:=p.toList.Perm (gp n)
theorem dU(h:qN n p)(hn:0<n)(i:Nat):p.getD i 0<n:=by
 by_cases z:i<p.size
 .have e:p.getD i 0=p[i]:=by simp[ank,z]
  rw[e];have:p[i]∈p.toList:=Array.getElem_mem_toList z;show adn.mp (h.mem_iff.mp this)
 .have e:p.getD i 0=0:=by simp[ank,z]
  rw[e];show hn
theorem pj(h:qN n p)(i j:Nat):qN n (afw p i j):=(aiQ.mp (mirror_perm p i j _)).trans h
theorem T4(h:qN n p)(i j:Nat):qN n (bubble p i j):=(aiQ.mp (bubble_perm p i j)).trans h
section
variable(hn:0<n)
include hn
theorem Mo{p:Array Nat}(h:qN n p):∀f m:Nat,Lv n (λ_=>True) (alU p f m)
 |0,m=>trivial
 |f+ 1,m=>by
  show#[dU h hn _,dU h hn _,λb=>?_];cases b
  .show Mo h f (m+ 1)
  .show trivial
theorem CO:∀(f:Nat) {p:Array Nat} (m q:Nat),qN n p->Lv n (λr=>qN n r.1) (alw f p m q)
 |0,p,m,q,h=>h
 |f+ 1,p,m,q,h=>by
  show#[dU h hn _,dU h hn _,λb=>?_];cases b
  .show#[dU h hn _,dU h hn _,λd=>?_];cases d
   .show CO f (m+ 1) (q+ 1) h
   .show h
  .change Lv n _ (if q>0 then _ else _);by_cases z:q>0
   .rw[if_pos z];show CO f (m+ 1) 0 (pj h _ _)
   .rw[if_neg z];show CO f (m+ 1) 0 h
theorem JK(h:qN n p)(m r:Nat):Lv n (λr=>qN n r.2) (ak8 m r p):=by
 show uZ (P:=λ_=>True) (λa _=>?_) _ (Mo hn (pj h _ _) _ _);show pj h _ _
theorem Ba(h:qN n p)(m r:Nat):Lv n (λr=>qN n r.2) (akp m r p):=by
 show uZ (P:=λr=>qN n r.1) (λa ha=>?_) _ (CO hn _ _ _ h);by_cases z:a.2.2>0
 .rw[if_pos z];show JK hn (pj ha _ _) _ _
 .rw[if_neg z];show JK hn ha _ _
theorem Ss(h:qN n p)(r:Nat):Lv n (λr=>qN n r.2) (ak9 r p):=by
 show uZ (P:=λ_=>True) (λa _=>?_) _ (Mo hn h _ _);by_cases z:(a==r)=true
 .rw[if_pos z];show h
 .rw[if_neg z];by_cases y:a>1
  .rw[if_pos y];show#[dU h hn _,dU h hn _,λb=>?_];cases b
   .show Ba hn (pj h _ _) _ _
   .show h
  .rw[if_neg y];show Ba hn h _ _
theorem Dr{p:Array Nat}(h:qN n p)(k:Nat):∀f l r:Nat,Lv n (λ_=>True) (ala p k f l r)
 |0,l,r=>trivial
 |f+ 1,l,r=>by
  change Lv n _ (if l≥r then _ else _);by_cases z:l≥r
  .rw[if_pos z];show trivial
  .rw[if_neg z];show#[dU h hn _,dU h hn _,λb=>?_];cases b
   .show Dr h k f _ _
   .show Dr h k f _ _
theorem VV:∀(f:Nat) {p:Array Nat} (k:Nat),qN n p->Lv n (qN n) (alV f p k)
 |0,p,k,h=>h
 |f+ 1,p,k,h=>uZ (P:=λ_=>True) (λa _=>VV f (k+ 1) (T4 h _ _)) _ (Dr hn h k _ _ _)
theorem Wf:Lv n (qN n) (ajo n):=by
 show uZ (P:=λr=>qN n r.2) (λa ha=>?_) _ (Ss hn (aiw _) n);by_cases z:a.1<n
 .rw[if_pos z];show VV hn _ _ ha
 .rw[if_neg z];show ha
end
theorem abg(h:qN vs.length p):(p.toList.map λi=>vs.getD i abl).Perm vs:=by
 have e:(gp vs.length).map (λi=>vs.getD i abl)=vs:=by
  show ajj (by simp) λi h1 h2=>?_;simp at h1⊢;simp[h1]
 have:=h.map λi=>vs.getD i abl;rw[e]at this;show this
section
def TpI(h:YO)(v:Yd):Prop:=∃a o xs n f ns,v=.ref a/\h.get? a=Ya o/\o.cls=.type "tuple"/\o.data=.seq xs n/\xn xs.toList (f::ns)
theorem JN{h:YO}:∀{vs:List Yd},(∀v∈vs,TpI h v)->∃fs:List Yd,PySem.W.KatTups h vs fs/\(∀v∈fs,∃n t,v=agI n t)/\fs.length=vs.length
 |[],_=>#[[],PySem.W.KatTups.nil,by simp,rfl]
 |v::vs,hv=>by
  obtain⟨fs,h1,h2,h3⟩:=JN (vs:=vs) λv hv'=>hv v (Yx _ hv');obtain⟨a,o,xs,n,f,ns,rfl,e2,e3,e4,e5⟩:=hv v Yy;obtain⟨w,hw,tk,ew⟩:∃w,xs[0]?=Ya w/\∃tk,w=agI f tk:=by
   rw[←uc];generalize xs.toList=l at e5⊢;cases e5 with
   |cons _ t r=>show#[_,rfl,_,rfl]
  show#[w::fs,PySem.W.KatTups.cons e2 e3 e4 hw h1,λu hu=>?_,by rw[cT,cT,h3]];rcases Yq.mp hu with z|z
  .rw[z,ew];show#[_,_,rfl]
  .show h2 u z
end
section
variable{h':YO}
theorem aM.adopt{it:Yc}{o:HO}{t':Nat}(I:aM X pins σ H s)(k:∀b o,b≠it->s.heap.get? b=Ya o->h'.get? b=Ya o)(hf:ya X pins H it)
  (new:cO X.prog X.w (upd H it o) h' it o):aM X pins σ (upd H it o) {s with heap:=h',toks:=t'}:=by
 obtain⟨f0,f1,f2,f3,f4,f5⟩:=hf;have nit:∀b u,H b=Ya u->b≠it:=λb u e z=>by rw[z,f0]at e;cases e
 show I.step (g':=s.gens) (d':=s.drawn) (ch:=[it]) (λb hb=>?_) (λb o _ _ hc e _=>k b o (λz=>hc (by simp[z])) e) (λb o _ _ hc e _=>#[o.slots,k b o (λz=>hc (by simp[z])) e]) (λb ob hc e n=>by rw[ak (λz=>hc (by simp[z]))];show n)
  (λb o hc e=>#[o,k b o (λz=>hc (by simp[z])) e]) (λb xs e=>by rw[ak (nit b _ e)];show e) (λb o u e=>by rw[ak (nit b _ e)];show e) (λb ps e=>#[#[],by rw[ak (nit b _ e),e];simp]) (λm hm=>?_) (λb u e=>?_) I.bare
 .have e:b=it:=by simpa using hb
  subst e;show#[f3,f1,f4,f5]
 .obtain⟨ob,es,ep,ho,r⟩:=hm;show#[ob,es,ep,k _ ob (Ne.symm f1) ho,r]
 .by_cases hb:b=it
  .subst hb;rw[aj]at e;cases e;show new
  .rw[ak hb]at e;show(I.hok b u e).stay (λc v hc q=>k c v ?_ q) (λc q=>by rw[ak (nit c _ q)];show q) λc xs q=>by rw[ak (nit c _ q)];show q
   rcases hc with z|z
   .rw[z];show nit b u e
   .show nit c _ z
end
theorem cV.two(r:cV (k+ 1) A):cV k A.in1.in1:=#[r.hd,by have:=r.dp;change A.depth+ 3*k+ 5<ain;omega,by have:=r.un;change A.units+ 1+ 1+ 16*k+ 200<ab0;omega]
theorem Tu{x:V}{v:Yd}:Vals xs its->RelV x v->Vals (xs++[x]) (its++[v]):=λh r=>h.append (.cons r .nil)
end L2
namespace GX
open PySem PySem.Spec PyProof.Rows
variable{prog:YU}{w:YZ}{A:sq}{s:Yi}{E:Yd->Yi->Prop}{it d:Yc}{h:YO}{es:Array vc}{ep i:Nat}{Q:Option Yd->Yi->Prop}
noncomputable abbrev pY(es:Array vc)(ep:Nat):Y8:={cls:=.type "dict",data:=.dict es ep}
noncomputable abbrev Np(d:Yc)(i n ep:Nat):Y8:={cls:=.type "dict_valueiterator",data:=.fields (afs [.ref d,.int i 0,.int n 0,.int ep 0])}
theorem Ts(it d:Yc)(i ep:Nat)(es:Array vc)(e:vc)(hx:es[i]?=Ya e):
  ahk (xb.«dict_valueiterator.__next__» #[[.ref it],[]]) (λ_ R s=>s.heap.get? it=Ya (Np d i es.size ep)/\s.heap.get? d=Ya (pY es ep)/\
   ∀g,g.get? it=Ya (Np d (i+ 1) es.size ep)->aaq it s.heap g->R (.ok (.ret e.val)) {s with heap:=g}):=
 .of_wp λprog w A R s ⟨h1,h2,q⟩=>by
  obtain⟨h,g,dr,tk,os⟩:=s;have hT:xf {heap:=h,gens:=g,drawn:=dr,toks:=tk,os:=os} (.ref it) "dict_valueiterator":=#[_,h1,rfl]
  wp_walk
  rw[if_neg (by omega),YK,hx]
  wp_walk
  have ow:adp ((Manifest.find? "dict_valueiterator").elim "dict_valueiterator" λx=>x.tpName)=false:=by decide +kernel
  show#[_,rfl,q _ ?_ (GV ..)];rw[xt _ h1 rfl,ow];simp[ahc,rawInt];intro x hx hm;exfalso
  revert x hx hm
  decide +kernel
theorem XN(d:Yc)(es:Array vc)(ep:Nat)(hd:(d==RW)=false):
  ahk (xb.«dict.values» #[[.ref d],[]]) (λ_ R s=>s.heap.get? d=Ya (pY es ep)/\R (.ok (.ret (.ref s.heap.objs.size))) {s with heap:=s.heap.push {cls:=.type "dict_values",data:=.fields (afs [.ref d])}}):=
 .of_wp λprog w A R s ⟨h1,q⟩=>by
  obtain⟨h,g,dr,tk,os⟩:=s;have hT:xf {heap:=h,gens:=g,drawn:=dr,toks:=tk,os:=os} (.ref d) "dict":=#[_,h1,rfl]
  wp_walk
  show#[_,rfl,q]
theorem Wz(it d:Yc)(i ep:Nat)(es:Array vc)(hi:es.size<=i):
  ahk (xb.«dict_valueiterator.__next__» #[[.ref it],[]]) (λA R s=>A.handled=Yb/\s.heap.get? it=Ya (Np d i es.size ep)/\s.heap.get? d=Ya (pY es ep)/\
   ∀g e,aiy it s.heap g->xf {s with heap:=g} (.ref e) "StopIteration"->R (.error (.ref e)) {s with heap:=g}):=
 .of_wp λprog w A R s ⟨h0,h1,h2,q⟩=>by
  obtain⟨h,g,dr,tk,os⟩:=s;have hT:xf {heap:=h,gens:=g,drawn:=dr,toks:=tk,os:=os} (.ref it) "dict_valueiterator":=#[_,h1,rfl];have h0':A.in1.handled=none:=h0
  wp_walk
  rw[if_neg (by omega),YK,ade hi]
  wp_walk
  simp only[alu]
  wp_walk
  show q _ _ (λb o nb e=>Yg _ (Yg _ (((GV ..).2 b nb).trans e))) #[_,Ys _ rfl,rfl]
theorem QG(v d:Yc)(ep:Nat)(es:Array vc)(dd:Option Yc)(sl:Array (Option Yd)):
  ahk (xb.«dict_values.__iter__» #[[.ref v],[]]) (λA R s=>s.heap.get? v=Ya {cls:=.type "dict_values",dict:=dd,data:=.fields (afs [.ref d]),slots:=sl}/\s.heap.get? d=Ya (pY es ep)/\
   R (.ok (.ret (.ref s.heap.objs.size))) {s with heap:=s.heap.push (Np d 0 es.size ep)}):=
 .of_wp λprog w A R s ⟨h1,h2,q⟩=>by
  obtain⟨h,g,dr,tk,os⟩:=s;have hT:xf {heap:=h,gens:=g,drawn:=dr,toks:=tk,os:=os} (.ref v) "dict_values":=#[_,h1,rfl]
  wp_walk
  have ow:adp "dict_valueiterator"=false:=by decide +kernel
  rw[ow];show#[_,rfl,q]
def lC(h:YO)(d:Yc)(es:Array vc)(ep:Nat):Prop:=h.get? d=Ya (pY es ep)
def Ey(h:YO)(it d:Yc)(i n ep:Nat):Prop:=h.get? it=Ya (Np d i n ep)
theorem lC.of{o:Y8}(e:h.get? d=Ya o)(x:o.ExactDict)(dt:o.data=.dict es ep):lC h d es ep:=by
 obtain⟨c,di,dat,sl⟩:=o;obtain⟨rfl,rfl,rfl⟩:=x;cases dt;show e
theorem lC.at{g:YO}(x:lC h d es ep)(k:∀o,h.get? d=Ya o->g.get? d=Ya o):lC g d es ep:=k _ x
theorem lC.lt(x:lC h d es ep):d<h.objs.size:=Yt x
theorem Ey.is{n:Nat}(x:Ey h it d i n ep):h.IsValIter it d i n ep:=#[_,x,rfl,rfl]
section
variable{v:Yc}
theorem M8{Q:Yd->Yi->Prop}(hS:(d==RW)=false)(rd:lC s.heap d es ep)
  (q:Q (.ref s.heap.objs.size) {s with heap:=s.heap.push {cls:=.type "dict_values",data:=.fields (afs [.ref d])}}):Yl (Yn prog w) A (call (.builtin "dict.values") [.ref d]) Q E s:=
 ahz F.slot_dict_values #[_,rd,rfl] F.entry_dict_values (F.args_dict_values_1 _) (XN d es ep hS) #[rd,q]
theorem TJ{Q:Yd->Yi->Prop}(hv:s.heap.IsValuesView v d)(rd:lC s.heap d es ep)
  (q:Q (.ref s.heap.objs.size) {s with heap:=s.heap.push (Np d 0 es.size ep)}):Yl (Yn prog w) A (aiC (.ref v)) Q E s:=by
 obtain⟨⟨c,di,dat,sl⟩,e,rfl,rfl⟩:=id hv;apply ahI hv.typeIs F.slot_dict_values_iter;apply ahz F.slot_dict_values_iter hv.typeIs F.entry_dict_values_iter (F.args_dict_values_iter_1 _) (QG v d ep es di sl);show#[e,rd,"dict_valueiterator",_,#[_,Ys _ rfl,rfl],F.slot_dict_valueiterator_next.lookup,q]
theorem SS{R:agt->Yi->Prop}{S:sq->(agt->Yi->Prop)->Yi->Prop}(hT:s.TypeIs (.ref it) "dict_valueiterator")(m:ahk (xb.«dict_valueiterator.__next__» #[[.ref it],[]]) S)(h:S A R s):
  rl (Yn prog w) A (.call (.builtin "dict_valueiterator.__next__") #[[.ref it],[]]) R s:=
 aaF F.slot_dict_valueiterator_next.plain F.entry_dict_valueiterator_next (F.slot_dict_valueiterator_next.check _ _ _ _ _ _ _ _ hT (F.args_dict_valueiterator_next_1 _) (m prog w A R s h))
theorem Si{e:vc}(hit:Ey s.heap it d i es.size ep)(rd:lC s.heap d es ep)(hx:es[i]?=Ya e)(hQ:∀g,Ey g it d (i+ 1) es.size ep->aaq it s.heap g->Q (Ya e.val) {s with heap:=g}):Yl (Yn prog w) A (adi (.ref it)) Q E s:=by
 have hT:s.TypeIs (.ref it) "dict_valueiterator":=#[_,hit,rfl];have hk:=F.slot_dict_valueiterator_next.lookup;have hb:=F.slot_dict_valueiterator_next.bind (.ref it);unfold adi
 repeat' first|assumption|wp_step
 show SS hT (Ts it d i ep es e hx) #[hit,rd,λg a b=>Yk (Yk (hQ g a b))]
theorem XR(hh:A.handled=Yb)(hit:Ey s.heap it d i es.size ep)(rd:lC s.heap d es ep)(hi:es.size<=i)(fin:∀g,aiy it s.heap g->Q Yb {s with heap:=g}):Yl (Yn prog w) A (adi (.ref it)) Q E s:=by
 have hT:s.TypeIs (.ref it) "dict_valueiterator":=#[_,hit,rfl];have hk:=F.slot_dict_valueiterator_next.lookup;have hb:=F.slot_dict_valueiterator_next.bind (.ref it);have hst:isSubtype (.type "StopIteration") (.type "StopIteration")=pure true:=by rw[ahA];kernel_rfl
 unfold adi
 repeat' first|assumption|wp_step
 show SS hT (Wz it d i ep es hi) #[hh,hit,rd,λg e a b=>?_];have hq:=fin g a
 repeat' first|assumption|wp_step
end
theorem Q9(hh:A.handled=Yb)(nd:d≠it):
  ajH prog w A it [it,d] [it] es.size (λi x=>∃y:vc,es[i]?=Ya y/\x=y.val) (λi h=>Ey h it d i es.size ep/\lC h d es ep):=by
 constructor
 case sub=>intro b hb;simp at hb;simp[hb]
 case frame=>show λi h g x k=>#[k it (by simp) _ x.1,k d (by simp) _ x.2]
 case self=>show λi s Q E x q=>akn x.1.is q
 case done=>show λs Q E x q=>XR hh x.1 x.2 (Ym _) λg k=>q g s.toks λb o nb e=>k b o (by simpa using nb) e
 case item=>
  intro i s Q E hi x q;show Si x.1 x.2 (YH hi) λg a k=>q _ g s.toks #[_,YH hi,rfl] #[a,(k.2 d nd).trans x.2] λb o nb e=>(k.2 b (by simpa using nb)).trans e
end GX
namespace L2
open PySem PySem.Spec PyProof.Rows
variable{X:Cx}{P:YU}{w:YZ}{d D f e a C:Yc}{H H':Hp}{h h' base B:YO}{n i k m:Nat}{b:Nat->Nat->Bool}{s s':Yi}{p:Array Nat}{xs vs vals:List V}{its us:List Yd}{ks:List (List Int)}{A:sq}{E:Yd->Yi->Prop}{Q:Bool->Yi->Prop}{pins:List (Yc×Y8)}{σ:St}{fd:Yr}{ps N:List Yh}{sp:Sp}{K:Ye}{te ta:TE}{pos np:adq}{cs:List Yc}{o:HO}{mg:Yh->Option Yd}{qual x:Yh}{scope:agi}{cd:Yd}{cl:List (Yh×Yc)}{outer:List af7}{ix:List Nat}{es:List YY}{t:TA}{ms:List (Yc×Sp)}{od:Option Yc}{M:amC}{newId:String}
theorem abW{r:Yc}{es:Array vc}{ep:Nat}:
  PySem.W.KdlSrc P w "dict_values" r d es.size (λi x=>∃y:vc,es[i]?=Ya y/\x=y.val) (λh=>h.IsValuesView r d/\GX.lC h d es ep):=by
 constructor
 case iter=>
  intro A s hh ⟨hv,rd⟩;show#[GX.Np d 0 es.size ep,λi h=>GX.Ey h s.heap.objs.size d i es.size ep/\GX.lC h d es ep,λE Q q=>GX.TJ hv rd q,GX.Q9 hh (YB rd.lt),Ys _ rfl,rd.at λo e=>Yg _ e]
 case hint=>show λA E s Q x q=>PySem.W.kdl_hint_values x.1.typeIs q
 case keep=>
  intro h g ⟨⟨o,e,c,dt⟩,rd⟩ k;show#[#[o,k r (Or.inl rfl) o e,c,dt],rd.at (k d (Or.inr rfl))]
 case there=>
  intro h ⟨⟨o,e,_⟩,rd⟩;show And.intro (Yt e) rd.lt
 case type=>show λs x=>x.1.typeIs
 case notList=>rfl
 case notTuple=>rfl
theorem Sr{kvs:List (List cj×V)}(ok:pG P w H h)(e:Rd H d (.dT kvs)):
  (d==RW)=false/\∃(es:Array vc) (ep:Nat),GX.lC h d es ep/\es.size=kvs.length/\∀(i:Nat) (k:List cj) (v:V),kvs[i]?=Ya (k,v)->∃y:vc,es[i]?=Ya y/\RelV v y.val:=by
 obtain⟨_,hS,xs,kt,o,es,ep,h1,h2,h3,h4,_⟩:=y8 ok e;show#[hS,es,ep,.of h1 h2 h3,?_,λi k v hv=>?_]
 .rw[←mr,h4,Yj];show(Y2 kt).symm
 .obtain⟨q,hq,_,_,rv⟩:=jF kt hv;show#[aka (afi (bB P w)) q,?_,rv];rw[←uc,h4,YJ,hq];rfl
section
theorem SQ:MtR X "dict.values" (λx vs H Q=>∃d kvs,x=.ref d/\vs=[]/\H d=Ya (.dT kvs)/\∀v,H v=Yb->Q (.ref v) (upd H v (OL v d))):=by
 intro pins s σ H x xs v us Q I rx rv h;obtain⟨d,kvs,rfl,rfl,hd,q⟩:=h;cases rx;cases rv;obtain⟨hS,es,ep,rd,_⟩:=Sr I.hok (.inl hd);show GX.M8 hS rd ?_;show#[.ref s.heap.objs.size,_,I.laid (o:=OL s.heap.objs.size d) (t':=s.toks) (λb ob e=>Yg _ e) (Ym _) #[#[_,Ys _ rfl,rfl,rfl],#[_,Ys _ rfl],λh1 h2 ⟨o,e1,e2,e3⟩ k=>#[o,k o e1,e2,e3]],rfl,q _ (I.hok.fresh (Ym _))]
theorem Lw(hc:X.calm=true):eU X (.type "list") (λxs H Q=>∃(v d:Yc) (kvs:List (List cj×V)),xs=[.ref v]/\H v=Ya (OL v d)/\Rd H d (.dT kvs)/\kvs.length<=1000/\∀l,H l=Yb->Q (.ref l) (upd H l (.lst (kvs.map (·.2))))):=by
 intro pins s σ H xs us Q I r h;obtain⟨v,d,kvs,rfl,hv,hd,hlen,q⟩:=h;obtain⟨u,rfl,rx⟩:=ij r;cases rx;obtain⟨hS,es,ep,rd,sz,rel⟩:=Sr I.hok hd;have hvw:s.heap.IsValuesView v d:=(I.hok v _ hv).1;show ajn (A:=X.A) (abW (es:=es) (ep:=ep)) (I.ok.hd hc) #[hvw,rd] (by rw[sz];show tm (aN (by omega))) λh' tk acc c hk he hacc=>?_;show#[.ref s.heap.objs.size,_,I.laid (o:=.lst (kvs.map (·.2))) (t':=tk) hk (Ym _) #[by rw[Yj];show tm (aN hlen),acc.toList,c,Fn ?_ λi x u hx hu=>?_,he],rfl,q _ (I.hok.fresh (Ym _))]
 .have e:acc.toList.length=es.size:=by rw[mr];show hacc.1
  rw[Yj,e,sz]
 .rw[uc]at hu;obtain⟨y,hy,rfl⟩:=hacc.2 i u hu;rw[YJ]at hx;cases e:kvs[i]? with
  |none=>rw[e]at hx;cases hx
  |some p=>
   rw[e]at hx;cases hx;obtain⟨y',hy',ru⟩:=rel i p.1 p.2 e;rw[hy]at hy';cases hy';show ru
end
def Lo{α:Type}(n:Nat)(b:Nat->Nat->Bool)(P:α->Prop):afa α->Prop
 | .ret a=>P a
 | .ask i j k=>i<n/\j<n/\Lo n b P (k (b i j))
theorem vg{α β:Type}{n:Nat}{b:Nat->Nat->Bool}{P:α->Prop}{P':β->Prop}{f:α->afa β}(hf:∀a,P a->Lo n b P' (f a)):∀t:afa α,Lo n b P t->Lo n b P' (t.bind f)
 | .ret a,h=>hf a h
 | .ask i j k,h=>#[h.1,h.2.1,vg hf (k (b i j)) h.2.2]
theorem aah{α:Type}{n:Nat}{b:Nat->Nat->Bool}{P:α->Prop}{cmp:Nat->Nat->(Bool->Yi->Prop)->Yi->Prop}{G:α->Yi->Prop}{s:Yi}(hc:∀i j C,i<n->j<n->C (b i j) s->cmp i j C s)(hg:∀a,P a->G a s):∀t:afa α,Lo n b P t->t.kasWp cmp G s
 | .ret a,h=>hg a h
 | .ask i j k,h=>hc i j _ h.1 h.2.1 (aah hc hg (k (b i j)) h.2.2)
theorem Av{α:Type}{n:Nat}{b:Nat->Nat->Bool}{P P':α->Prop}(hp:∀a,P a->P' a):∀t:afa α,Lo n b P t->Lo n b P' t
 | .ret a,h=>hp a h
 | .ask i j k,h=>#[h.1,h.2.1,Av hp (k (b i j)) h.2.2]
theorem zK(h:qN n p):p.size=n:=by
 have:=h.length_eq;rw[aeb,mr]at this;show this
theorem zv{j:Nat}(hj:j<=p.size)(k:Nat):(afw p i j).getD k 0=if i<=k/\k<j then p.getD (i+ j-1-k) 0 else p.getD k 0:=by
 rw[YN,YN,YN];unfold afw;rw[getElem?_mirror_all hj];split<;>rfl
theorem PV{l:Nat}(hk:k<p.size)(hl:l<=k)(i:Nat):(bubble p k (k-l)).getD i 0=if i=l then p.getD k 0 else if l<i/\i<=k then p.getD (i-1) 0 else p.getD i 0:=by
 rw[YN,YN,YN,YN,getElem?_bubble hk _ (by omega),show k-(k-l)=l by omega];split
 .rfl
 .split<;>rfl
section
variable(ky:Nat->Int)
noncomputable abbrev bk(i j:Nat):Bool:=decide (ky i<ky j)
def Up(p:Array Nat)(m:Nat):Prop:=∀i j,i<=j->j<m->ky (p.getD i 0)<=ky (p.getD j 0)
def Dn(p:Array Nat)(m:Nat):Prop:=∀i j,i<=j->j<m->ky (p.getD j 0)<=ky (p.getD i 0)
variable{ky}(hn:0<n)
theorem abT(h1:1<=m)(h:Up ky p m)(e:ky (p.getD (m-1) 0)<=ky (p.getD m 0)):Up ky p (m+ 1):=λi j hij hj=>by
 by_cases z:j<m
 .show h i j hij z
 .obtain rfl:j=m:=by omega
  by_cases w:i=j
  .rw[w];show aeZ _
  .show akK (h i (j-1) (by omega) (by omega)) e
theorem DK(h1:1<=m)(h:Dn ky p m)(e:ky (p.getD m 0)<=ky (p.getD (m-1) 0)):Dn ky p (m+ 1):=λi j hij hj=>by
 by_cases z:j<m
 .show h i j hij z
 .obtain rfl:j=m:=by omega
  by_cases w:i=j
  .rw[w];show aeZ _
  .show akK e (h i (j-1) (by omega) (by omega))
include hn
theorem Mv{p:Array Nat}(h:qN n p):∀f m:Nat,1<=m->Up ky p m->Lo n (bk ky) (λr=>m<=r/\r<=m+ f/\Up ky p r/\(r<m+ f->ky (p.getD r 0)<ky (p.getD (r-1) 0))) (alU p f m)
 |0,m,h1,u=>#[Ym _,Ym _,u,λz=>absurd z (Y7 _)]
 |f+ 1,m,h1,u=>by
  show#[dU h hn _,dU h hn _,?_];by_cases c:ky (p.getD m 0)<ky (p.getD (m-1) 0)
  .rw[show bk ky (p.getD m 0) (p.getD (m-1) 0)=true from decide_eq_true c];show#[Ym _,by omega,u,λ_=>c]
  .rw[show bk ky (p.getD m 0) (p.getD (m-1) 0)=false from decide_eq_false c];have:=Mv h f (m+ 1) (by omega) (abT h1 u (by omega));rw[show m+ 1+ f=m+ (f+ 1) by omega]at this;show(Av ?_ _ this);show λr hr=>#[by omega,hr.2.1,hr.2.2]
theorem Cw:∀(f:Nat) {p:Array Nat} (m q:Nat),qN n p->m+ f<=n->1<=m->Dn ky p m->q+ 1<=m->(∀i,m-(q+ 1)<=i->i<m->ky (p.getD i 0)=ky (p.getD (m-1) 0))->
  Lo n (bk ky) (λr=>qN n r.1/\Dn ky r.1 r.2.1/\1<=r.2.1/\r.2.1<=m+ f/\r.2.2+ 1<=r.2.1/\∀i,r.2.1-(r.2.2+ 1)<=i->i<r.2.1->ky (r.1.getD i 0)=ky (r.1.getD (r.2.1-1) 0)) (alw f p m q)
 |0,p,m,q,h,hm,h1,d,hq,e=>#[h,d,h1,Ym _,hq,e]
 |f+ 1,p,m,q,h,hm,h1,d,hq,e=>by
  have hs:=zK h;show#[dU h hn _,dU h hn _,?_];by_cases c:ky (p.getD m 0)<ky (p.getD (m-1) 0)
  .rw[show bk ky (p.getD m 0) (p.getD (m-1) 0)=true from decide_eq_true c];change Lo n _ _ (if q>0 then _ else _);by_cases z:q>0
   .rw[if_pos z];have er:∀k,ky ((afw p (m-(q+ 1)) m).getD k 0)=ky (p.getD k 0):=λk=>by
     rw[zv (by omega)];split
     .rename_i w;rw[e _ (by omega) (by omega),e k (by omega) (by omega)]
     .rfl
    have:=Cw f (p:=afw p (m-(q+ 1)) m) (m+ 1) 0 (pj h _ _) (by omega) (by omega) (DK h1 (λi j a b=>by rw[er,er];show d i j a b) (by rw[er,er];omega)) (by omega) λi a b=>by
     obtain rfl:i=m:=by omega
     rfl
    show Av (λr hr=>?_) _ this;obtain⟨a1,a2,a3,a4,a5⟩:=hr;show#[a1,a2,a3,by omega,a5]
   .rw[if_neg z];have:=Cw f (p:=p) (m+ 1) 0 h (by omega) (by omega) (DK h1 d (by omega)) (by omega) λi a b=>by
     obtain rfl:i=m:=by omega
     rfl
    show Av (λr hr=>?_) _ this;obtain⟨a1,a2,a3,a4,a5⟩:=hr;show#[a1,a2,a3,by omega,a5]
  .rw[show bk ky (p.getD m 0) (p.getD (m-1) 0)=false from decide_eq_false c];show#[dU h hn _,dU h hn _,?_];by_cases c2:ky (p.getD (m-1) 0)<ky (p.getD m 0)
   .rw[show bk ky (p.getD (m-1) 0) (p.getD m 0)=true from decide_eq_true c2];show#[h,d,h1,by change m<=m+ (f+ 1);omega,hq,e]
   .rw[show bk ky (p.getD (m-1) 0) (p.getD m 0)=false from decide_eq_false c2];have:=Cw f (p:=p) (m+ 1) (q+ 1) h (by omega) (by omega) (DK h1 d (by omega)) (by omega) λi a b=>by
     rw[show m+ 1-1=m by omega];by_cases w:i=m
     .rw[w]
     .rw[e i (by omega) (by omega)];omega
    show Av (λr hr=>?_) _ this;obtain⟨a1,a2,a3,a4,a5⟩:=hr;show#[a1,a2,a3,by omega,a5]
abbrev Run(ky:Nat->Int)(n:Nat)(r:Nat×Array Nat):Prop:=qN n r.2/\Up ky r.2 r.1/\1<=r.1/\r.1<=n
theorem Ks(h:qN n p)(h1:1<=m)(hm:m<=n)(d:Dn ky p m):Lo n (bk ky) (Run ky n) (ak8 m n p):=by
 have hs:=zK h;have u:Up ky (afw p 0 m) m:=λi j hij hj=>by
  rw[zv (by omega),zv (by omega),if_pos #[by omega,by omega],if_pos #[by omega,hj]];show d _ _ (by omega) (by omega)
 show vg (λa ha=>?_) _ (Mv hn (pj h 0 m) (n-m) m h1 u);show#[pj h 0 m,ha.2.2.1,by have:=ha.1;omega,by have:=ha.2.1;omega]
theorem A0(h:qN n p)(h1:1<=m)(hm:m+ 1<=n)(d:Dn ky p (m+ 1)):Lo n (bk ky) (Run ky n) (akp m n p):=by
 have hd:=Cw hn (n-(m+ 1)) (m+ 1) 0 h (by omega) (by omega) d (by omega) λi a b=>by
  obtain rfl:i=m:=by omega
  rfl
 show vg (λa ha=>?_) _ hd;obtain⟨a1,a2,a3,a4,a5,a6⟩:=ha;have hs:=zK a1;by_cases z:a.2.2>0
 .rw[if_pos z];show Ks hn (pj a1 _ _) a3 (by omega) λi j hij hj=>?_;have er:∀k,ky ((afw a.1 (a.2.1-(a.2.2+ 1)) a.2.1).getD k 0)=ky (a.1.getD k 0):=λk=>by
   rw[zv (by omega)];split
   .rename_i w;rw[a6 _ (by omega) (by omega),a6 k (by omega) (by omega)]
   .rfl
  rw[er,er];show a2 i j hij hj
 .rw[if_neg z];show Ks hn a1 a3 (by omega) a2
theorem TV(h:qN n p):Lo n (bk ky) (Run ky n) (ak9 n p):=by
 have hs:=zK h;show vg (λa ha=>?_) _ (Mv hn h (n-1) 1 (Ym _) λi j a b=>by
  obtain rfl:i=j:=by omega
  show aeZ _)
 obtain⟨a1,a2,a3,a4⟩:=ha;by_cases z:(a==n)=true
 .rw[if_pos z];show#[h,a3,a1,by omega]
 .rw[if_neg z];have z:a≠n:=λw=>z (by rw[w];show beq_self_eq_true n);have c:=a4 (by omega);by_cases y:a>1
  .rw[if_pos y];show#[dU h hn _,dU h hn _,?_];by_cases c2:ky (p.getD 0 0)<ky (p.getD (a-1) 0)
   .rw[show bk ky (p.getD 0 0) (p.getD (a-1) 0)=true from decide_eq_true c2];show#[h,a3,a1,by omega]
   .rw[show bk ky (p.getD 0 0) (p.getD (a-1) 0)=false from decide_eq_false c2];have eq:∀k,k<a->ky (p.getD k 0)=ky (p.getD (a-1) 0):=λk hk=>by
     have b1:=a3 0 k (by omega) hk;have b2:=a3 k (a-1) (by omega) (by omega);omega
    have er:∀k,ky ((afw p 0 a).getD k 0)=ky (p.getD k 0):=λk=>by
     rw[zv (by omega)];split
     .rename_i w;rw[eq _ (by omega),eq k (by omega)]
     .rfl
    show A0 hn (pj h 0 a) a1 (by omega) (DK a1 (λi j hij hj=>?_) (by rw[er,er];omega));rw[er,er,eq i (by omega),eq j hj];show aeZ _
  .rw[if_neg y];obtain rfl:a=1:=by omega
   show A0 hn h (Ym _) (by omega) (DK (Ym _) (λi j hij hj=>?_) (by omega));obtain rfl:i=j:=by omega
   show aeZ _
theorem DQ{p:Array Nat}(h:qN n p){k:Nat}(u:Up ky p k):∀f l r:Nat,l<=r->r<=k->r-l<=f->(∀i,i<l->ky (p.getD i 0)<=ky (p.getD k 0))->(∀i,r<=i->i<k->ky (p.getD k 0)<ky (p.getD i 0))->
  Lo n (bk ky) (λx=>x<=k/\(∀i,i<x->ky (p.getD i 0)<=ky (p.getD k 0))/\∀i,x<=i->i<k->ky (p.getD k 0)<ky (p.getD i 0)) (ala p k f l r)
 |0,l,r,h1,h2,h3,a,b=>#[by omega,a,λi hi hk=>b i (by omega) hk]
 |f+ 1,l,r,h1,h2,h3,a,b=>by
  change Lo n _ _ (if l≥r then _ else _);by_cases z:l≥r
  .rw[if_pos z];show#[by omega,a,λi hi hk=>b i (by omega) hk]
  .rw[if_neg z];show#[dU h hn _,dU h hn _,?_];by_cases c:ky (p.getD k 0)<ky (p.getD ((l+ r) / 2) 0)
   .rw[show bk ky (p.getD k 0) (p.getD ((l+ r) / 2) 0)=true from decide_eq_true c];show DQ h u f l ((l+ r) / 2) (by omega) (by omega) (by omega) a λi hi hk=>by
     have:=u ((l+ r) / 2) i hi hk;omega
   .rw[show bk ky (p.getD k 0) (p.getD ((l+ r) / 2) 0)=false from decide_eq_false c];show DQ h u f ((l+ r) / 2+ 1) r (by omega) h2 (by omega) (λi hi=>by
     have:=u i ((l+ r) / 2) (by omega) (by omega);omega) b
theorem Tj:∀(f:Nat) {p:Array Nat} (k:Nat),qN n p->k+ f=n->Up ky p k->Lo n (bk ky) (λp=>qN n p/\Up ky p n) (alV f p k)
 |0,p,k,h,e,u=>by
  obtain rfl:k=n:=by omega
  show#[h,u]
 |f+ 1,p,k,h,e,u=>by
  have hs:=zK h;show vg (λl hl=>?_) _ (DQ hn h u k 0 k (Y1 _) (Ym _) (by omega) (λi hi=>absurd hi (ah9 _)) λi a b=>by omega);obtain⟨l1,l2,l3⟩:=hl;show Tj f (k+ 1) (T4 h _ _) (by omega) λi j hij hj=>?_;rw[PV (by omega) l1,PV (by omega) l1];by_cases i1:i=l
  .rw[if_pos i1];by_cases j1:j=l
   .rw[if_pos j1];show aeZ _
   .rw[if_neg j1,if_pos #[by omega,by omega]];show ae9 (l3 _ (by omega) (by omega))
  .rw[if_neg i1];by_cases i2:l<i/\i<=k
   .rw[if_pos i2,if_neg (by omega),if_pos #[by omega,by omega]];show u _ _ (by omega) (by omega)
   .rw[if_neg i2];by_cases j1:j=l
    .rw[if_pos j1];show l2 i (by omega)
    .rw[if_neg j1];by_cases j2:l<j/\j<=k
     .rw[if_pos j2];show u _ _ (by omega) (by omega)
     .rw[if_neg j2];show u _ _ hij (by omega)
theorem XU:Lo n (bk ky) (λp=>qN n p/\Up ky p n) (ajo n):=by
 show vg (λa ha=>?_) _ (TV hn (p:=afs (gp n)) (aiw _));obtain⟨a1,a2,a3,a4⟩:=ha;by_cases z:a.1<n
 .rw[if_pos z];rw[show max a.1 1=a.1 by omega];show Tj hn _ _ a1 (by omega) a2
 .rw[if_neg z];rw[show a.1=n by omega]at a2;show#[a1,a2]
end
theorem Sf{α:Type}{n:Nat}{P P':α->Prop}(hp:∀a,P a->P' a):∀t:afa α,Lv n P t->Lv n P' t
 | .ret a,h=>hp a h
 | .ask i j k,h=>#[h.1,h.2.1,λb=>Sf hp (k b) (h.2.2 b)]
noncomputable def ltF(f:Bool):List Int->List Int->Bool
 |x::r,y::q=>if x=y then ltF f r q else decide (x<y)
 |_,_=>f
noncomputable def ltL(a b:List Int):Bool:=ltF (decide (a.length<b.length)) a b
theorem xv{α:Type}(l:List α)(d:α):((afs (gp l.length)).toList.map λi=>l.getD i d)=l:=by
 show ajj (by simp) λi h1 h2=>?_;simp at h1⊢;simp[h1]
theorem U8(h:Vals xs its)(hp:qN its.length p):(p.toList.map λi=>xs.getD i V.non).Perm xs/\Vals (p.toList.map λi=>xs.getD i V.non) (p.toList.map λi=>its.getD i abl):=by
 have lv:=h.length;constructor
 .have:=hp.map λi=>xs.getD i V.non;rw[←lv]at this;have e:=xv xs V.non;rw[show(afs (gp xs.length)).toList=gp xs.length from rfl]at e;rw[e]at this;show this
 .have hb:∀i∈p.toList,i<its.length:=λi hi=>adn.mp (hp.mem_iff.mp hi);generalize p.toList=l at hb
  induction l with
  |nil=>show .nil
  |cons i l ih=>
   have hi:=hb i Yy;show .cons ?_ (ih λj hj=>hb j (Yx _ hj));obtain⟨u,hu,r⟩:=h.get (Yw (show i<xs.length by omega));change RelV (xs.getD i V.non) (its.getD i abl);rw[Y5,Y5,Yw (show i<xs.length by omega),hu];show r
def MI(ks:List (List Int))(n:Nat)(p:Array Nat):Prop:=(∃g:Nat->Int,∀i j,i<n->j<n->ltL (ks.getD i []) (ks.getD j [])=decide (g i<g j))->∀i j,i<=j->j<n->ltL (ks.getD (p.getD j 0) []) (ks.getD (p.getD i 0) [])=false
def Ie(ks:List (List Int))(xs ws:List V):Prop:=∃p:Array Nat,qN xs.length p/\ws=(p.toList.map λi=>xs.getD i V.non)/\MI ks xs.length p
theorem Q7(h:n<2):MI ks n (afs (gp n)):=by
 rintro⟨g,hg⟩ i j hij hj;obtain rfl:i=j:=by omega
 have pg:=dU (p:=afs (gp n)) (aiw _) (by omega) i;rw[hg _ _ pg pg];show decide_eq_false (Int.lt_irrefl _)
theorem Sa{α:Type}{n:Nat}{b:Nat->Nat->Bool}{P:α->Prop}:∀t:afa α,Lv n P t->Lo n b P t
 | .ret a,h=>h
 | .ask i j k,h=>#[h.1,h.2.1,Sa (k (b i j)) (h.2.2 _)]
theorem Ot{α:Type}{n:Nat}{b c:Nat->Nat->Bool}(e:∀i j,i<n->j<n->b i j=c i j){P:α->Prop}:∀t:afa α,Lo n b P t->Lo n c P t
 | .ret a,h=>h
 | .ask i j k,h=>#[h.1,h.2.1,by rw[←e i j h.1 h.2.1];show Ot e (k (b i j)) h.2.2]
theorem ac5(hn:0<n):Lo n (λi j=>ltL (ks.getD i []) (ks.getD j [])) (λp=>qN n p/\MI ks n p) (ajo n):=by
 by_cases hg:∃g:Nat->Int,∀i j,i<n->j<n->ltL (ks.getD i []) (ks.getD j [])=decide (g i<g j)
 .obtain⟨g,hg⟩:=hg;show Ot (λi j hi hj=>(hg i j hi hj).symm) _ (Av (λp hp=>#[hp.1,λ_ i j hij hj=>?_]) _ (XU (ky:=g) hn));rw[hg _ _ (dU hp.1 hn _) (dU hp.1 hn _)];have:=hp.2 i j hij hj;show decide_eq_false (by omega)
 .show Sa _ (Sf (λp hp=>#[hp,λz=>absurd z hg]) _ (Wf hn))
def TpK(h:YO)(v:Yd)(k:List Int):Prop:=k≠[]/\∃a o xs n,v=.ref a/\h.get? a=Ya o/\o.cls=.type "tuple"/\o.data=.seq xs n/\xn xs.toList k
theorem TpK.tpI{v:Yd}{k:List Int}(x:TpK h v k):TpI h v:=by
 obtain⟨k0,a,o,xs,n,e1,e2,e3,e4,e5⟩:=x;cases k with
 |nil=>show absurd rfl k0
 |cons f ns=>show#[a,o,xs,n,f,ns,e1,e2,e3,e4,e5]
theorem Dw:∀{vs:List Yd} {ns:List Int},xn vs ns->vs.length=ns.length
 |_,_,.nil=>rfl
 |_,_,.cons _ _ r=>congrArg (·+ 1) (Dw r)
section
variable{prog:YU}
theorem WK{a b:Int}{t u:agl}{c:Bool}(h:Q (decide (a<b)) s):Yl (Yn prog w) A (oneLt' c (.int a t) (.int b u)) Q E s:=by
 cases c with
 |true=>show oneLt_int h
 |false=>show PySem.W.kat_one _ _ (alC h)
theorem Wy{b fin:Bool}:∀{xs ys:List Yd} {ns ms:List Int} (i:Nat),xn xs ns->xn ys ms->Q (ltF fin ns ms) s->PySem.W.KatLex prog w A b fin Q (xs.zip ys) i s:=by
 intro xs ys ns ms i w1
 induction w1 generalizing ys ms i with
 |nil=>show λ_ h=>alW h
 |cons x t r ih=>
  intro w2 h;cases w2 with
  |nil=>show alW h
  |cons y u q=>
   show PySem.W.kat_cons (alg ?_);show PySem.W.kat_go (λz=>PySem.W.kat_yes (ih (i:=i+ 1) q ?_)) λz=>PySem.W.kat_no (WK ?_)
   .have h:Q (if x=y then _ else _) s:=h;rw[if_pos (by simpa using z)]at h;show h
   .have h:Q (if x=y then _ else _) s:=h;rw[if_neg (by simpa using z)]at h;show h
theorem Wn{x y:Yd}{k l:List Int}{b:Bool}(hx:TpK s.heap x k)(hy:TpK s.heap y l)(h:Q (ltL k l) s):Yl (Yn prog w) A (keyLt' (anl b) x y) Q E s:=by
 obtain⟨_,a,o,xs,n,rfl,e2,e3,e4,e5⟩:=hx;obtain⟨_,a',o',xs',n',rfl,g2,g3,g4,g5⟩:=hy;show PySem.W.kat_lt e2 e4 g2 g4 (Wy 0 e5 g5 ?_);have l1:=Dw e5;have l2:=Dw g5;rw[mr]at l1 l2;rw[l1,l2];show h
end
theorem Ie.perm{ws:List V}(h:Ie ks xs ws):ws.Perm xs:=by
 obtain⟨p,hp,rfl,_⟩:=h;have:=hp.map λi=>xs.getD i V.non;have e:=xv xs V.non;rw[show(afs (gp xs.length)).toList=gp xs.length from rfl]at e;rw[e]at this;show this
section
theorem Q0{P:ajg->Yi->Prop}(F:aw X.prog X.w X.K X.mg X.base bo k f fd ps sp)(hr:cV k X.A.in1.in1)(hb:Binds X.K fd ps [])(IV:aM X pins σ H s)(fD:ya X pins H D)(hD:s.heap.get? D=Ya (seqObj "list" its.toArray n))(rv:Vals xs its)(h64:xs.length<64)(lk:xs.length=ks.length)(kn:∀k∈ks,k≠[])(KY:∀(i:Nat) x k H3 (Q':VK),xs[i]?=Ya x->ks[i]?=Ya k->aG H H3->(∀H4 t,aG H3 H4->c8 X.K H4 t (k.map V.int)->Q' (.ref t) H4)->sp [x] H3 Q' E0)(hR:∀ws H' s',Ie ks xs ws->aG H H'->H' D=Yb->aM X pins σ (upd H' D (.lst ws)) s'->P (.done (.ret .none)) s'):
  Yl (Yn X.prog X.w) X.A.in1.in1 (ksk_tree D (.ref f) false) P E s:=by
 have lv:=rv.length;unfold ksk_tree;show W8 (k:=λits e ks=>ksk_rest D (.ref f) false its e ks) hD (by omega) λh2 e1 k2 hD2=>?_;obtain⟨f0,f1,f2,f3,f4,f5⟩:=id fD;have I2:aM X pins σ H {s with heap:=h2}:=IV.turned (t':=s.toks) (it:=D) k2 f0 f1 f3 f4 f5;have hkD:h2.objs.size≠D:=agu (Yt hD2);have hk0:H h2.objs.size=none:=aM.fresh I2;have I3:aM X pins σ (upd H h2.objs.size (.lst [])) {s with heap:=h2.push (seqObj "list" #[] 0)}:=aM.lnew (s:={s with heap:=h2}) (its:=[]) (t':=s.toks) I2 .nil (Y1 _);have hD3:(h2.push (seqObj "list" #[] 0)).get? D=Ya (seqObj "list" #[] e1):=Yg _ hD2;generalize h2.push (seqObj "list" #[] 0)=h3 at I3 hD3⊢;generalize h2.objs.size=kS at I3 hkD hk0⊢;unfold ksk_rest;show Yf (akk ?_);rw[List.forIn_toArray];show Yf (ksk_fold (λi s'=>∃H' ts,aM X pins σ H' s'/\aG H H'/\H' D=Yb/\s'.heap.get? D=Ya (seqObj "list" #[] e1)/\H' kS=Ya (.lst ((ts:List Yc).map V.ref))/\ts.length=i/\∀(j:Nat) t,ts[j]?=Ya t->∃k,ks[j]?=Ya k/\c8 X.K H' t (k.map V.int)) its 0 _ #[_,[],I3,aE hk0,by rw[ak hkD.symm];show f0,hD3,aj,rfl,λj t h=>by simp at h] ?_ ?_)
 .rintro j x s' hx ⟨H',ts,I',sm,hD',gD,hK,lt,ht⟩;rw[akH]at lt;have hj:=(Yp.mp hx).1;have hxj:xs[j]?=Ya xs[j]:=Yw (by omega);obtain⟨u',hu',rx⟩:=rv.get hxj;rw[hx]at hu';cases hu';have hkj:ks[j]?=Ya ks[j]:=Yw (by omega);have fD':ya X pins H' D:=#[hD',f1,f2,f3,f4,f5];have IP:aM X (pins++AL [D] s'.heap) σ H' s':=I'.pinned (fp:=[D]) (λb hb=>by rw[Yo.mp hb];show fD') (λb hb=>by rw[Yo.mp hb];show#[_,gD,λv z=>nomatch z]);have key:=uH (X:=X.one.one) (vs:=[xs[j]]) (us:=[x]) (Q:=λz H4=>∃t,z=.ref t/\aG H' H4/\c8 X.K H4 t (ks[j].map V.int)) (E:=E0) (dvs:=[]) (ds:=[]) F hr hb .nil (λ_ _ _ _ _ _ _ q=>q.elim) IP.one.one (.cons rx .nil) (by
   rw[Y4];show KY j _ _ H' _ hxj hkj sm λH4 t s4 h4=>#[t,rfl,s4,h4])
  show Yf (agg (pk key (λu s2 q=>?_) λ_ _ q=>q.elim));obtain⟨z,H4,I4,rz,t2,rfl,s4,ht2⟩:=q;cases rz;have I4:=aM.back IP.ok (aM.back IP.one.ok I4);have pD:=I4.pin (D,seqObj "list" #[] e1) (YE _ (YE _ (js (by simp) gD)));have I5:=I4.unpinned;have hK4:=s4 _ _ hK;obtain⟨_,kt,nk,rk,lk',gk⟩:=I5.lstM hK4;rw[Yj]at lk';dsimp only;show Yf (aiP gk rfl ?_ (by rw[YA,adm];omega) (by rw[Array.size_push,YA,adm];omega));have I6:aM X pins σ (upd H4 kS (.lst ((ts++[t2]).map V.ref))) {s2 with heap:=s2.heap.update kS (abA (·.push (.ref t2)))}:=I5.lset (t':=s2.toks) (its':=kt++[.ref t2]) hK4 gk (by simp) (by rw[YD];show Tu rk rfl) (by rw[Yj,Yz,abS,adm];omega);have nt:∀t ks',c8 X.K H4 t ks'->c8 X.K (upd H4 kS (.lst ((ts++[t2]).map V.ref))) t ks':=λt ks' h=>by
   rcases h with(h|⟨z,h⟩)|h
   .show .inl (.inl (by rw[ak (λz=>by rw[z,hK4]at h;cases h)];show h))
   .show .inl (.inr #[z,by rw[ak (λz=>by rw[z,hK4]at h;cases h)];show h])
   .show .inr h
  show Yk #[rfl,_,ts++[t2],I6,λb o e=>?_,?_,?_,aj,by rw[Yz,lt];simp,λj' t hj'=>?_]
  .rw[ak (au e hk0)];show s4 _ _ (sm _ _ e)
  .rw[ak hkD.symm];show pD.2.1
  .show((GV s2.heap kS (abA (·.push (.ref t2)))).2 D hkD.symm).trans pD.1
  .by_cases w:j'<ts.length
   .rw[ai0 w]at hj';obtain⟨k',e1',e2'⟩:=ht j' t hj';show#[k',e1',nt _ _ (SmT.same s4 _ _ e2')]
   .have:j'=j:=by
     have:=(Yp.mp hj').1;rw[Yz,abS]at this;omega
    subst this;rw[aiK (by omega),lt,Nat.sub_self]at hj';cases hj';show#[_,hkj,nt _ _ ht2]
 rintro s' ⟨H',ts,I',sm,hD',gD,hK,lt,ht⟩;rw[akH]at lt;obtain⟨_,kt,nk,rk,lk',gk⟩:=I'.lstM hK;rw[Yj]at lk';show Yf (amP gk rfl ?_);have hKk:∀i,i<kt.length->TpK s'.heap (kt.getD i .none) (ks.getD i []):=λi hil=>by
  have hi:kt[i]?=Ya kt[i]:=Yw hil;have hti:ts[i]?=Ya ts[i]:=Yw (by omega);obtain⟨k',e1',e2'⟩:=ht i _ hti;obtain⟨u',hu',ru⟩:=rk.get (show(ts.map V.ref)[i]?=Ya (.ref ts[i]) by rw[YJ,hti];rfl);rw[hi]at hu';cases hu';rw[Y5,Y5,hi,e1'];change TpK s'.heap kt[i] k';rw[show kt[i]=Yv ts[i]from ru];obtain⟨ia,ra,pa,_⟩:=I'.tuple e2';obtain⟨o,ho,hc,n',hd⟩:=id pa;show#[kn k' (Y0 e1'),_,o,_,n',rfl,ho,hc,hd,mG ra]
 have hT:∀v∈kt,TpI s'.heap v:=λv hv=>by
  obtain⟨i,hi⟩:=jJ hv;have hil:=(Yp.mp hi).1;have:=hKk i hil;rw[Y5,hi]at this;show this.tpI
 have hkD':D≠kS:=hkD.symm;have fin:∀st:SortSt,failedOf st=Yb->(∃p,qN its.length p/\MI ks its.length p/\(arrOf st).map (·.2)=afs (p.toList.map λi=>its.getD i abl))->Yl (Yn X.prog X.w) X.A.in1.in1 (ksk_tail D false e1 (.ref kS) st) P E s':=by
  rintro st hf ⟨p,hp,od,eo⟩;obtain⟨wp,wv⟩:=U8 rv hp;have po:=abg hp;generalize eo2:(p.toList.map λi=>its.getD i abl)=out at eo wv po;generalize ew:(p.toList.map λi=>xs.getD i V.non)=ws at wp wv;have hOW:Ie ks xs ws:=#[p,by rw[lv];show hp,ew.symm,by rw[lv];show od];unfold ksk_tail
  try dsimp only
  rw[eo];show Yf (aiP gk rfl ?_ (by rw[YA,adm];omega) (Y1 _));have I6:aM X pins σ (upd H' kS (.lst [])) {s' with heap:=s'.heap.update kS (abA λ_=>(#[]:Array Yd))}:=I'.lset (t':=s'.toks) (its':=[]) (ys:=[]) hK gk (by simp) .nil (Y1 _);have gD6:(s'.heap.update kS (abA λ_=>(#[]:Array Yd))).get? D=Ya (seqObj "list" #[] e1):=((GV s'.heap kS (abA λ_=>(#[]:Array Yd))).2 D hkD').trans gD;generalize s'.heap.update kS (abA λ_=>(#[]:Array Yd))=h6 at I6 gD6⊢;show Yf (wpAny_letGo ?_);show NL (s:={s' with heap:=h6}) (out:=out.toArray) gD6 (by rw[YA,po.length_eq,adm];omega) λh7 c k7 g7=>?_;rw[hf]
  wp_walk
  show hR ws (upd H' kS (.lst [])) _ hOW (λb o e=>?_) (by rw[ak hkD'];show hD') ?_
  .rw[ak (au e hk0)];show sm _ _ e
  .show aM.adopt (s:={s' with heap:=h6}) (t':=s'.toks) I6 k7 #[by rw[ak hkD'];show hD',f1,f2,f3,f4,f5] #[by rw[wp.length_eq,adm];omega,out,c,wv,g7]
 unfold ksk_end
 try dsimp only
 simp only[ahr,if_false];by_cases h2:its.toArray.size<2
 .rw[if_pos h2,if_pos h2];show Yf (Yk ?_);rw[StateT.run_pure];show Yf (Yk ?_);show fin _ rfl #[afs (gp its.length),aiw _,Q7 (by simpa using h2),?_];rw[show((afs (gp its.length)).toList.map λi=>its.getD i abl)=its from xv its _];change(kt.toArray.zip its.toArray).map (·.2)=its.toArray;apply Array.toList_inj.mp;simp;show List.map_snd_zip (by omega)
 .rw[if_neg h2,if_neg h2];have h2':2<=its.length:=by simpa using h2
  obtain⟨fs,kt',ki,kl⟩:=JN hT;show Yf (PySem.W.kat_kind (T:=xi "int") kt' (by omega) (λv hv=>?_) (by decide) ?_)
  .obtain⟨n',t',rfl⟩:=ki v hv;show ane rfl
  have hkl:kt.length=its.length:=by omega
  show Yf (pk (PySem.W.kat_run (ks:=kt) (vs:=its) (Q:=λst' s''=>s''=s'/\failedOf st'=Yb/\∃p,(qN its.length p/\MI ks its.length p)/\arrOf st'=p.map (PySem.W.kas_item (kt.toArray.zip its.toArray)))
   (G:=λp s''=>s''=s'/\qN its.length p/\MI ks its.length p) hkl h2' (by omega) (λp st' s'' _ a2 a3 a4=>#[a4.1,a3,p,a4.2,a2]) ?_) ?_ λ_ _ e=>e)
  .show aah (n:=its.length) (b:=λi j=>ltL (ks.getD i []) (ks.getD j [])) (P:=λp=>qN its.length p/\MI ks its.length p) (λi j C hi hj hC=>?_) (λp hp=>#[rfl,hp]) _ (ac5 (by omega));unfold PySem.W.kas_ask;show Wn (hKk i (by omega)) (hKk j (by omega)) hC
  rintro⟨⟨⟩,st'⟩ s'' ⟨rfl,hf,p,hp,har⟩;show fin st' hf #[p,hp.1,hp.2,PySem.W.kat_snds hkl har]
theorem Ub{l:Yc}{Q:Yd->Yi->Prop}(F:aw X.prog X.w X.K X.mg X.base bo k f fd ps sp)(hr:cV k X.A.in1.in1)(hb:Binds X.K fd ps [])(IV:aM X pins σ H s)(hl:s.heap.IsList l its.toArray)(rv:Vals xs its)(h64:xs.length<64)(lk:xs.length=ks.length)(kn:∀k∈ks,k≠[])(KY:∀(i:Nat) x k H3 (Q':VK),xs[i]?=Ya x->ks[i]?=Ya k->aG H H3->(∀H4 t,aG H3 H4->c8 X.K H4 t (k.map V.int)->Q' (.ref t) H4)->sp [x] H3 Q' E0)(hR:∀D ws H' s',H D=Yb->Ie ks xs ws->aG H H'->H' D=Yb->aM X pins σ (upd H' D (.lst ws)) s'->Q (.ref D) s'):
  Yl (Yn X.prog X.w) X.A (call (.builtin "sorted") [.ref l] [(xl "key",.ref f)]) Q E s:=by
 have lv:=rv.length;show Q4 hl (by omega) (ksk_s1 _ _) (λ_=>ksk_l1 _ _) λh1 g1 a1=>?_;have hDn:H (s.heap.objs.size+ 1)=none:=IV.hok.fresh (aeO _);rw[ksk_t1];show Q0 F hr hb (IV.kept (t':=s.toks) g1) (IV.fpOk (aeO _) hDn) a1 rv h64 lk kn KY λws H' s' wp sm hD' I'=>#[rfl,hR _ ws H' s' hDn wp sm hD' I']
end
def SM(K:Ye)(sp:Sp)(x:V)(H2:Hp)(Q:VK):Prop:=∃(l:Yc) (xs:List V) (ks:List (List Int)),x=.ref l/\bZ K H2 l xs/\xs.length<64/\xs.length=ks.length/\(∀k∈ks,k≠[])/\
 (∀(i:Nat) (x:V) (k:List Int) (H3:Hp) (Q':VK),xs[i]?=Ya x->ks[i]?=Ya k->aG H2 H3->(∀H4 t,aG H3 H4->c8 K H4 t (k.map V.int)->Q' (.ref t) H4)->sp [x] H3 Q' E0)/\
 ∀(D:Yc) (ws:List V) (H':Hp),H2 D=Yb->ws.Perm xs->Ie ks xs ws->aG H2 H'->H' D=Ya (.lst ws)->Q (.ref D) H'
def U6(K:Ye)(sp:Sp)(te:TE):TE:=λσ H Q=>te σ H λx H1=>SM K sp x H1 Q
section
theorem LZ{e:YY}{p p2 k1:adq}{fx:Yh}(hK:X.K=K)(ha:PA X [e] (Fs te KZ))(hg:Gl X "sorted")(hm:X.mg "sorted"=Yb)(G:aw X.prog X.w X.K X.mg X.base bo k f fd ps sp)(hmk:X.mg fx=Ya (.ref f))(hbk:Binds X.K fd ps [])(hgk:Gl X fx)(hr:cV (k+ 1) X.A)(hdb:autoParam ((fx==("__debug__":Yh))=false) aq1)(h1:autoParam (tq pos (YC [e] X.env)=(false,Y3 e X.env)::tq pos (YC [] X.env)) aq0)(h2:autoParam ((tq pos (YC [e] X.env)).any (·.1)=false) aq0):
  PE X (.Call (.Name "sorted" p) [e] [#[Ya "key",.Name fx p2,k1]] pos) (U6 K sp te):=by
 subst hK;intro pins s σ H Q I h;show acb (xC I hg hm agA ?_);show aid ?_ h1 h2;show cR (ha pos pins s σ H (λvs H1=>match vs with|[x]=>SM X.K sp x H1 Q|_=>False) I h) λus s1 zz=>?_;obtain⟨vs,H1,I1,r1,q1⟩:=zz;obtain⟨x,rfl⟩:∃x,vs=[x]:=by
  match vs,q1 with
  |[x],_=>show#[x,rfl]
 obtain⟨u,rfl,rx⟩:=ij r1;obtain⟨l,xs,ks,ex,hl,h64,lk,kn,KY,q⟩:=q1;subst ex;cases rx;show ahZ (lq I1 hgk hmk ?_ hdb);show ako ?_;obtain⟨its,rv,pl,hz⟩:=I1.list hl;change Yl _ _ (call (.builtin "sorted") [Yv l] [(xl "key",.ref f)]) _ _ _;show Ub (H:=H1) G (cV.two hr) hbk I1 pl.isList rv h64 lk kn KY λD ws H' s' hD wp sm hD' I'=>?_;show#[.ref D,_,I',rfl,q D ws _ hD wp.perm wp (sm.trans (aE hD')) aj]
end
theorem WO{Q:VK}(h:te σ H λx H1=>SM K sp x H1 Q):U6 K sp te σ H Q:=h
noncomputable def unl(cs:List Yc)(H:Hp):Hp:=λb=>if b∈cs then Yb else H b
theorem Vu{b:Yc}(h:b∈cs):unl cs H b=none:=if_pos h
theorem oq{b:Yc}(h:b∉cs):unl cs H b=H b:=if_neg h
theorem S0{b:Yc}(h:unl cs H b=Ya o):b∉cs/\H b=Ya o:=by
 by_cases z:b∈cs
 .rw[Vu z]at h;cases h
 .rw[oq z]at h;show#[z,h]
noncomputable abbrev aci(c:Yc)(v:V):HO:=.ext λh=>∃u,RelV v u/\h.IsCell c (Ya u)
def afq(H:Hp)(c:Yc)(v:V):Prop:=∃o,H c=Ya (.frz o (aci c v))
noncomputable abbrev FnO(f:Yc)(fo:Y8):HO:=.ext λh=>h.get? f=Ya fo
noncomputable abbrev CdO(c:Yc)(qual:Yh):HO:=.ext λh=>h.CodeRec (.ref c) qual
section
theorem Xo(hc:∀c∈cs,∃o φ,H c=Ya (.frz o (.ext φ)))(ok:pG P w H h):pG P w (unl cs H) h:=λa o e=>by
 obtain⟨_,e⟩:=S0 e;show(ok a o e).stay (λ_ _ _ q=>q) (λb q=>?_) λb xs q=>?_
 .rw[oq λz=>by obtain⟨_,_,z⟩:=hc b z;rw[q]at z;cases z];show q
 .rw[oq λz=>by obtain⟨_,_,z⟩:=hc b z;rw[q]at z;cases z];show q
end
section
def CI(H:Hp)(cl:List (Yh×Yc))(vals:List V):Prop:=cl.length=vals.length/\∀(i:Nat) x c v,cl[i]?=Ya (x,c)->vals[i]?=Ya v->afq H c v
theorem CI.frz(l:CI H cl vals):∀c∈cl.map (·.2),∃o φ,H c=Ya (.frz o (.ext φ)):=λc hc=>by
 obtain⟨p,hp,rfl⟩:=YX.mp hc;obtain⟨i,hi⟩:=jJ hp;have il:=(Yp.mp hi).1;have iv:i<vals.length:=by have:=l.1;omega
 obtain⟨o,e⟩:=l.2 i p.1 p.2 vals[i] hi (Yw iv);show#[o,_,e]
end
def T8(cs:List Yc)(Q:VK):VK:=λv H3=>Q v (unl cs H3)
structure Lnd(H:Hp)(cl:List (Yh×Yc))(vals:List V)(H2:Hp):Prop where
 out:∀b,b∉cl.map (·.2)->H2 b=H b
 non:∀c∈cl.map (·.2),H c=Yb
 all:CI H2 cl vals
structure abR(X:Cx)(ix:List Nat)(cl:List (Yh×Yc)):Prop where
 len:ix.length=cl.length
 nd:(cl.map (·.2)).Nodup
 at_:∀(j:Nat) i x c,ix[j]?=Ya i->cl[j]?=Ya (x,c)->X.N[i]?=Ya x/\X.env.scope.names.lookup x=Ya .cell/\X.env.cells.lookup x=Ya c/\X.fn x=true
section
theorem WN{Q:VK}(F:aw X.prog X.w X.K X.mg X.base bo k f fd ps sp)(hr:cV k X.A)(hb:Binds X.K fd ps [])(hx:oZ bo X E0)(O:abR X ix cl)(I:aM X pins σ H s)(r:Vals vs us)(lv:cl.length=vals.length)(hv:∀(j:Nat) i v,ix[j]?=Ya i->vals[j]?=Ya v->σ[i]?=Ya (Ya v))(h:∀H2,Lnd H cl vals H2->sp vs H2 (T8 (cl.map (·.2)) Q) E0):
  Yl (Yn X.prog X.w) X.A (call (.ref f) us) (EP X pins σ Q) X.xe s:=by
 have cell:∀(j:Nat) x c v,cl[j]?=Ya (x,c)->vals[j]?=Ya v->(∃u,RelV v u/\s.heap.IsCell c (Ya u))/\X.env.cells.lookup x=Ya c/\X.fn x=true:=λj x c v e1 e2=>by
  have jl:=(Yp.mp e1).1;have jx:j<ix.length:=by have:=O.len;omega
  have hj:ix[j]?=Ya ix[j]:=Yw jx;obtain⟨a1,a2,a3,a4⟩:=O.at_ j _ x c hj e1;obtain⟨m,hn,hl⟩:=I.loc;obtain⟨u,ru,lo⟩:=hl _ x v a1 (hv j _ v hj e2) (.inr (.inl a2));rcases lo with⟨z,_⟩|⟨_,c2,e3,ic⟩
  .have z:X.env.scope.names.lookup x=Ya .local:=z;rw[a2]at z;cases z
  .rw[a3]at e3;cases e3;show#[#[u,ru,ic],a3,a4]
 have cm:∀c∈cl.map (·.2),∃(j:Nat) (x:Yh) (v:V),cl[j]?=Ya (x,c)/\vals[j]?=Ya v:=λc hc=>by
  obtain⟨p,hp,rfl⟩:=YX.mp hc;obtain⟨j,hj⟩:=jJ hp;have jl:=(Yp.mp hj).1;show#[j,p.1,vals[j]'(by omega),hj,Yw _]
 have cn:∀c∈cl.map (·.2),H c=none:=λc hc=>by
  obtain⟨j,x,v,e1,e2⟩:=cm c hc;show I.freeC x c (cell j x c v e1 e2).2.1
 have cab:∀c∈cl.map (·.2),X.s₀.heap.objs.size<=c:=λc hc=>by
  obtain⟨j,x,v,e1,e2⟩:=cm c hc;show I.ok.cab x c (cell j x c v e1 e2).2.2 (cell j x c v e1 e2).2.1
 have cns:∀c∈cl.map (·.2),c∉mX X.stack:=λc hc hb=>by
  rcases Yq.mp (I.stkSub c hb)with z|z
  .obtain⟨j,x,v,e1,e2⟩:=cm c hc;show I.cne x c (cell j x c v e1 e2).2.1 z
  .obtain⟨_,o,ho,_⟩:=I.ok.funs.mem z;show absurd (YT (Yt ho) (cab c hc)) (Y7 _)
 have ex:∃H2:Hp,(∀b,b∉cl.map (·.2)->H2 b=H b)/\∀(j:Nat) x c v,cl[j]?=Ya (x,c)->vals[j]?=Ya v->∃o,s.heap.get? c=Ya o/\H2 c=Ya (.frz o (aci c v)):=by
  show#[λb=>match(cl.zip vals).find? (λp=>decide (p.1.2=b))with|some p=>(s.heap.get? b).map λo=>.frz o (aci b p.2)|none=>H b,λb hb=>?_,λj x c v e1 e2=>?_]
  .have:(cl.zip vals).find? (λp=>decide (p.1.2=b))=none:=agO.mpr λp hp z=>hb (YX.mpr #[p.1,(agc (show(p.1,p.2)∈cl.zip vals from hp)).1,of_decide_eq_true z]);dsimp only;rw[this]
  .obtain⟨⟨u,ru,o,eo,d⟩,_⟩:=cell j x c v e1 e2;show#[o,eo,?_];have mz:((x,c),v)∈cl.zip vals:=Y0 (i:=j) (agk.mpr #[e1,e2]);cases hf:(cl.zip vals).find? (λp=>decide (p.1.2=c))with
   |none=>show absurd (decide_eq_true rfl) (agO.mp hf _ mz)
   |some p=>
    have pc:p.1.2=c:=by have:=alX hf;simpa using this
    obtain⟨j2,hj2⟩:=jJ (ai4 hf);obtain⟨f1,f2⟩:=agk.mp hj2;have jl:=(Yp.mp e1).1;have:j=j2:=(List.getElem?_inj (by rw[Yj];show jl) O.nd).mp (by rw[YJ,YJ,e1,f1,←pc];rfl);subst this;rw[e2]at f2;have pv:p.2=v:=(YM f2).symm;dsimp only;rw[hf];dsimp only;rw[eo,pv];rfl
 obtain⟨H2,out,inn⟩:=ex;have ln:CI H2 cl vals:=#[lv,λj x c v e1 e2=>let ⟨o,_,e⟩:=inn j x c v e1 e2;#[o,e]];have ld:Lnd H cl vals H2:=#[out,cn,ln];have es:∀b u,H b=Ya u->b∉cl.map (·.2)/\H2 b=Ya u:=λb u e=>by
  have nb:b∉cl.map (·.2):=λz=>by rw[cn b z]at e;cases e
  show#[nb,by rw[out b nb];show e]
 have ok2:pG X.prog X.w H2 s.heap:=λa o e=>by
  by_cases z:a∈cl.map (·.2)
  .obtain⟨j,x,v,e1,e2⟩:=cm a z;obtain⟨ob,eo,e3⟩:=inn j x a v e1 e2;rw[e3]at e;cases e;show#[eo,(cell j x a v e1 e2).1,#[ob,eo],?_];rintro h1 h2 ⟨u,ru,o,eo,d⟩ k;show#[u,ru,o,k _ eo,d]
  .rw[out a z]at e;show(I.hok a o e).stay (λ_ _ _ q=>q) (λb q=>(es b _ q).2) λb xs q=>(es b _ q).2
 have e0:Me X.prog X.w X.K X.mg X.base X.A X.stack s H2:=#[I.ok.frames,I.ok.mod,λb o e=>#[(I.bs b o e).1,by
   rw[out b λz=>absurd (YT (Yt e) (oh I.ok.bsz (cab b z))) (Y7 _)];show(I.bs b o e).2],oh I.ok.bsz I.sz,I.stack,λb hb=>by rw[out b λz=>cns b z hb];show I.stkFree b hb,ok2,I.bare]
 have hs:=h H2 ld;have hl:us.length=ps.length:=by rw[←r.length];show F.len _ _ _ _ hs
 show afn (codeAny_mono (F.run X.A X.stack s H2 #[us,[]] us vs _ E0 hr e0 (by have:=hb s us I.kIn (by rw[Y4];show hl);rw[Y4]at this;show this) r hs) λr' s' hq=>?_);cases r' with
 |error e=>show hx pins σ H s e s' I (by show hq.elim)
 |ok fl=>
  cases fl with
  |next=>show ir hq
  |brk=>show ir hq
  |cont=>show ir hq
  |ret u=>
   obtain⟨v,H3,os,bare,un,hok3,rv,q⟩:=hq;have fz:∀c∈cl.map (·.2),∃o φ,s.heap.get? c=Ya o/\H3 c=Ya (.frz o (.ext φ)):=λc hc=>by
    obtain⟨j,x,v,e1,e2⟩:=cm c hc;obtain⟨o,eo,e3⟩:=inn j x c v e1 e2;show#[o,_,eo,un.frzs c o _ e3]
   have fz':∀c∈cl.map (·.2),∃o φ,H3 c=Ya (.frz o (.ext φ)):=λc hc=>let ⟨o,φ,_,e⟩:=fz c hc;#[o,φ,e];have un2:Un (mX X.stack) [] H (unl (cl.map (·.2)) H3) s.heap s'.heap:=by
    show#[λb o e n hb hx=>?_,λb o e n hb hx=>?_,λb o e n hx=>?_,un.there,λb xs e=>?_,λb o u e=>?_,λb qs e=>?_]
    .by_cases z:b∈cl.map (·.2)
     .obtain⟨o',φ,eo,e3⟩:=fz b z;rw[e]at eo;cases eo;show(show s'.heap.get? b=Ya o/\_ from hok3 b _ e3).1
     .show un.keep b o e (by rw[out b z];show n) hb hx
    .show un.slot b o e (by rw[out b λz=>cns b z hb];show n) hb hx
    .by_cases z:b∈cl.map (·.2)
     .show Vu z
     .rw[oq z];show un.free b o e (by rw[out b z];show n) hx
    .obtain⟨nb,e2⟩:=es b _ e;rw[oq nb];show un.tups b xs e2
    .obtain⟨nb,e2⟩:=es b _ e;rw[oq nb];show un.frzs b o u e2
    .obtain⟨nb,e2⟩:=es b _ e;rw[oq nb];show un.tbls b qs e2
   obtain⟨hh,g,d,t,os'⟩:=s';obtain rfl:os'=s.os:=os;show#[v,_,I.call (h':=hh) (g':=g) (d':=d) (t':=t) (ch:=[]) un2 (Xo fz' hok3) bare (λb z=>absurd z (by simp)),rv,q]
end
noncomputable def ae5(s:YI)(j:Nat):YI:=(du s).getD j (.Pass #[0,0,0,0])
section
theorem T6.ok{st:YI}{c:Yc}(F:T6 K x qual st f fd c)(S:aq N ps (ah st))(len:∀vs H Q E,sp vs H Q E->vs.length=ps.length)(hbody:∀(A:sq) (outer:List af7) (s:Yi) (H:Hp) (vs:List V) (Q:VK) (E:XK),cV k (A.deeper (agw qual (ah st) s.heap.objs.size f (.ref c)))->sp vs H Q E->
   ∃t,IK (iX bo P w K mg base N qual (ah st) f (.ref c) A outer s H E).nox (du st) t/\t {nx:=λ_ H'=>Q .non H',rt:=Q} (start N vs) H):aw P w K mg base bo (k+ 1) f fd ps sp:=by
 obtain⟨oc,od,kV,doc,pm,an,ct,osl,rfl,lk,hcd⟩:=F.ex;show O2 lk hcd S len λA outer s H vs Q E hr hsp=>?_;obtain⟨t,h,q⟩:=hbody A outer s H vs Q E hr hsp;show#[t,h.nox,q]
end
theorem Lnd.same{H2:Hp}(l:Lnd H cl vals H2):aG H H2:=λb o e=>by
 rw[l.out b λz=>by rw[l.non b z]at e;cases e];show e
def aaU(Pt:Yc)(pos:adq)(qual:Yh)(H:Hp):Prop:=H Pt=Ya (.tbl #[])∨∃c',H Pt=Ya (.tbl (afs [rawInt pos.line,rawInt pos.col,.ref c']))/\H c'=Ya (CdO c' qual)
section
variable{me hd ba ye vo re ag:V}
theorem JO:(chf me hd ba ye vo re ag).lookup ("propose":Yh)=none:=by kernel_rfl
end
def mtL(ms:List (Yc×Sp))(m:Yh)(ix:List Nat)(cl:List (Yh×Yc))(t:TA)(σ:St)(x:V)(H:Hp)(Q:VK):Prop:=
 ∃cs∈ms,∃a dx fs,x=.ref a/\H a=Ya (.ins cs.1 dx fs)/\fs.lookup m=Yb/\t σ H λvs H2=>∃vals:List V,cl.length=vals.length/\(∀(j:Nat) i v,ix[j]?=Ya i->vals[j]?=Ya v->σ[i]?=Ya (Ya v))/\
  ∀H3,Lnd H2 cl vals H3->cs.2 (x::vs) H3 (T8 (cl.map (·.2)) Q) E0
def Vh(ms:List (Yc×Sp))(m:Yh)(ix:List Nat)(cl:List (Yh×Yc))(ta:TE)(t:TA):TE:=λσ H Q=>ta σ H λx H1=>mtL ms m ix cl t σ x H1 Q
section
variable{m:Yh}{apos:adq}{e o:YY}
theorem Sx{pl:ag1 Bool}(M:cC X.prog X.w X.K X.mg X.base k m ms)(he:PE X o ta)(hr:cV k X.A)(O:abR X ix cl)(ha:PA X (e::es) t)(hst:autoParam (YC (e::es) X.env=(false,Y3 e X.env)::YC es X.env) aq0)(hpl:autoParam ((tq pos (YC es X.env)).any (·.1)=false) aq0)(ht:autoParam (Y3 (.Call (.Attribute o m apos) (e::es) [] pos) X.env=(do
   let ov←Y3 o X.env
   agX apos.atName
   let (f,first)←afR [ov] (agm ov m pl)
   ag7 pos f first (tq pos (YC (e::es) X.env)) (adj pos (BD [] X.env)))) aq0):
  PE X (.Call (.Attribute o m apos) (e::es) [] pos) (Vh ms m ix cl ta t):=by
 intro pins s σ H Q I h;show KW (pl:=pl) (cR (he pins s σ H _ I h) λu s1 zz=>?_) ht;obtain⟨x,H1,I1,rx,cs,hcs,a,dx,fs,ex,ea,l,q⟩:=zz;subst ex;obtain rfl:u=Yv a:=rx;obtain⟨f,fd,ps,c,hm,F,hb⟩:=M cs hcs;show gX I1 ea c hm l ?_;show acD (first:=[.ref a]) (h₀:=X.base) I.ok.mod.kin hm.kp (cR (ha pos pins s1 σ H1 _ I1 q) λus s2 ⟨vs,H2,I2,r,vals,lv,hv,q2⟩=>#[I2.kIn,?_]) hst hpl;show WN (us:=.ref a::us) (vs:=.ref a::vs) F hr hb rJ O I2 (.cons rfl r) lv hv q2
end
section
variable{Q:VK}
theorem XQ{m:Yh}(h:ta σ H λx H1=>mtL ms m ix cl t σ x H1 Q):Vh ms m ix cl ta t σ H Q:=h
theorem aeM{m:Yh}{dx:Yc}{fs:List (Yh×V)}(e:H a=Ya (.ins C dx fs))(l:fs.lookup m=Yb)(h:t σ H λvs H2=>∃vals:List V,cl.length=vals.length/\(∀(j:Nat) i v,ix[j]?=Ya i->vals[j]?=Ya v->σ[i]?=Ya (Ya v))/\
  ∀H3,Lnd H2 cl vals H3->sp (.ref a::vs) H3 (T8 (cl.map (·.2)) Q) E0):mtL ((C,sp)::ms) m ix cl t σ (.ref a) H Q:=#[_,Yy,a,dx,fs,rfl,e,l,h]
end
def uY{α:Type}:ag1 α->Prop
 | .rule _ k=>uY (k ())
 | .at _ k=>uY (k ())
 | .load _ _ k=>∀o,uY (k o)
 | .update _ _ f k=>(∀o,(f o).dict=o.dict/\(f o).isFreed=o.isFreed)/\uY (k ())
 | .loadIfAlive _ k=>∀o,uY (k o)
 | .point _ k=>uY (k ())
 | .alloc _ k=>∀a,uY (k a)
 | .fresh k=>∀a,uY (k a)
 | .ask k=>∀a,uY (k a)
 | .choose _ _ k=>∀a,uY (k a)
 | .os _ _ k=>∀a,uY (k a)
 | .handled _ k=>∀a,uY (k a)
 | .genState _ k=>∀a,uY (k a)
 | .newGen _ k=>∀a,uY (k a)
 | .stack k=>∀a,uY (k a)
 | .thread k=>∀a,uY (k a)
 | .call ..=>False
 | .resume ..=>False
 |_=>True
def Nc(e:Yc)(od:Option Yc)(h:YO):Prop:=∃o,h.get? e=Ya o/\o.dict=od
theorem Nc.push(x:Nc e od h)(o:Y8):Nc e od (h.push o):=by
 obtain⟨u,g,d⟩:=x;show#[u,Yg o g,d]
theorem Nc.upd(x:Nc e od h){f:Y8->Y8}(hf:∀o,(f o).dict=o.dict/\(f o).isFreed=o.isFreed):Nc e od (h.update a f):=by
 obtain⟨u,g,d⟩:=x;by_cases z:a=e
 .subst z;show#[f u,xt f g ((hf u).2.trans (Heap.get?_some_iff.mp g).2),(hf u).1.trans d]
 .show#[u,(gm h f z).trans g,d]
theorem ae1{α:Type}{Γ:PySem.Ctx}{Q:α->adq->Yi->Prop}{E:Yd->adq->Yi->Prop}:∀(t:ag1 α) (p:adq) (s:Yi),uY t->Nc e od s.heap->Sem.wp M Γ t (λa p s'=>Nc e od s'.heap->Q a p s') (λv p s'=>Nc e od s'.heap->E v p s') p s->Sem.wp M Γ t Q E p s:=by
 intro t
 induction t with
 |pure a=>intro p s _ d h;show h d
 |raise v=>intro p s _ d h;show h d
 |unsupported _=>intro p s _ _ h;show h
 |finish _=>intro p s _ _ h;show h
 |register _ _ _=>intro p s _ _ h;show h
 |yield _ _ _ _ _=>intro p s _ _ h;show h
 |fork _ _ _=>intro p s _ _ h;show h
 |await _ _ _ _ _ _=>intro p s _ _ h;show h
 |call _ _ _ _ _ _=>intro p s k _ _;show k.elim
 |resume _ _ _ _ _=>intro p s k _ _;show k.elim
 |rule _ k ih=>intro p s c d h;show ih () p s c d h
 |«at» q k ih=>intro p s c d h;show ih () q s c d h
 |point _ k ih=>intro p s c d h;show ih () p s c d h
 |load a _ k ih=>
  intro p s c d h;obtain⟨o,g,h⟩:=h;show#[o,g,ih o p s (c o) d h]
 |update a _ f k ih=>
  intro p s c d h;show#[h.1,ih () p _ c.2 (d.upd c.1) h.2]
 |loadIfAlive a k ih=>intro p s c d h;show ih _ p s (c _) d h
 |alloc o k ih=>intro p s c d h;show ih _ p _ (c _) (d.push o) h
 |fresh k ih=>intro p s c d h;show ih _ p _ (c _) d h
 |ask k ih=>intro p s c d h;show ih _ p s (c _) d h
 |choose _ _ k ih=>intro p s c d h;show#[h.1,ih _ p _ (c _) d h.2]
 |os _ _ k ih=>intro p s c d h;show ih _ p _ (c _) d h
 |handled _ k ih=>intro p s c d h;show ih _ p s (c _) d h
 |genState g k ih=>
  intro p s c d h;obtain⟨o,g,h⟩:=h;show#[o,g,ih _ p s (c _) d h]
 |newGen _ k ih=>intro p s c d h;show ih _ p _ (c _) d h
 |stack k ih=>intro p s c d h;show ih _ p s (c _) d h
 |thread k ih=>intro p s c d h;show ih _ p s (c _) d h
theorem qr{α:Type}{t:ag1 α}{Q:α->Yi->Prop}(k:uY t)(d:Nc e od s.heap)(h:Yl M A t (λa s'=>Nc e od s'.heap->Q a s') (λv s'=>Nc e od s'.heap->E v s') s):Yl M A t Q E s:=
 fun Γ p hΓ=>ae1 t p s k d (h Γ p hΓ)
theorem bW{α β:Type}{m:ag1 α}{f:α->ag1 β}(h:uY m)(g:∀a,uY (f a)):uY (m >>= f):=by
 change uY (m.bind f)
 induction m with
 |pure a=>show g a
 |raise v=>trivial
 |unsupported _=>trivial
 |finish _=>trivial
 |register _ _ _=>trivial
 |yield _ _ _ _ _=>trivial
 |fork _ _ _=>trivial
 |await _ _ _ _ _ _=>trivial
 |call _ _ _ _ _ _=>show h.elim
 |resume _ _ _ _ _=>show h.elim
 |rule _ k ih=>show ih () h
 |«at» q k ih=>show ih () h
 |point _ k ih=>show ih () h
 |update a _ f' k ih=>show#[h.1,ih () h.2]
 |load a _ k ih=>show λo=>ih o (h o)
 |loadIfAlive a k ih=>show λo=>ih o (h o)
 |alloc o k ih=>show λo=>ih o (h o)
 |fresh k ih=>show λo=>ih o (h o)
 |ask k ih=>show λo=>ih o (h o)
 |choose _ _ k ih=>show λo=>ih o (h o)
 |os _ _ k ih=>show λo=>ih o (h o)
 |handled _ k ih=>show λo=>ih o (h o)
 |genState g' k ih=>show λo=>ih o (h o)
 |newGen _ k ih=>show λo=>ih o (h o)
 |stack k ih=>show λo=>ih o (h o)
 |thread k ih=>show λo=>ih o (h o)
theorem Iu(a:Yc):uY (load a):=λ_=>trivial
theorem Kn(v:Yd):uY (fieldsOf v):=by
 unfold fieldsOf;split
 .show bW (Iu _) λo=>?_;split<;>trivial
 .trivial
theorem yW(v:Yd)(i:Nat):uY (field v i):=by
 unfold field;show bW (Kn v) λvs=>?_;split<;>trivial
theorem nN(v:Yd)(i:Nat)(x:Yd):uY (aiv v i x):=by
 unfold aiv;split
 .unfold updateField;show bW (Iu _) λo=>?_;split
  .split
   .show#[λo=>?_,trivial];unfold ahc;obtain⟨c,d,dt,sl⟩:=o;cases dt<;>show#[rfl,rfl]
   .trivial
  .trivial
 .trivial
theorem Bb(a b c d e:Yd)(l:List Yd):uY (EntryCells.newEntry a b c d e l):=by
 unfold EntryCells.newEntry newFields;generalize ([a,b,c,d,e]++(if l.isEmpty=true then al3 6 abl else l))=L;unfold newObj;have k:∀dt:Data,uY (newObjAsIs (xi "traceback") dt):=λdt=>by
  unfold newObjAsIs;show bW (λ_=>trivial) λ_=>trivial
 dsimp only;split
 .show bW trivial λ_=>k _
 .show k _
theorem L5:∀l:List af7,uY (readyFrames l)
 |[]=>trivial
 |env::outer=>by
  unfold readyFrames;split
  .show bW (Iu _) λo=>?_;split
   .trivial
   .show bW ?_ λ_=>bW ?_ λ_=>bW #[λo=>#[rfl,by obtain⟨c,d,dt,sl⟩:=o;cases dt<;>rfl],trivial] λ_=>L5 outer
    .unfold behindIsImport;split
     .trivial
     .split
      .trivial
      .show bW (yW _ _) λ_=>trivial
    .unfold keptBack;split
     .split
      .trivial
      .show bW ?_ λ_=>trivial;unfold underTheClaimsCaller;show bW (λ_=>trivial) λ_=>trivial
     .trivial
  .trivial
theorem DH(env:af7):uY (amy env):=by
 unfold amy;show bW ?_ λl=>bW ?_ λo=>?_
 .unfold frameEnvs;show bW (λ_=>trivial) λ_=>trivial
 .unfold frameObject;split
  .trivial
  .show bW (L5 _) λ_=>trivial
 .split<;>trivial
theorem JW(f:Yc)(b:Bool):uY (amQ f b):=by
 unfold amQ;show bW (λ_=>trivial) λacts=>?_;split<;>trivial
theorem OY(e:Yd)(env:af7):uY (noteFrame e env):=by
 unfold noteFrame;split
 .show bW (yW _ _) λhd=>?_;dsimp only;split
  .show bW (yW _ _) λx=>?_;split
   .trivial
   .show bW (nN _ _ _) λ_=>bW (DH _) λ_=>bW (JW _ _) λ_=>bW (Bb _ _ _ _ _ _) λ_=>nN _ _ _
  .show bW (DH _) λ_=>bW (JW _ _) λ_=>bW (Bb _ _ _ _ _ _) λ_=>nN _ _ _
 .trivial
theorem Ax(e:Yd)(f:Option Yc):uY (setFlight e f):=by
 unfold setFlight;show bW (yW _ _) λtb=>?_;split
 .show nN _ _ _
 .trivial
theorem xA(env:af7)(e:Yd):uY (am7 env e):=by
 unfold am7;show bW (OY e env) λ_=>Ax e Yb
def isD(ea C:Yc)(od:Option Yc):YO->Prop:=λh=>∃o,h.get? ea=Ya o/\o.cls=.ref C/\o.dict=od/\∃vs,o.data=.fields vs
noncomputable abbrev xD(ea C:Yc)(od:Option Yc):HO:=.ext (isD ea C od)
def lH(P:YU)(w:YZ):CXT:=λouter H s E e s'=>∃(ea C:Yc) (a0:Yd) (B:YO) (H':Hp) (od:Option Yc),e=.ref ea/\s'.os=s.os/\ahd s'.gens/\Un (mX outer) [] H H' s.heap s'.heap/\pG P w H' s'.heap/\
 akL B outer ea (.ref C) a0 s'.heap/\(∀b o,s'.heap.get? b=Ya o->b∉mX outer->((∃o0,s.heap.get? b=Ya o0)∨∃u,H' b=Ya u)->B.get? b=Ya o)/\H' ea=Yb/\Nc ea od s'.heap/\E (.ref ea) (Ya C) (upd H' ea (xD ea C od))
theorem cO.at(x:cO P w H h a o):∃ob,h.get? a=Ya ob:=by
 cases o with
 |lst xs=>obtain⟨_,_,_,_,e⟩:=x;show#[_,e]
 |tup xs=>obtain⟨_,_,_,ob,e,_⟩:=x;show#[_,e]
 |dK kvs=>obtain⟨_,_,_,_,o,_,_,e,_⟩:=x;show#[_,e]
 |dT kvs=>obtain⟨_,_,_,_,o,_,_,e,_⟩:=x;show#[_,e]
 |set S n=>obtain⟨o,_,_,_,e,_⟩:=x;show#[_,e]
 |ins C dx fs=>obtain⟨_,_,_,e,_⟩:=x;show#[_,e]
 |own _=>show x
 |xd fs=>obtain⟨_,⟨o,_,_,e,_⟩,_⟩:=x;show#[_,e]
 |rng lo hi=>obtain⟨_,_,_,e⟩:=x;show#[_,e]
 |frz o u=>show#[_,x.1]
 |tbl ps=>show#[_,x]
 |met f x'=>show#[_,x]
 |ext φ=>show x.2.1
theorem EN{H1:Hp}{s1:Yi}(I:aM X pins σ H1 s1)(hex:X.ex=[])(hP:X.prog=P)(hw:X.w=w)(un:Un (mX X.stack) [] H1 H' s1.heap s'.heap)(hok:pG P w H' s'.heap)(hB:∀b o,s'.heap.get? b=Ya o->b∉mX X.stack->((∃o0,X.s₀.heap.get? b=Ya o0)∨∃u,H' b=Ya u)->B.get? b=Ya o)(st:B.StaysIn h')(up:s'.heap.UpToSlots h')(hstk:X.stack=X.env::X.outer):
  Un (mX X.outer) [] X.H₀ H' X.s₀.heap h'/\pG P w H' h'/\∀b o,h'.get? b=Ya o->b∉mX X.outer->((∃o0,X.s₀.heap.get? b=Ya o0)∨∃u,H' b=Ya u)->B.get? b=Ya o:=by
 have base:=I.base;rw[hex]at base;have frN:∀b,b∈mX X.stack->H' b=none:=λb hb=>by
  obtain⟨_,o,ho,_⟩:=I.stack.mem hb;show un.free b o ho (I.stkFree b hb) (by simp)
 have frO:∀b,b∈mX X.outer->b∈mX X.stack:=λb hb=>by
  rw[hstk];unfold mX;rw[ahf];cases X.env.frame with
  |none=>show hb
  |some _=>show Yx _ hb
 have lo:∀b o,X.s₀.heap.get? b=Ya o->b∉mX X.outer->b∉mX X.stack:=λb o e n z=>by
  rcases Yq.mp (I.stkSub b z)with q|q
  .rw[q]at e;show absurd (Yt e) (alS.mpr I.ok.above)
  .show n q
 have slot':∀b o,s'.heap.get? b=Ya o->b∈mX X.stack->∃sl,h'.get? b=Ya {o with slots:=sl}:=λb o e hb=>by
  obtain⟨_,o1,ho1,nf⟩:=I.stack.mem hb;obtain⟨sl,e1⟩:=un.slot b o1 ho1 (I.stkFree b hb) hb (by simp);rw[e]at e1;cases e1;show up b _ e nf
 have keepR:∀b o,s'.heap.get? b=Ya o->b∉mX X.stack->((∃o0,X.s₀.heap.get? b=Ya o0)∨∃u,H' b=Ya u)->h'.get? b=Ya o:=λb o e n r=>st b o (hB b o e n r);show#[#[λb o e n hf _=>?_,λb o e n hf _=>?_,λb o e n _=>?_,λb o e _=>?_,λb xs e=>un.tups b xs (base.tups b xs e),λb o u e=>un.frzs b o u (base.frzs b o u e),λb ps e=>?_],λa u e=>?_,λb o e hf r=>?_]
 .have e1:=base.keep b o e n hf (by simp);have ns:=lo b o e hf;show keepR b o (un.keep b o e1 (base.free b o e n (by simp)) ns (by simp)) ns (.inl #[o,e])
 .obtain⟨sl,e1⟩:=base.slot b o e n hf (by simp);obtain⟨sl2,e2⟩:=un.slot b _ e1 (base.free b o e n (by simp)) (frO b hf) (by simp);obtain⟨sl3,e3⟩:=slot' b _ e2 (frO b hf);show#[sl3,e3]
 .obtain⟨o1,e1⟩:=base.there b o e (by simp);show un.free b o1 e1 (base.free b o e n (by simp)) (by simp)
 .obtain⟨o1,e1⟩:=base.there b o e (by simp);obtain⟨o2,e2⟩:=un.there b o1 e1 (by simp);by_cases hf:b∈mX X.stack
  .obtain⟨sl,e3⟩:=slot' b o2 e2 hf;show#[_,e3]
  .show#[o2,keepR b o2 e2 hf (.inl #[o,e])]
 .obtain⟨m1,e1⟩:=base.tbls b ps e;obtain⟨m2,e2⟩:=un.tbls b _ e1;show#[m1++m2,by rw[e2,akz]]
 .show(hok a u e).stay (λb o hb q=>?_) (λ_ q=>q) λ_ _ q=>q;have tr:∃v,H' b=Ya v:=by
   rcases hb with z|z
   .show#[u,z▸e]
   .show#[_,z]
  show keepR b o q (λz=>?_) (.inr tr);obtain⟨v,hv⟩:=tr;rw[frN b z]at hv;cases hv
 .have ex':∃o',s'.heap.get? b=Ya o':=by
   rcases r with⟨o0,e0⟩|⟨u,hu⟩
   .obtain⟨o1,e1⟩:=base.there b o0 e0 (by simp);show un.there b o1 e1 (by simp)
   .show(hok b u hu).at
  obtain⟨o',e'⟩:=ex';have ns:b∉mX X.stack:=λz=>by
   rcases r with⟨o0,e0⟩|⟨u,hu⟩
   .show lo b o0 e0 hf z
   .rw[frN b z]at hu;cases hu
  have eB:=hB b o' e' ns r;rw[st b o' eB]at e;cases e;show eB
section
variable{E:XK}
theorem Hj:oZ (lH P w) (iX (lH P w) P w K mg base N qual scope f cd A outer s H E) E:=by
 intro pins σ H1 s1 e s' I h;obtain⟨ea,C,a0,B,H',od,rfl,os,gb,un,hok,fl,hB,hn,dk,q⟩:=h;show qr (xA _ _) dk (wpAny_leaves_onW I.ok.frames rfl fl λh' fl' up dk'=>?_);obtain⟨u1,u2,u3⟩:=EN I rfl rfl rfl un hok (λb o e n r=>hB b o e n (r.imp (fun⟨o0,e0⟩=>I.base.there b o0 e0 (by intro z;cases z)) id)) fl'.1 up rfl;show#[ea,C,a0,B,H',od,rfl,os.trans I.os,gb,u1,u2,fl',u3,hn,dk',q]
def VC(C:Yc)(E:XK)(t:TA):TS:=λ_ σ H=>t σ H λvs H1=>vs.length<=Yu/\∀ea,H1 ea=Yb->E (.ref ea) (Ya C) (upd H1 ea (xD ea C Yb))
def sR(K:Ye)(C N:Yc)(up:List Yd)(newId:String):Prop:=∃nm qn bs hdct sn sub ab col dd k0 k1 k2 k3 k5,K.lookup C=Ya (af6 nm qn C N bs up hdct sn sub ab col dd k0 k1 k2 k3 k5 newId)
theorem sR.mk{N:Yc}{up:List Yd}{nm qn bs hdct sn sub ab col dd k0 k1 k2 k3 k5}(h:K.lookup C=Ya (af6 nm qn C N bs up hdct sn sub ab col dd k0 k1 k2 k3 k5 newId)):sR K C N up newId:=#[_,_,_,_,_,_,_,_,_,_,_,_,_,_,h]
def HY(K:Ye)(C:Yc)(bmB:List Yd)(newId:String):Prop:=∃N up,sR K C N up newId/\amh K bmB up=true/\PySem.W.nsOkIn K N=true/\amG K N "__init__"=Ya Yb
def vk(K:Ye)(C D:Yc):Prop:=∃N up newId,sR K C N up newId/\up.contains (.type "BaseException")=true/\(Yv C::up).contains (.ref D)=true
theorem zo{Bn initId:String}{bmB:List Yd}{cpos:adq}{e0:YY}(F:ajp Bn newId initId bmB)(hb:bmB.contains (.type "BaseException")=true)(hx:HY K C bmB newId)(hg:Gl (iX (lH P w) P w K mg base N qual scope f cd A outer s H E) x)(hm:mg x=Ya (.ref C))(ha:PA (iX (lH P w) P w K mg base N qual scope f cd A outer s H E) (e0::es) t)(hdb:autoParam ((x==("__debug__":Yh))=false) aq1)(he:autoParam (YC (e0::es) (iX (lH P w) P w K mg base N qual scope f cd A outer s H E).env=(false,Y3 e0 (iX (lH P w) P w K mg base N qual scope f cd A outer s H E).env)::YC es (iX (lH P w) P w K mg base N qual scope f cd A outer s H E).env) aq0)(hpl:autoParam ((tq cpos (YC es (iX (lH P w) P w K mg base N qual scope f cd A outer s H E).env)).any (·.1)=false) aq0):
  PS (iX (lH P w) P w K mg base N qual scope f cd A outer s H E) (.Raise (Ya (.Call (.Name x np) (e0::es) [] cpos)) Yb pos) (VC C E t):=by
 intro pins s1 σ H1 D I h;obtain⟨Nn,up,⟨nm,qn,bs,hdct,sn,sub,ab,col,dd,k0,k1,k2,k3,k5,lk⟩,ht,hok,hno⟩:=hx;have X:=I.mod.kin;have hC:=X C _ lk;have T:=PySem.W.tail_of_in X ht;have hN:=Heap.Ns.of_isNs (PySem.W.isNs_of_in X hok);have hni:=PySem.W.nsMap_none_of_in X hok hno;show wpAny_Raise_call_subT (C:=C) (N:=Nn) (nm:=nm) (q:=qn) (bs:=bs) (bm:=up) (hdct:=hdct) (sn:=sn) (sub:=sub) (ab:=ab) (col:=col) (dd:=dd) (k0:=k0) (k1:=k1) (k2:=k2) (k3:=k3) (k5:=k5) F (T.hasType hb) (I.ok.hd rfl) (by rw[he];change(false||(tq cpos (YC es _)).any (·.1))=false;rw[hpl];rfl) hni (lq I hg hm #[rfl,?_] hdb);rw[he];show ag8 ?_;have key:=ha cpos pins s1 σ H1 _ I h;rw[he]at key;show cR key λus s2 zz=>?_;obtain⟨vs,H2,I2,r,hl,q⟩:=zz;show#[rfl,by rw[←r.length];show hl,I2.bk _ _ hC,hN.keeps I2.bk,T.keeps I2.bk,λh' e hx=>?_];have dk:Nc e Yb h':=by
  obtain⟨t,he,_,_⟩:=hx.there;show#[_,he,rfl]
 show qr (xA _ _) dk ?_;show wpAny_leaves_madeW (base:=agJ s2.heap (mX (iX (lH P w) P w K mg base N qual scope f cd A outer s H E).stack)) (h:=s2.heap) I2.ok.frames rfl (λb o q=>aiA _ q) (ajT I2.stack (λenv he a hf=>agK.mpr #[env,he,hf])) hx λh'' t fl tup tn upS dk'=>?_;have hB:∀b o,h'.get? b=Ya o->b∉mX (iX (lH P w) P w K mg base N qual scope f cd A outer s H E).stack->((∃o0,s2.heap.get? b=Ya o0)∨∃u,H2 b=Ya u)->(agJ s2.heap (mX (iX (lH P w) P w K mg base N qual scope f cd A outer s H E).stack)).get? b=Ya o:=λb o e1 nb r1=>by
  obtain⟨o0,e0⟩:∃o0,s2.heap.get? b=Ya o0:=by
   rcases r1 with z|⟨u,hu⟩
   .show z
   .show(I2.hok b u hu).at
  rw[hx.keeps b o0 e0]at e1;cases e1;show aie _ e0 nb
 have hen:H2 e=none:=by
  cases z:H2 e with
  |none=>rfl
  |some u=>
   obtain⟨ob,eo⟩:=(I2.hok e u z).at
   rw[hx.new]at eo;cases eo
 obtain⟨u1,u2,u3⟩:=EN (s':={s2 with heap:=h'}) I2 rfl rfl rfl (Un.kept hx.keeps) (I2.hok.kept hx.keeps) (λb o e n r=>hB b o e n (r.imp (fun⟨o0,e0⟩=>I2.base.there b o0 e0 (by intro z;cases z)) id)) fl.1 upS rfl;show#[e,C,.ref t,_,H2,Yb,rfl,I2.os,I2.bare,u1,u2,fl,u3,hen,dk',q e hen]
end
section
variable{h2:YO}{ea:Yc}{a0:Yd}
theorem LY(I:aM X pins σ H s)(os:s'.os=s.os)(gb:ahd s'.gens)(un:Un (mX X.stack) [] H H' s.heap s'.heap)(hok:pG X.prog X.w H' s'.heap)(fl:akL B X.stack ea (.ref C) a0 s'.heap)(hB:∀b o,s'.heap.get? b=Ya o->b∉mX X.stack->((∃o0,s.heap.get? b=Ya o0)∨∃u,H' b=Ya u)->B.get? b=Ya o)(hn:H' ea=Yb)(fl2:akL B X.stack ea (.ref C) a0 h2)(up:s'.heap.UpToSlots h2)(dk:Nc ea od h2):
  aM X pins σ (upd H' ea (xD ea C od)) {s' with heap:=h2}:=by
 have st:=fl2.1;have frN:∀b,b∈mX X.stack->H' b=none:=λb hb=>by
  obtain⟨_,o,ho,_⟩:=I.stack.mem hb;show un.free b o ho (I.stkFree b hb) (by simp)
 have slot':∀b o,s'.heap.get? b=Ya o->b∈mX X.stack->(∀vs,o.data≠.fields vs)/\∃sl,h2.get? b=Ya {o with slots:=sl}:=λb o e hb=>by
  obtain⟨_,o1,ho1,nf⟩:=I.stack.mem hb;obtain⟨sl,e1⟩:=un.slot b o1 ho1 (I.stkFree b hb) hb (by simp);rw[e]at e1;cases e1;show#[nf,up b _ e nf]
 have keepR:∀b o,s'.heap.get? b=Ya o->b∉mX X.stack->((∃o0,s.heap.get? b=Ya o0)∨∃u,H' b=Ya u)->h2.get? b=Ya o:=λb o e n r=>st b o (hB b o e n r);have ne:∀b o,s.heap.get? b=Ya o->b≠ea:=λb o e z=>by
  subst z;obtain⟨o1,e1⟩:=un.there b o e (by simp);obtain⟨oe,vs,q1,_,q3,_⟩:=fl.first;rw[e1]at q1;cases q1;by_cases hf:b∈mX X.stack
  .show(slot' b _ e1 hf).1 _ q3
  .have:=hB b _ e1 hf (.inl #[o,e]);rw[fl.2.1]at this;cases this
 have neT:∀{b u},H' b=Ya u->b≠ea:=λe z=>by rw[z,hn]at e;cases e
 show I.call' (s':={s' with heap:=h2}) (ch:=[]) os #[λb o e n hf _=>?_,λb o e n hf _=>?_,λb o e n _=>?_,λb o e _=>?_,λb xs e=>?_,λb o u e=>?_,λb ps e=>?_] (λa u e=>?_) gb (λb z=>absurd z (by simp))
 .show keepR b o (un.keep b o e n hf (by simp)) hf (.inl #[o,e])
 .obtain⟨sl,e1⟩:=un.slot b o e n hf (by simp);obtain⟨_,sl2,e2⟩:=slot' b _ e1 hf;show#[sl2,e2]
 .rw[ak (ne b o e)];show un.free b o e n (by simp)
 .obtain⟨o1,e1⟩:=un.there b o e (by simp);by_cases hf:b∈mX X.stack
  .obtain⟨_,sl,e2⟩:=slot' b o1 e1 hf;show#[_,e2]
  .show#[o1,keepR b o1 e1 hf (.inl #[o,e])]
 .have e1:=un.tups b xs e;rw[ak (neT e1)];show e1
 .have e1:=un.frzs b o u e;rw[ak (neT e1)];show e1
 .obtain⟨m1,e1⟩:=un.tbls b ps e;show#[m1,by rw[ak (neT e1)];show e1]
 .by_cases z:a=ea
  .subst z;rw[aj]at e;cases e;obtain⟨ob,q1,q2⟩:=fl2.there;obtain⟨ob',q1',q3⟩:=dk;rw[q1]at q1';cases q1';obtain⟨oe,vs,q4,_,q5,_⟩:=fl2.first;rw[q1]at q4;cases q4;show#[#[ob,q1,q2,q3,vs,q5],#[ob,q1],λh3 h4 ⟨o,p1,p2⟩ k=>#[o,k o p1,p2]]
  .rw[ak z]at e;show(hok a u e).stay (λb o hb q=>?_) (λb q=>by rw[ak (neT q)];show q) λb xs q=>by rw[ak (neT q)];show q
   have tr:∃v,H' b=Ya v:=by
    rcases hb with w|w
    .show#[u,w▸e]
    .show#[_,w]
   show keepR b o q (λz=>?_) (.inr tr);obtain⟨v,hv⟩:=tr;rw[frN b z]at hv;cases hv
end
noncomputable abbrev Cx.hnd(X:Cx)(e:Yd):Cx:={X with A:=X.A.mark (Ya e),calm:=false,xe:=λ_ _=>False}
theorem aM.hnd(I:aM X pins σ H s)(e:Yd):aM (X.hnd e) pins σ H s:=
 #[#[I.ok.mod,I.ok.kind,I.ok.glob,I.ok.blt,I.ok.above,I.ok.inj,I.ok.has,I.ok.cab,(λz=>nomatch z),I.ok.frames,I.ok.stk,I.ok.exf,I.ok.bs,I.ok.bsz,I.ok.noex,I.ok.exfs,I.ok.funs,I.ok.frf],I.os,I.bare,I.base,I.loc,I.cell,I.free,I.freeC,I.pin,I.hok,I.len]
theorem aM.unhnd{e:Yd}(ok:X.Ok)(I:aM (X.hnd e) pins σ H s):aM X pins σ H s:=
 #[ok,I.os,I.bare,I.base,I.loc,I.cell,I.free,I.freeC,I.pin,I.hok,I.len]
section
theorem vf{n:Yh}{Q:Unit->Yi->Prop}(I:aM X pins σ H s)(hN:X.N.Nodup)(hi:X.N[i]?=Ya n)(hl:X.env.scope.names.lookup n=Ya .local)(h:∀s',aM X pins (σ.set i Yb) H s'->Q () s'):
  Yl M A (do bindName X.env n .none;unbindBehindTheSuite X.env n pos) Q E s:=by
 show Yf (wpAny_bindName (zI (v:=.non) I hN hi (.inl hl) rfl (λs1 I1=>?_) (.inr hl)));have il:i<σ.length:=by rw[I.len];show(Yp.mp hi).1
 obtain⟨m,hn,lo⟩:=id I1.loc;obtain⟨u,_,hu⟩:=lo i n .non hi (agQ il) (.inl hl);have hm:m n=Ya u:=by
  rcases hu with⟨_,z⟩|⟨k,_⟩
  .show z
  .have k1:X.env.kindOf n=Ya .local:=hl;rw[k1]at k;rcases k with z|z<;>cases z
 show wpAny_onRaise (wpAny_unbindName_local hl hn hm (by rw[I.ok.kind];rfl) λh' w hn' hs=>?_);obtain⟨oL,_,_,hoL,_⟩:=id hn;have cne:=I1.cne;have neL:∀b o,X.s₀.heap.get? b=Ya o->b≠X.env.locals:=λb o e=>YB (YT (Yt e) I.ok.above);show h {s1 with heap:=h'} #[I1.ok,I1.os,I1.bare,#[λb o e n hb hx=>(hs.2 b (neL b o e)).trans (I1.base.keep b o e n hb hx),λb o e n hb hx=>?_,I1.base.free,λb o e hx=>?_,I1.base.tups,I1.base.frzs,I1.base.tbls],#[_,hn',λj y v' e1 e2 e3=>?_],λy c e=>?_,I1.free,I1.freeC,λp hp=>?_,λb ob e=>?_,by rw[List.length_set];show I.len]
 .obtain⟨sl,e1⟩:=I1.base.slot b o e n hb hx;show#[sl,(hs.2 b (neL b o e)).trans e1]
 .obtain⟨o',e1⟩:=I1.base.there b o e hx;show#[o',(hs.2 b (neL b o e)).trans e1]
 .by_cases hj:j=i
  .subst hj;rw[agQ il]at e2;cases e2
  .rw[ag6 (Ne.symm hj)]at e2;have e2':(σ.set i (Ya V.non))[j]?=Ya (Ya v'):=by rw[ag6 (Ne.symm hj)];show e2
   obtain⟨u',r',q⟩:=lo j y v' e1 e2' e3;show#[u',r',?_];rcases q with⟨k,e⟩|⟨k,c,e,z⟩
   .show .inl #[k,?_];have:y≠n:=λe=>hj (DC hN e1 (e▸hi));change(if y=n then w else m y)=Ya u';rw[if_neg this];show e
   .show .inr #[k,c,e,z.sameBut hs (cne y c e)]
 .obtain⟨w',z⟩:=I1.cell y c e;show#[w',z.sameBut hs (cne y c e)]
 .obtain⟨e,n,ne,nf,d⟩:=I1.pin p hp;show#[(hs.2 p.1 ne).trans e,n,ne,nf,d]
 .show(I1.hok b ob e).stay (λc w' hc q=>(hs.2 c λz=>?_).trans q) (λ_ q=>q) λ_ _ q=>q;have fr:=I1.free;rcases hc with hc|hc
  .rw[←hc,z,fr]at e;cases e
  .rw[z,fr]at hc;cases hc
end
section
theorem QK{g:Array alf}{d:akP}{t:Nat}{os:OsState}{N N2:Yc}{nm q nm2 q2:Yh}{bs bm bs2 bm2:List Yd}{hdct hdct2:Bool}{sn sn2:List Yh}{sub sub2:List Yd}{ab ab2:Bool}{col col2:Option Bool}{dd dd2:Option Yc}{k0 k1 k2 k3 k5 l0 l1 l2 l3 l5:Option Yd}{newId2:String}{oe:Y8}{b:Bool}(hC:h.get? C=Ya (af6 nm q C N bs bm hdct sn sub ab col dd k0 k1 k2 k3 k5 newId))(hD:h.get? D=Ya (af6 nm2 q2 D N2 bs2 bm2 hdct2 sn2 sub2 ab2 col2 dd2 l0 l1 l2 l3 l5 newId2))(he:h.get? e=Ya oe)(hcls:oe.cls=.ref C)(hbD:bm2.contains (.type "BaseException")=true)(hb:(Yv C::bm).contains (.ref D)=b)(hq:Q b #[h,g,d,t,os]):Yl M A (excMatches (.ref e) (.ref D)) Q E #[h,g,d,t,os]:=by
 have cB:(Yv D::bm2).contains (.type "BaseException")=true:=by rw[akM,hbD,ajq]
 have nt:=tc_notTuple;unfold excMatches
 repeat(first
  |(with_reducible show ail hD ?_;rw[cB])
  |(with_reducible show ail hC ?_;rw[hb])
  |(with_reducible show agV he ?_;rw[hcls])
  |with_reducible show agV hD ?_
  |wp_step)
 cases b<;>(wp_walk;show hq)
end
noncomputable abbrev Cx.tr(X:Cx)(pins:List (Yc×Y8))(EE:St->XK):Cx:={X with pn:=X.pn++pins,xe:=λe s'=>∃σ H s,aM X pins σ H s/\lH X.prog X.w X.stack H s (EE σ) e s'}
section
variable{pins':List (Yc×Y8)}{EE:St->XK}
theorem aM.tr(I:aM X pins σ H s)(EE:St->XK):aM (X.tr pins EE) [] σ H s:=
 #[#[I.ok.mod,I.ok.kind,I.ok.glob,I.ok.blt,I.ok.above,I.ok.inj,I.ok.has,I.ok.cab,I.ok.hd,I.ok.frames,I.ok.stk,I.ok.exf,I.ok.bs,I.ok.bsz,I.ok.noex,I.ok.exfs,I.ok.funs,I.ok.frf],I.os,I.bare,I.base,I.loc,I.cell,I.free,I.freeC,by rw[Y4];show I.pin,I.hok,I.len]
theorem aM.untr(I:aM (X.tr pins EE) pins' σ H s):aM X pins σ H s:=
 #[#[I.ok.mod,I.ok.kind,I.ok.glob,I.ok.blt,I.ok.above,I.ok.inj,I.ok.has,I.ok.cab,I.ok.hd,I.ok.frames,I.ok.stk,I.ok.exf,I.ok.bs,I.ok.bsz,I.ok.noex,I.ok.exfs,I.ok.funs,I.ok.frf],I.os,I.bare,I.base,I.loc,I.cell,I.free,I.freeC,λp hp=>I.pin p (pe _ hp),I.hok,I.len]
theorem SP.untr{D:q8}{f:Flow}(h:SP (X.tr pins EE) pins' D f s'):SP X pins D f s':=by
 cases f with
 |next=>obtain⟨σ',H',I,q⟩:=h;show#[σ',H',I.untr,q]
 |brk=>obtain⟨σ',H',I,q⟩:=h;show#[σ',H',I.untr,q]
 |cont=>obtain⟨σ',H',I,q⟩:=h;show#[σ',H',I.untr,q]
 |ret u=>obtain⟨v,σ',H',I,r,q⟩:=h;show#[v,σ',H',I.untr,r,q]
end
noncomputable def Iv(i:Nat)(D:q8):q8:={nx:=λσ H=>D.nx (σ.set i Yb) H,rt:=D.rt,bk:=λσ H=>D.bk (σ.set i Yb) H,ct:=λσ H=>D.ct (σ.set i Yb) H}
def NY(K:Ye)(D:Yc)(i:Nat)(tb:(St->XK)->TS)(th:TS):TS:=λDn σ H=>
 tb (λσ' ev c H'=>∃ea C,ev=.ref ea/\c=Ya C/\vk K C D/\th (Iv i Dn) (σ'.set i (Ya (.ref ea))) H') Dn σ H
theorem DI{L:Yc}{n:Yh}{hpos:adq}{body:List YI}{b0:YI}{suite:List YI}{tb:(St->XK)->TS}{th:TS}(hK:X.K=K)(hstk:X.stack=X.env::X.outer)(hf:X.env.frame=Ya L)(hN:X.N.Nodup)(hi:X.N[i]?=Ya n)(hl:X.env.scope.names.lookup n=Ya .local)(hg:Gl X x)(hm:X.mg x=Ya (.ref D))(hD:vk K D D)(hb:∀pins EE,IK (X.tr pins EE) body (tb EE))(hs:∀ea,IK (X.hnd (.ref ea)) (b0::suite) th)(hdb:autoParam ((x==("__debug__":Yh))=false) aq1):
  PS X (.Try body [.ExceptHandler (Ya (.Name x np)) (Ya n) (b0::suite) hpos] [] [] pos) (NY K D i tb th):=by
 subst hK;intro pins s σ H Dn I h;show wpAny_Try_except ?_;show pk (hb pins _ [] s σ H Dn (I.tr _) h) (λf s1 q=>?_) λe s1 q=>?_
 .cases f with
  |next=>show ahj q.untr
  |brk=>show q.untr
  |cont=>show q.untr
  |ret u=>show q.untr
 .obtain⟨σ1,H1,s2,I2,ea,C,a0,B,H',od,rfl,os,gb,un,hok,fl,hB,hn,dk,_,_,e1,e2,hmro,ht⟩:=q;cases e1;cases e2;obtain⟨hh,g,d,t,os'⟩:=s1;have fl':=fl;rw[hstk]at fl';have fr:=I2.ok.frames;rw[hstk]at fr;show qr (OY _ _) dk (wpAny_looks_onW fr hf fl' λh1 acm up1 dk1=>?_);show qr (Ax _ _) dk1 (wpAny_landsW acm λh2 fl2 up2 dk2=>?_);rw[←hstk]at fl2;have up12:=up1.trans up2;have J:=LY I2 os gb un hok fl hB hn fl2 up12 dk2;have Jh:=J.hnd (.ref ea);show wpAny_handleBy_cons (codeAny_handlers_test (lq (X:=X.hnd (.ref ea)) Jh hg hm ?_ hdb)) (by intro q;cases q);obtain⟨_,_,_,⟨_,_,_,_,_,_,_,_,_,_,_,_,_,_,lkC⟩,_,hcC⟩:=hmro;obtain⟨_,_,_,⟨_,_,_,_,_,_,_,_,_,_,_,_,_,_,lkD⟩,hbD,_⟩:=hD;obtain⟨oe,hoe,hoc⟩:=fl2.there;show QK (Jh.kIn _ _ lkC) (Jh.kIn _ _ lkD) hoe hoc hbD hcC ?_;show codeAny_handlers_suite_as ?_;show qr (Ax _ _) dk2 (lands_againW fl2 λh3 fl3 up3 dk3=>?_);have J3:=LY I2 os gb un hok fl hB hn fl3 (up12.trans up3) dk3;show zI (X:=X.hnd (.ref ea)) (v:=.ref ea) (J3.hnd _) hN hi (.inl hl) rfl (λs4 I4=>?_) (.inr hl);show pk (hs ea pins s4 _ _ (Iv i Dn) I4 ht) (λf s5 q=>?_) λ_ _ z=>z.elim;cases f with
  |next=>obtain⟨σ',H',I5,q⟩:=q;show vf (I5.unhnd J.ok) hN hi hl λs6 I6=>#[_,_,I6,q]
  |brk=>obtain⟨σ',H',I5,q⟩:=q;show vf (I5.unhnd J.ok) hN hi hl λs6 I6=>#[_,_,I6,q]
  |cont=>obtain⟨σ',H',I5,q⟩:=q;show vf (I5.unhnd J.ok) hN hi hl λs6 I6=>#[_,_,I6,q]
  |ret u=>obtain⟨v,σ',H',I5,r,q⟩:=q;show vf (I5.unhnd J.ok) hN hi hl λs6 I6=>#[_,_,_,I6,r,q]
end L2
namespace L2
open PySem PySem.Spec PyProof.Rows PySem.W
variable{K:Ye}{M:amC}{h:YO}{R:agt->Yi->Prop}{s:Yi}
structure FO(K:Ye)(C:Yc):Prop where
 ga:YR K (.ref C) "__getattribute__"=Ya (Ya (.builtin "BaseException.__getattribute__"))
 gn:YR K (.ref C) "__getattr__"=Ya Yb
 ha:YR K (.ref C) "__class__"=Ya (Ya (.builtin "object.__class__"))
 hn:aiT K (.builtin "object.__class__") "__get__"=Ya (Ya (.builtin "getset_descriptor.__get__"))
 htk:alJ K (.builtin "object.__class__")=Ya true
 hm:ahR K C (.type "object")=Ya true
 hb:ahR K C (.type "BaseException")=Ya true
 hd:ahG K C=true
 hc:∃N up newId,sR K C N up newId
section
variable{prog:YU}{w:YZ}{A:sq}{E:Yd->Yi->Prop}{x C:Yc}
def RX(h:YO)(x C:Yc):Prop:=∃o,h.get? x=Ya o/\o.cls=.ref C
theorem RX.type(I:RX h x C):Looks M h (alO (.ref x)) (.ref C):=by
 obtain⟨o,e,c⟩:=I;show c▸(Looks.ld e).andThen .now
theorem Wg(F:FO K C)(X:K.In h):Looks M h (ahF (.ref x) (.ref C) "__class__") (.bind (.builtin "getset_descriptor.__get__") (.builtin "object.__class__")):=by
 have L1:=looks_findIn (M:=M) X F.ha;have L2:Looks M h (amR (Ya (.builtin "object.__class__"))) (Ya (.builtin "getset_descriptor.__get__")):=looks_specialIn X F.hn;have L3:Looks M h (alb (Ya (.builtin "object.__class__")) (Ya (.builtin "getset_descriptor.__get__"))) (Ya (.builtin "getset_descriptor.__get__",.builtin "object.__class__")):=(looks_takesIn X F.htk).andThen .now;show L1.andThen (L2.andThen (L3.andThen (Looks.tag .now)))
theorem abh(F:FO K C)(X:K.In s.heap)(I:RX s.heap x C)(hq:R (.ok (.ret (.ref C))) s):
  rl (Yn prog w) A (.call (.builtin "getset_descriptor.__get__") #[[.builtin "object.__class__",.ref x,.ref C],[]]) R s:=by
 obtain⟨h,g,d,t,os⟩:=s;have LT:=I.type (M:=Yn prog w);have LI:Looks (Yn prog w) h (isInstance (.ref x) (.type "object")) true:=LT.andThen (looks_mroIn X F.hm);apply aaF KF.slot_gs.plain KF.entry_gs;show KF.slot_gs.check _ _ _ _ (.builtin "object.__class__") [.ref x,.ref C] [] _ KF.type_class (KF.args_gs _ _ _) ?_;have ea:ahh #[[.builtin "object.__class__",.ref x,.ref C],[]]=pure (.builtin "object.__class__",Ya (.ref x),Ya (.ref C)):=by kernel_rfl
 change Yl _ _ (ahh _ >>= _) _ _ _;show Yf (agp ea ?_);change Yl _ _ (ajU (.builtin "object.__class__") (.ref x) >>= _) _ _ _;have en:ajW (.builtin "object.__class__")=pure ((("__class__":Yh),xi "object"):Yh×Yd):=by kernel_rfl
 show Yf (Yf (agp en (Yf (LI.at ?_))));dsimp only;rw[if_neg (by decide)];show Yk (Yk #[aht _ (by decide +kernel),ah5 KF.entry_class ?_]);change Yl _ _ (shownTypeOf (.ref x) >>= _) _ _ _;show Yf (Yf (LT.at ?_));dsimp only;rw[if_neg (show ¬ (Yv C==xi "builtin_function_or_method")=true from YQ)];show Yk (Yk hq)
theorem WQ{tk:agl}(F:FO K C)(X:K.In s.heap)(I:RX s.heap x C)(hq:R (.ok (.ret (.ref C))) s):
  rl (Yn prog w) A (.call (.builtin "BaseException.__getattribute__") #[[.ref x,.str "__class__" tk],[]]) R s:=by
 obtain⟨h,g,d,t,os⟩:=s;have LT:=I.type (M:=Yn prog w);have LB:=looks_mroIn (M:=Yn prog w) X F.hb;have LF:=Wg (M:=Yn prog w) (x:=x) F X;show aaF agF.ga.plain aj8 ?_;change Yl _ _ (ahV "BaseException.__getattribute__" #[[.ref x,.str "__class__" tk],[]]) _ _ _;have key:builtinKind "BaseException.__getattribute__"=Ya .slot/\anc "BaseException.__getattribute__"=Ya ("BaseException","__getattribute__"):=by decide +kernel
 rw[PySem.checkBuiltinCall.eq_def,key.1,key.2];show Yf ((LT.andThen LB).at ?_);rw[if_neg (show ¬ (!true)=true from YQ)];show agp (akq (.ref x) (.str "__class__" tk)) ?_;unfold xb.«object.__getattribute__»;show Yf (Yk ?_);show Yf (Yk ?_);show Yf (LT.at ?_);show Yf (LF.at ?_);change Yl _ _ (afR [agH "object.__class__"] (call (.builtin "getset_descriptor.__get__") [.builtin "object.__class__",.ref x,.ref C]) >>= _) _ _ _;show Yf (xu (afn (abh F X I ?_)));show Yk hq
theorem VQ{Q:Option Yd->Yi->Prop}(F:FO K C)(X:K.In s.heap)(I:RX s.heap x C)(hq:Q (Ya (.ref C)) {s with toks:=s.toks+ 1}):Yl (Yn prog w) A (ajk (.ref x) "__class__") Q E s:=by
 obtain⟨h,g,d,t,os⟩:=s;have LT:=I.type (M:=Yn prog w);have L1:=looks_findIn (M:=Yn prog w) X F.ga;have L2:=looks_findIn (M:=Yn prog w) X F.gn;unfold ajk;show Yf (amS ?_);unfold getAttrBy? amn;show Yf (agg (xu ?_));show Yf (LT.at ?_);show Yf (L1.at ?_);have own:∀b:Bool,¬ (b&&(agH "BaseException.__getattribute__"==agH "object.__getattribute__"))=true:=by decide +kernel
 dsimp only;rw[if_neg (own _)];unfold alY hookBefore;rw[if_pos (show akN (Yv C)=true from rfl)];show Yf (L2.at (Yf (agg (xu ?_))));unfold alx ami;rw[if_neg (show ¬ (false&&akN (agH "BaseException.__getattribute__"))=true by decide)];show Yf (agp (agF.ga.bind _) ?_);show afn (WQ (s:=#[h,g,d,t+ 1,os]) F X I ?_);change Yl _ _ (handedOut (.ref C)) _ _ _;show handed_on rfl (Yk hq)
theorem Vn(F:FO K C):PySem.W.KitX K (.ref x) (.ref C) (λh=>RX h x C) where
 ty:=λ_ _ _ I=>I.type
 it:=λ_ h X _ A' Q' E' s' k q=>mc_isType (s:=s') (λb o e=>k b o (X b o e)) F.hd A' Q' E' s' (λ_ _ e=>e) q
 ne:=λh tp dd its n sl X htp=>aeu.mpr λz=>by
  obtain⟨_,_,_,_,_,_,_,_,_,_,_,_,_,_,_,_,_,lk⟩:=F.hc;cases Value.ref.inj (eq_of_beq z);have e:xi "tuple"=xi "type":=congrArg Obj.cls (YM (htp.symm.trans (X _ _ lk)));show absurd (Value.type.inj e) (by decide)
 ca:=λX I q=>VQ F X I q
end
def adE(K:Ye):List V->Hp->VK->Prop:=λxs H Q=>∃(ea C:Yc) (c:V) (cv:Yd) (b:Bool) (od:Option Yc),xs=[.ref ea,c]/\(∀u,RelV c u->u=cv)/\H ea=Ya (xD ea C od)/\FO K C/\cw K (.ref C) cv=Ya b/\Q (.bl b) H
theorem j9{X:Cx}(hK:X.K=K):eU X (.builtin "isinstance") (adE K):=by
 subst hK;intro pins s σ H xs us Q I r h;obtain⟨ea,C,c,cv,b,od,rfl,hc,he,F,e,q⟩:=h;obtain⟨u,v,rfl,r1,r2⟩:=Hu r;cases r1;obtain rfl:=hc v r2;have ox:RX s.heap ea C:=by obtain⟨o,g,c,_⟩:=(I.hok ea _ he).1;show#[o,g,c]
 show aar (Vn F) I.kIn ox e (λz=>nomatch z) λtk=>#[.bl b,H,I.tok tk,rfl,q]
end L2
namespace L2
open PySem PySem.Spec PyProof.Rows
variable{P:YU}{w:YZ}{K:Ye}{x:Yh}{f:Yc}{fd:Yr}{ps:List Yh}{k:Nat}{sp:Sp}{X:Cx}{t:TA}
section
variable{mg:Yh->Option Yd}{base:YO}
theorem bx.okX{qual:Yh}{st:YI}{N:List Yh}(F:bx K x qual st f fd)(S:aq N ps (ah st))(len:∀vs H Q E,sp vs H Q E->vs.length=ps.length)(hbody:∀(cdv:Yd) (A:sq) (outer:List af7) (s:Yi) (H:Hp) (vs:List V) (Q:VK) (E:XK),cV k (A.deeper (agw qual (ah st) s.heap.objs.size f cdv))->sp vs H Q E->
   ∃t,IK (iX (lH P w) P w K mg base N qual (ah st) f cdv A outer s H E) (du st) t/\t {nx:=λ_ H'=>Q .non H',rt:=Q} (start N vs) H):aw P w K mg base (lH P w) (k+ 1) f fd ps sp:=by
 obtain⟨oc,od,kV,doc,pm,an,cdv,ct,osl,rfl,lk,hcd⟩:=F.ex;show O2 lk hcd S len λA outer s H vs Q E hr hsp=>hbody cdv A outer s H vs Q E hr hsp
end
theorem AV:oZ (lH P w) X E0:=λ_ _ _ _ _ _ _ h=>by
 obtain⟨_,_,_,_,_,_,_,_,_,_,_,_,_,_,_,q⟩:=h;show q.elim
section
variable{D:q8}{σ:St}{H:Hp}
theorem PH{Dc:Yc}{i:Nat}{tb:(St->XK)->TS}{th:TS}(h:tb (λσ' ev c H'=>∃ea C,ev=.ref ea/\c=Ya C/\vk K C Dc/\th (Iv i D) (σ'.set i (Ya (.ref ea))) H') D σ H):NY K Dc i tb th D σ H:=h
theorem zD{C:Yc}{E:XK}(h:t σ H λvs H1=>vs.length<=Yu/\∀ea,H1 ea=Yb->E (.ref ea) (Ya C) (upd H1 ea (xD ea C Yb))):VC C E t D σ H:=h
end
end L2
namespace L2
open PySem PySem.Spec PyProof.Rows PySem.W
variable{prog P:YU}{w:YZ}{A:sq}{E:Yd->Yi->Prop}{K:Ye}{x C d dx e f a:Yc}{name:Yh}{v:Yd}{s:Yi}{mA:Yh->Option Yd}{ns:List Yh}{tk:agl}{up bmB:List Yd}{R:agt->Yi->Prop}{Q:Unit->Yi->Prop}{H:Hp}{h:YO}{fs:List (Yh×V)}{X:Cx}{pins:List (Yc×Y8)}{σ:St}{pos:adq}{B newId initId:String}
section
theorem Pu{Q:ajg->Yi->Prop}(N:s.heap.Ns1 d mA)(hw:aiz mA ns)(hz:ns.length<=Yu)(h:∀h',h'.Ns1 d (λy=>if y=name then Ya v else mA y)->aaq d s.heap h'->Q (.done (.ret .none)) {s with heap:=h',toks:=s.toks+ 1}):
  Yl (Yn prog w) A (alZ d (.str name tk) name v) Q E s:=by
 show Yf (Yk (Yf (amI N λh' n' sb=>?_)));obtain⟨o,es,ep,ho,hd,hc⟩:=n'.count (Within.cons name v hw);rw[cT]at hc;show Yf (alj ho (by rw[hd];show alk (oh hc (afX hz))) (Yk (h _ n' sb)))
def UpV(up:List Yd):Prop:=∃cs:List Yc,up=cs.map Yv++[.type "ValueError",.type "Exception",.type "BaseException",.type "object"]
theorem UpV.pass(u:UpV up)(self:Yd):refuseLoop self "__setattr__" up=pure ():=by
 obtain⟨cs,rfl⟩:=u
 induction cs with
 |nil=>show PySem.F.store_ValueError.passes self
 |cons c cs ih=>show(amj _ _ _ _).trans ih
structure M9(K:Ye)(C:Yc):Prop where
 sa:YR K (.ref C) "__setattr__"=Ya (Ya (.builtin "object.__setattr__"))
 hm:ahR K C (.type "object")=Ya true
 cl:∃cd up,amz K C=Ya cd/\cd.hasDict=true/\cd.mro=.ref C::up/\UpV up
theorem Pp{cd:ClassData}(F:M9 K C)(X:K.In s.heap)(I:RX s.heap x C)(hc:amz K C=Ya cd)(hm:cd.mro=.ref C::up)(u:UpV up)(hn:YR K (.ref C) name=Ya Yb)(h:Yl (Yn prog w) A.in1 (ale (.ref x) (.ref C) (.str name tk) name v false)
   (λfin s'=>match fin with| .done f=>R (.ok f) s'| .again c'=>c'.quiet=true/\rl (Yn prog w) A c' R s') (λe s'=>R (.error e) s') s):
  rl (Yn prog w) A (.call (.builtin "object.__setattr__") #[[.ref x,.str name tk,v],[]]) R s:=by
 have SF:=PySem.F.store_object;have T:=I.type (M:=Yn prog w);show aaF SF.slot.plain SF.entry (@check_slot (Yn prog w) _ _ s "object.__setattr__" "object" "__setattr__" (.ref x) [.str name tk,v] [] _ SF.kind SF.split (T.andThen (looks_mroIn X F.hm)) (SF.args (.ref x) (.str name tk) v) ?_);have M1:Looks (Yn prog w) s.heap (mroOf (.ref C)) (.ref C::up):=hm▸(looks_clsIn X hc).andThen .now;rw[osa_eq,refuse_eq];show Yf (Yf (T.here (Yf (M1.here ?_))));rw[amj,u.pass];show Yk (Yf (T.here (Yf ((looks_findIn X hn).here (Yf (Yk h))))))
end
section
variable{vs:Array Yd}{sl:Array (Option Yd)}
theorem V6(F:M9 K C)(X:K.In s.heap)(hx:s.heap.get? x=Ya #[.ref C,Yb,.fields vs,sl])(hn:YR K (.ref C) name=Ya Yb)(h:∀h',h'.get? x=Ya #[.ref C,Ya s.heap.objs.size,.fields vs,sl]->h'.Ns1 s.heap.objs.size (λy=>if y=name then Ya v else Yb)->(∀b o,b≠x->s.heap.get? b=Ya o->h'.get? b=Ya o)->Q () {s with heap:=h',toks:=s.toks+ 2}):
  Yl (Yn prog w) A (ajZ (.ref x) name v) Q E s:=by
 obtain⟨cd,up,hc,hd,hm,u⟩:=F.cl;obtain⟨hp,g,d,t,os⟩:=s;have J:InstAt hp x #[.ref C,Yb,.fields vs,sl] C none:=#[hx,rfl,rfl,ado];have OC:RX hp x C:=#[_,hx,rfl];show aiV X J F.sa (Pp (s:=#[hp,g,d,t+ 1,os]) F X OC hc hm u hn ?_);show Yf (Yk (Yf (Yf (ahy hx (Yf (aiF (s:=#[hp,g,d,t+ 1,os]) (aih X hc) ?_))))));rw[hd];have lt:x<hp.objs.size:=Yt hx;have ne:x≠hp.objs.size:=YB lt;have hx1:(hp.push emptyDict).get? x=Ya #[.ref C,Yb,.fields vs,sl]:=Yg _ hx;show Yf (wpAny_alloc (Yf (wpAny_update hx1 (Yk ?_))));have gx:=xt (λo:Y8=>{o with dict:=Ya hp.objs.size}) hx1 rfl;have gd:=(aky (hp.push emptyDict) hp.objs.size x (λo:Y8=>{o with dict:=Ya hp.objs.size}) (Ne.symm ne)).trans (Ys hp rfl);show Pu (s:=#[(hp.push emptyDict).update x λo=>{o with dict:=Ya hp.objs.size},g,d,t+ 1,os]) (mA:=λ_=>Yb) (ns:=[]) (Heap.Ns1.of_empty #[emptyDict,#[],_,gd,rfl,(λe he=>absurd he (by simp)),λ_=>rfl]) (λy z=>absurd rfl z) (Y1 _) λh' n' sb=>?_;show h h' ((sb.2 x ne).trans gx) n' λb o hb e=>?_;show(sb.2 b (YB (Yt e))).trans ((aky _ _ _ _ hb).trans (Yg _ e))
theorem W7(F:M9 K C)(X:K.In s.heap)(hx:s.heap.get? x=Ya #[.ref C,Ya dx,.fields vs,sl])(N:s.heap.Ns1 dx mA)(hw:aiz mA ns)(hz:ns.length<=Yu)(hn:YR K (.ref C) name=Ya Yb)(h:∀h',h'.Ns1 dx (λy=>if y=name then Ya v else mA y)->aaq dx s.heap h'->Q () {s with heap:=h',toks:=s.toks+ 2}):
  Yl (Yn prog w) A (ajZ (.ref x) name v) Q E s:=by
 obtain⟨cd,up,hc,hd,hm,u⟩:=F.cl;obtain⟨hp,g,d,t,os⟩:=s;obtain⟨od,es,ep,ho,r⟩:=id N;have J:InstAt hp x #[.ref C,Ya dx,.fields vs,sl] C (Ya od):=#[hx,rfl,rfl,ho];have OC:RX hp x C:=#[_,hx,rfl];show aiV X J F.sa (Pp (s:=#[hp,g,d,t+ 1,os]) F X OC hc hm u hn ?_);show Yf (Yk (Yf (Yf (ahy hx (Yf (aiF (s:=#[hp,g,d,t+ 1,os]) (aih X hc) ?_))))));rw[hd];show Yk (a:=Ya dx) ?_;show Pu (s:=#[hp,g,d,t+ 1,os]) N hw hz λh' n' sb=>h h' n' sb
end
def isM(e C:Yc)(od:Option Yc):YO->Prop:=λh=>∃vs sl a0,h.get? e=Ya #[.ref C,od,.fields vs,sl]/\vs[0]?=Ya a0/\vs[1]?=Ya .none
noncomputable abbrev xM(e C:Yc)(od:Option Yc):HO:=.ext (isM e C od)
def isN(d:Yc)(fs:List (Yh×V)):YO->Prop:=λh=>∃mA,h.Ns1 d mA/\(∀f,mY (fs.lookup f) (mA f))/\aiz mA (fs.map (·.1))
noncomputable abbrev xN(d:Yc)(fs:List (Yh×V)):HO:=.ext (isN d fs)
theorem isM.ok{od:Option Yc}(x:isM e C od h):cO P w H h e (xM e C od):=by
 obtain⟨vs,sl,a0,g,r⟩:=id x;show#[x,#[_,g],λh1 h2 ⟨vs,sl,a0,g,r⟩ k=>#[vs,sl,a0,k _ g,r]]
theorem isN.ok(x:isN d fs h):cO P w H h d (xN d fs):=by
 obtain⟨mA,n,_⟩:=id x;obtain⟨o,_,_,g,_⟩:=id n;show#[x,#[o,g],λh1 h2 ⟨mA,n,r⟩ k=>#[mA,n.at k,r]]
section
variable{f:Yh}{y:V}{u:Yd}
theorem aM.both{h':YO}{t':Nat}{φ φ1 φ2:YO->Prop}(I:aM X pins σ H s)(he:H e=Ya (.ext φ))(k:∀b o,b≠e->s.heap.get? b=Ya o->h'.get? b=Ya o)(hp:s.heap.objs.size<=dx)(ne:dx≠e)
  (n1:cO X.prog X.w (upd (upd H dx (.ext φ1)) e (.ext φ2)) h' e (.ext φ2)) (n2:cO X.prog X.w (upd (upd H dx (.ext φ1)) e (.ext φ2)) h' dx (.ext φ1)):aM X pins σ (upd (upd H dx (.ext φ1)) e (.ext φ2)) {s with heap:=h',toks:=t'}:=by
 have fr:H dx=none:=I.hok.fresh hp;have go:∀{b o},H b=Ya o->(∀φ,o≠.ext φ)->upd (upd H dx (.ext φ1)) e (.ext φ2) b=Ya o:=fun{b o} q n=>by
  rw[ak (λz=>by rw[z,he]at q;cases q;show n _ rfl),ak (λz=>by rw[z,fr]at q;cases q)];show q
 have nn:∀{b},H b=Yb->b≠e:=fun{b} q z=>by rw[z,he]at q;cases q
 obtain⟨oe,ge⟩:∃o,h'.get? e=Ya o:=n1.2.1;show I.un #[λb o q n _ _=>k b o (nn n) q,λb o q n _ _=>#[o.slots,k b o (nn n) q],λb o q n _=>?_,λb o q _=>?_,λb xs q=>go q (by intro _ z;cases z),λb o u q=>go q (by intro _ z;cases z),λb ps q=>#[#[],by rw[akO];show go q (by intro _ z;cases z)]] λb u q=>?_
 .rw[ak (nn n),ak (YB (YT (Yt q) hp))];show n
 .by_cases z:b=e
  .show#[oe,z▸ge]
  .show#[o,k b o z q]
 .by_cases z:b=e
  .subst z;rw[aj]at q;cases q;show n1
  .rw[ak z]at q;by_cases z2:b=dx
   .subst z2;rw[aj]at q;cases q;show n2
   .rw[ak z2]at q;show(I.hok b u q).stay (λc o hc g=>k c o (λzc=>?_) g) (λc r=>go r (by intro _ z;cases z)) λc xs r=>go r (by intro _ z;cases z);rcases hc with w|w
    .show z (w▸zc)
    .rw[zc,he]at w;cases w
theorem adw(I:aM X pins σ H s)(he:H e=Ya (xM e C Yb))(F:M9 X.K C)(hn:YR X.K (.ref C) f=Ya Yb)(ry:RelV y u)(h:∀s' dx,H dx=Yb->dx≠e->aM X pins σ (upd (upd H dx (xN dx [(f,y)])) e (xM e C (Ya dx))) s'->Q () s'):Yl (Yn X.prog X.w) A (ajZ (.ref e) f u) Q E s:=by
 obtain⟨vs,sl,a0,g,g0,g1⟩:=(I.hok e _ he).1;have ne:s.heap.objs.size≠e:=agu (Yt g);show V6 F I.kIn g hn λh' gx n' k=>h _ s.heap.objs.size (I.hok.fresh (Ym _)) ne ?_;show I.both he k (Ym _) ne (isM.ok #[vs,sl,a0,gx,g0,g1]) (isN.ok #[_,n',λg=>?_,λg hg=>?_])
 .by_cases z:g=f
  .rw[if_pos z,z];simp only[agn,beq_self_eq_true];show ry
  .rw[if_neg z];simp only[agn,beq_eq_false_iff_ne.mpr z];trivial
 .by_cases z:g=f
  .rw[z];show Yy
  .show absurd (if_neg z) hg
theorem aeG(I:aM X pins σ H s)(he:H e=Ya (xM e C (Ya dx)))(hd:H dx=Ya (xN dx fs))(F:M9 X.K C)(hn:YR X.K (.ref C) f=Ya Yb)(hl:fs.length<1000)(ry:RelV y u)(h:∀s',aM X pins σ (upd H dx (xN dx (bY f y fs))) s'->Q () s'):Yl (Yn X.prog X.w) A (ajZ (.ref e) f u) Q E s:=by
 obtain⟨vs,sl,a0,g,g0,g1⟩:=(I.hok e _ he).1;obtain⟨mA,N,r,wi⟩:=(I.hok dx _ hd).1;show W7 F I.kIn g N wi (by rw[Yj,adm];omega) hn λh' n' sb=>h _ ?_;have hdo:∃o,h'.get? dx=Ya o:=let ⟨o,_,_,e',_⟩:=n';#[o,e'];show I.write (x:=dx) (e:=dx) (by rw[hd];show ado) (.inl rfl) (λb q hb z=>(sb.2 b hb).trans z) hdo (isN.ok #[_,n',λg=>?_,λg hg=>?_])
 .change mY ((bY f y fs).lookup g) (if g=f then Ya u else mA g);rw[uJ];by_cases q:g=f
  .rw[if_pos q,if_pos q];show ry
  .rw[if_neg q,if_neg q];show r g
 .by_cases q:g=f
  .rw[q];show(qi f y fs).1
  .show(qi f y fs).2 g (wi g λz=>hg ?_);change(if g=f then Ya u else mA g)=Yb;rw[if_neg q];show z
def aay(K:Ye)(ta tv:TE)(f:Yh):TS:=λD σ H=>tv σ H λy H1=>ta σ H1 λx H2=>∃e C,x=.ref e/\M9 K C/\YR K (.ref C) f=Ya Yb/\
 ((H2 e=Ya (xM e C Yb)/\∀dx,H2 dx=Yb->dx≠e->D.nx σ (upd (upd H2 dx (xN dx [(f,y)])) e (xM e C (Ya dx))))∨
 ∃dx fs,H2 e=Ya (xM e C (Ya dx))/\H2 dx=Ya (xN dx fs)/\fs.length<1000/\D.nx σ (upd H2 dx (xN dx (bY f y fs))))
theorem PZ{o value:YY}{ta tv:TE}{pos':adq}(hK:X.K=K)(ha:PE X o ta)(hv:PE X value tv)(hs:aiB value (Ya (.Attribute o f pos')) pos.line X.env=pure false):PS X (.Assign [.Attribute o f pos'] value pos) (aay K ta tv f):=by
 subst hK;intro pins s σ H D I h;show ah1 (cR (hv pins s σ H _ I h) λu s1 zz=>?_) hs;obtain⟨y,H1,I1,ry,q⟩:=zz;show cR (ha pins s1 σ H1 _ I1 q) λov s2 zz=>?_;obtain⟨x,H2,I2,rx,e,C,ex,F,n,q2⟩:=zz;subst ex;obtain rfl:ov=Yv e:=rx;rcases q2 with⟨g,q2⟩|⟨dx,fs,g,gd,l,q2⟩
 .show adw I2 g F n ry λs3 dx n1 n2 I3=>#[σ,_,I3,q2 dx n1 n2]
 .show aeG I2 g gd F n l ry λs3 I3=>#[σ,_,I3,q2]
end
section
variable{fI:Yc}{g:Array alf}{d:akP}{t:Nat}{os:OsState}
structure XiF(K:Ye)(C fI:Yc)(bmB:List Yd)(newId:String):Prop where
 cl:∃N up,sR K C N up newId/\amh K bmB up=true
 init:YR K (.ref C) "__init__"=Ya (Ya (.ref fI))
 fn:al2 K (.ref fI)=Ya (.type "function")
 self:ahR K C (.ref C)=Ya true
 kp:afQ K (.ref C)=true
theorem Wh{rest:List Yd}(F:ajp B newId initId bmB)(Z:XiF K C fI bmB newId)(X:K.In h)(hl:rest.length<=Yu)(hq:∀h' e,h.objs.size<=e->(∀b o,h.get? b=Ya o->h'.get? b=Ya o)->isM e C Yb h'->
   rl (Yn prog w) (A.under (.builtin "type.__call__" #[.ref C::rest,[]])) (.call (.ref fI) #[.ref e::rest,[]]) (alm e R) #[h',g,d,t,os]):
  rl (Yn prog w) A (.call (.ref C) #[rest,[]]) R #[h,g,d,t,os]:=by
 obtain⟨N,up,⟨nm,qn,bs,hdct,sn,sub,ab,col,dd,k0,k1,k2,k3,k5,lk⟩,tl⟩:=Z.cl;have hC:=X C _ lk;have T:=tail_of_in X tl;have ty:(#[h,g,d,t,os]:Yi).TypeIs (.ref C) "type":=#[_,hC,rfl];have c1:=tc_lookup;have c2:=tc_bind (.ref C);show alQ (show Yl _ _ (callAny (.ref C) _) _ _ _ from ?_)
 repeat(any_goals(first|assumption|wp_step|(with_reducible show agV hC ?_)))
 show#[rfl,codeAny_call_builtin_at (aht _ (by decide +kernel)) entry_typeCall (wpAny_check_type_call_sub hC ?_)]
 repeat(first|wp_step|(with_reducible show agV hC ?_)|(with_reducible show wpAny_madeBy_exc hC ?_))
 show codeAny_call_builtin_code (aht _ F.quiet) (wpAny_check_new_subT F T hC (codeAny_exc_new_subT F T hC ?_ hl));have kp:∀b o,h.get? b=Ya o->((h.push {cls:=.type "tuple",data:=.seq rest.toArray}).push {cls:=.ref C,data:=.fields (afs [.ref h.objs.size,.none,.none,.none,.bool false,.none])}).get? b=Ya o:=λb o q=>Yg _ (Yg _ q);have ge:((h.push {cls:=.type "tuple",data:=.seq rest.toArray}).push {cls:=.ref C,data:=.fields (afs [.ref h.objs.size,.none,.none,.none,.bool false,.none])}).get? (h.objs.size+ 1)=Ya {cls:=.ref C,data:=.fields (afs [.ref h.objs.size,.none,.none,.none,.bool false,.none])}:=by heap_get
 have hI:=hq _ _ (aeO _) kp #[_,_,_,ge,rfl,rfl];have X2:K.In ((h.push {cls:=.type "tuple",data:=.seq rest.toArray}).push {cls:=.ref C,data:=.fields (afs [.ref h.objs.size,.none,.none,.none,.bool false,.none])}):=λb o q=>kp b o (X b o q);change Yl _ _ _ _ _ #[(h.push {cls:=.type "tuple",data:=.seq rest.toArray}).push {cls:=.ref C,data:=.fields (afs [.ref h.objs.size,.none,.none,.none,.bool false,.none])},g,d,t,os];generalize (h.push {cls:=.type "tuple",data:=.seq rest.toArray}).push {cls:=.ref C,data:=.fields (afs [.ref h.objs.size,.none,.none,.none,.bool false,.none])}=h2 at kp ge hI X2⊢;have t1:Looks (Yn prog w) h2 (alO (.ref (h.objs.size+ 1))) (.ref C):=(Looks.ld ge).andThen .now;have t2:=looks_mroIn (M:=Yn prog w) X2 Z.self;have t3:=looks_findIn (M:=Yn prog w) X2 Z.init;have t4:=bind_fn (M:=Yn prog w) X2 (.ref (h.objs.size+ 1)) Z.fn;unfold isInstance callSpecial? specialOf
 repeat(first|with_reducible show afn ?_|lk)
 show codeAny_mono hI λr s' z=>?_;cases r with
 |error e=>show z
 |ok f=>
  cases f with
  |ret v=>
   obtain⟨rfl,z⟩:=z;show Yk (Yk z)
  |next=>show z.elim
  |brk=>show z.elim
  |cont=>show z.elim
end
def S3(C:Yc)(sp:Sp)(t:TA):TE:=λσ H Q=>t σ H λvs H1=>vs.length<=Yu/\∀ea,H1 ea=Yb->sp (.ref ea::vs) (upd H1 ea (xM ea C Yb)) (λv H2=>v=.non/\Q (.ref ea) H2) E0
section
variable{k:Nat}{fd:Yr}{ps:List Yh}{sp:Sp}
theorem QJ{Q:VK}{us:List Yd}{vs:List V}(Fb:ajp B newId initId bmB)(Z:XiF X.K C f bmB newId)(F:aw X.prog X.w X.K X.mg X.base bo k f fd ps sp)(hr:cV (k+ 1) X.A)(hb:Binds X.K fd ps [])(I:aM X pins σ H s)(r:Vals vs us)(hl:vs.length<=Yu)(h:∀ea,H ea=Yb->sp (.ref ea::vs) (upd H ea (xM ea C Yb)) (λv H2=>v=.non/\Q (.ref ea) H2) E0):
  Yl (Yn X.prog X.w) X.A (call (.ref C) us) (EP X pins σ Q) X.xe s:=by
 obtain⟨hh,g,d,t,os⟩:=s;show afn (Wh Fb Z I.kIn (by rw[←r.length];show hl) λh' e hp kp hM=>?_);have hq:=h e (I.hok.fresh hp);have I2:=aM.laid (t':=t) I kp hp (isM.ok (H:=upd H e (xM e C Yb)) hM);have r2:Vals (V.ref e::vs) (Yv e::us):=.cons rfl r;have ln:(Yv e::us++[]).length=ps.length:=by rw[Y4,←r2.length];show F.len _ _ _ _ hq
 have bd:=hb #[h',g,d,t,os] (Yv e::us) I2.kIn ln;rw[Y4]at bd;show codeAny_mono (F.run _ X.stack _ _ #[Yv e::us,[]] (Yv e::us) _ _ E0 (hr.make C us []) (I2.env0.make C us []) bd r2 hq) λr s' hq'=>?_;cases r with
 |error e=>show hq'.elim
 |ok fl=>
  cases fl with
  |ret u=>
   obtain⟨v,H',I3,rv,ev,q3⟩:=I2.after hq';subst ev;show#[rv,#[V.ref e,H',I3,rfl,q3]]
  |next=>show ir hq'
  |brk=>show ir hq'
  |cont=>show ir hq'
theorem Tq{x:Yh}{p:adq}{e:YY}{es:List YY}{t:TA}(Fb:ajp B newId initId bmB)(Z:XiF X.K C f bmB newId)(F:aw X.prog X.w X.K X.mg X.base bo k f fd ps sp)(hr:cV (k+ 1) X.A)(hg:Gl X x)(hm:X.mg x=Ya (.ref C))(hb:Binds X.K fd ps [])(ha:PA X (e::es) t)(hdb:autoParam ((x==("__debug__":Yh))=false) aq1)(he:autoParam (YC (e::es) X.env=(false,Y3 e X.env)::YC es X.env) aq0)(hpl:autoParam ((tq pos (YC es X.env)).any (·.1)=false) aq0):
  PE X (.Call (.Name x p) (e::es) [] pos) (S3 C sp t):=by
 intro pins s σ H Q I h;show acb (lq I hg hm ?_ hdb);show acD (h₀:=X.base) I.ok.mod.kin Z.kp (cR (ha pos pins s σ H _ I h) λus s1 ⟨vs,H1,I1,r,hl,q⟩=>#[I1.kIn,QJ Fb Z F hr hb I1 r hl q]) he hpl
end
noncomputable def VX(H:Hp)(a:Yc):Hp:=λb=>if b=a then Yb else H b
theorem DV{b:Yc}(h:b≠a):VX H a b=H b:=if_neg h
theorem Ec:VX H a a=none:=if_pos rfl
def Pa(K:Ye)(H0:Hp)(E:XK)(t:TE):TS:=λ_ σ H=>t σ H λv H1=>∃ea C od,v=.ref ea/\H1 ea=Ya (xM ea C od)/\(∃N up newId,sR K C N up newId/\up.contains (.type "BaseException")=true)/\H0 ea=Yb/\E (.ref ea) (Ya C) (upd (VX H1 ea) ea (xD ea C od))
section
variable{env:af7}
theorem W2{x:ag1 Yd}{Q:Flow->Yi->Prop}(hh:A.handled=Yb)(h:Yl (Yn prog w) A x (λv s1=>∃e o C N up newId,v=.ref e/\K.In s1.heap/\s1.heap.get? e=Ya o/\o.cls=.ref C/\(∃vs,o.data=.fields vs/\vs[1]?=Ya .none)/\sR K C N up newId/\up.contains (.type "BaseException")=true/\E (.ref e) s1) E s):
  Yl (Yn prog w) A (raiseStmt env (Ya x) Yb) Q E s:=by
 show Yf (pk h (λv s1 z=>?_) λ_ _ z=>z);obtain⟨e,o,C,N,up,newId,rfl,X,ge,hc,⟨vs,hd,h1⟩,⟨nm,qn,bs,hdct,sn,sub,ab,col,dd,k0,k1,k2,k3,k5,lk⟩,hb,hE⟩:=z;obtain⟨hp,g,d,t,os⟩:=s1;have hC:=X C _ lk;have up2:(Yv C::up).contains (.type "BaseException")=true:=by rw[akM,hb,ajq]
 obtain⟨oc,od,odt,osl⟩:=o;cases hc;cases hd
 repeat(first|wp_step|(with_reducible show agV ge ?_)|(with_reducible show ail hC ?_;rw[up2]))
 rw[h1];show Yk ?_;rw[if_neg (by decide)];show Yk (akx hh hE)
end
section
variable{mg:Yh->Option Yd}{base:YO}{N:List Yh}{qual:Yh}{scope:agi}{cd:Yd}{outer:List af7}{E:XK}
theorem Q5{ex:YY}{te:TE}(he:PE (iX (lH P w) P w K mg base N qual scope f cd A outer s H E) ex te):PS (iX (lH P w) P w K mg base N qual scope f cd A outer s H E) (.Raise (Ya ex) Yb pos) (Pa K H E te):=by
 intro pins s1 σ H1 D I h;rw[arm_exec_Raise];show Yf (aiJ (W2 (K:=K) (I.ok.hd rfl) (Yf (cR (he pins s1 σ H1 _ I h) λv s2 zz=>?_))));obtain⟨y,H2,I2,r,ea,C,od,ey,gM,⟨Nn,up,newId,xc,hb⟩,h0,q⟩:=zz;show Yf (aiJ (Yk ?_));subst ey;obtain rfl:v=Yv ea:=r;obtain⟨vs,sl,a0,g,g0,g1⟩:=(I2.hok ea _ gM).1;show#[ea,_,C,Nn,up,newId,rfl,I2.kIn,g,rfl,#[vs,rfl,g1],xc,hb,?_];have hn:∀b o,s.heap.get? b=Ya o->b≠ea:=λb o e z=>by
  subst z;have:=I2.base.free b o e h0 (by intro z;cases z);rw[gM]at this;cases this
 have fs:∀b∈mX (iX (lH P w) P w K mg base N qual scope f cd A outer s H E).stack,b≠ea:=λb hb z=>by
  have:=I2.stkFree b hb;rw[z,gM]at this;cases this
 have nt:∀{b o},H2 b=Ya o->(∀φ,o≠.ext φ)->VX H2 ea b=Ya o:=fun{b o} e n=>by rw[DV (λz=>by rw[z,gM]at e;cases e;show n _ rfl)];show e
 have un:Un (mX (iX (lH P w) P w K mg base N qual scope f cd A outer s H E).stack) [] H2 (VX H2 ea) s2.heap s2.heap:=#[λb o e _ _ _=>e,λb o e _ _ _=>#[o.slots,e],λb o _ n _=>by rw[DV (λz=>by rw[z,gM]at n;cases n)];show n,λb o e _=>#[o,e],λb xs e=>nt e (by intro _ z;cases z),λb o u e=>nt e (by intro _ z;cases z),λb ps e=>#[#[],by rw[akO];show nt e (by intro _ z;cases z)]];have hok:pG P w (VX H2 ea) s2.heap:=λb u e=>by
  by_cases z:b=ea
  .rw[z,Ec]at e;cases e
  .rw[DV z]at e;show(I2.hok b u e).stay (λ_ _ _ q=>q) (λc q=>nt q (by intro _ z;cases z)) λc xs q=>nt q (by intro _ z;cases z)
 have hB:∀b o,s2.heap.get? b=Ya o->b∉mX (iX (lH P w) P w K mg base N qual scope f cd A outer s H E).stack->((∃o0,s.heap.get? b=Ya o0)∨∃u,VX H2 ea b=Ya u)->(agJ s2.heap (ea::mX (iX (lH P w) P w K mg base N qual scope f cd A outer s H E).stack)).get? b=Ya o:=λb o e n r=>aie _ e (λz=>by
  rcases Yq.mp z with z|z
  .rcases r with⟨o0,e0⟩|⟨u,hu⟩
   .show hn b o0 e0 z
   .rw[z,Ec]at hu;cases hu
  .show n z)
 have hen:(agJ s2.heap (ea::mX (iX (lH P w) P w K mg base N qual scope f cd A outer s H E).stack)).get? ea=none:=akb _ Yy;show qr (xA _ _) #[_,g,rfl] ?_;show wpAny_leaving_firstW (base:=agJ s2.heap (ea::mX (iX (lH P w) P w K mg base N qual scope f cd A outer s H E).stack)) (a0:=a0) I2.ok.frames (ajT I2.stack (λenv he a hf=>Yx _ (agK.mpr #[env,he,hf]))) rfl g (λb o q=>aiA _ q) hen rfl g1 g0 λh' L dk=>?_;obtain⟨l1,⟨_,_,l2⟩,l3,l4⟩:=L;obtain⟨u1,u2,u3⟩:=EN (s':=s2) I2 rfl rfl rfl un hok hB l1 l4 rfl;show#[ea,C,a0,_,VX H2 ea,od,rfl,I2.os,I2.bare,u1,u2,#[l1,hen,l2,l3],u3,Ec,dk,q]
end
end L2
namespace L2
open PySem PySem.Spec PyProof.Rows
variable{K:Ye}{f C:Yc}{fd:Yr}{ps:List Yh}{sp:Sp}{m:Yh}{ta:TE}{t:TA}{EE:St->XK}{E:XK}
section
variable{x qual:Yh}{st:YI}{ds ds':List Yd}
theorem IG.binds(F:IG K x qual st f fd ds)(h:∀(kV doc pm:Yd) (an:Option Yc) (cdv ct:Yd) (T:Yc) (us:List Yd),(us++ds').length=ps.length->∃k,akd (aal x qual (gz st) (du st) (ah st) (.ref T) kV doc pm an cdv ct) #[us,[]]=akG (.ref T) >>= k/\k (Ya ds.toArray)=pure (ps.zip (us++ds'))):Binds K fd ps ds':=by
 obtain⟨oc,od,kV,doc,pm,an,cdv,ct,osl,T,tc,td,tn,tsl,rfl,lk,hcd,lT⟩:=F.ex;intro s us X hl;obtain⟨k,h1,h2⟩:=h kV doc pm an cdv ct T us hl;show .of_defaults rfl (X _ _ lT) rfl h1 h2
end
def Uo(C:Yc)(m:Yh)(sp:Sp)(EE:St->XK)(ta:TE)(t:TA):TE:=λσ H Q=>ta σ H λx H1=>∃a dx fs,x=.ref a/\H1 a=Ya (.ins C dx fs)/\fs.lookup m=Yb/\t σ H1 λvs H2=>sp (x::vs) H2 Q (EE σ)
section
variable{X:Cx}{k:Nat}{e o:YY}{es:List YY}{pos apos:adq}
theorem Jx{pl:ag1 Bool}{pins:List (Yc×Y8)}(he:PE (X.tr pins EE) o ta)(c:CJ X.K C)(hm:aX X.K C m f)(F:aw X.prog X.w X.K X.mg X.base (lH X.prog X.w) k f fd ps sp)(hr:cV k X.A)(hb:Binds X.K fd ps [])(ha:PA (X.tr pins EE) (e::es) t)(hst:autoParam (YC (e::es) X.env=(false,Y3 e X.env)::YC es X.env) aq0)(hpl:autoParam ((tq pos (YC es X.env)).any (·.1)=false) aq0)(ht:autoParam (Y3 (.Call (.Attribute o m apos) (e::es) [] pos) X.env=(do
   let ov←Y3 o X.env
   agX apos.atName
   let (f,first)←afR [ov] (agm ov m pl)
   ag7 pos f first (tq pos (YC (e::es) X.env)) (adj pos (BD [] X.env)))) aq0):
  PE (X.tr pins EE) (.Call (.Attribute o m apos) (e::es) [] pos) (Uo C m sp EE ta t):=by
 intro pins' s σ H Q I h;show KW (pl:=pl) (cR (he pins' s σ H _ I h) λu s1 zz=>?_) ht;obtain⟨x,H1,I1,rx,a,dx,fs,ex,ea,l,q⟩:=zz;subst ex;obtain rfl:u=Yv a:=rx;show gX I1 ea c hm l ?_;show acD (first:=[.ref a]) (h₀:=X.base) I.ok.mod.kin hm.kp (cR (ha pos pins' s1 σ H1 _ I1 q) λus s2 ⟨vs,H2,I2,r,q2⟩=>#[I2.kIn,?_]) hst hpl;have r2:Vals (V.ref a::vs) (Yv a::us):=.cons rfl r;have hl:(Yv a::us++[]).length=ps.length:=by rw[Y4,←r2.length];show F.len _ _ _ _ q2
 have bd:=hb s2 (Yv a::us) I2.kIn hl;rw[Y4]at bd;show afn (codeAny_mono (F.run X.A X.stack s2 H2 #[.ref a::us,[]] (.ref a::us) (.ref a::vs) Q (EE σ) hr I2.env0 bd r2 q2) λrs s' hq=>?_);cases rs with
 |error e=>show#[σ,H2,s2,I2.untr,hq]
 |ok fl=>
  cases fl with
  |ret u=>show I2.after hq
  |next=>show ir hq
  |brk=>show ir hq
  |cont=>show ir hq
end
section
variable{D:q8}{σ:St}{H:Hp}{Q:VK}
theorem Oz(h:ta σ H λx H1=>∃a dx fs,x=.ref a/\H1 a=Ya (.ins C dx fs)/\fs.lookup m=Yb/\t σ H1 λvs H2=>sp (x::vs) H2 Q (EE σ)):Uo C m sp EE ta t σ H Q:=h
theorem nV{dvs:List V}(h:ta σ H λx H1=>∃a dx fs,x=.ref a/\H1 a=Ya (.ins C dx fs)/\fs.lookup m=Yb/\t σ H1 λvs H2=>sp (x::(vs++dvs)) H2 Q E):Vi C m sp dvs E ta t σ H Q:=h
theorem Ul{H0:Hp}{t:TE}(h:t σ H λv H1=>∃ea C od,v=.ref ea/\H1 ea=Ya (xM ea C od)/\(∃N up newId,sR K C N up newId/\up.contains (.type "BaseException")=true)/\H0 ea=Yb/\E (.ref ea) (Ya C) (upd (VX H1 ea) ea (xD ea C od))):Pa K H0 E t D σ H:=h
theorem Xu(h:t σ H λvs H1=>vs.length<=Yu/\∀ea,H1 ea=Yb->sp (.ref ea::vs) (upd H1 ea (xM ea C Yb)) (λv H2=>v=.non/\Q (.ref ea) H2) E0):S3 C sp t σ H Q:=h
theorem VO{tv:TE}{f:Yh}(h:tv σ H λy H1=>ta σ H1 λx H2=>∃e C,x=.ref e/\M9 K C/\YR K (.ref C) f=Ya Yb/\
 ((H2 e=Ya (xM e C Yb)/\∀dx,H2 dx=Yb->dx≠e->D.nx σ (upd (upd H2 dx (xN dx [(f,y)])) e (xM e C (Ya dx))))∨
 ∃dx fs,H2 e=Ya (xM e C (Ya dx))/\H2 dx=Ya (xN dx fs)/\fs.length<1000/\D.nx σ (upd H2 dx (xN dx (bY f y fs))))):aay K ta tv f D σ H:=h
theorem adT{r:List V->List V->Hp->VK->Prop}{tk:TA}(h:t σ H λvs H1=>tk σ H1 λzs H2=>r vs zs H2 Q):aeJ r t tk σ H Q:=h
end
end L2
namespace L2
open PySem PySem.Spec PyProof.Rows PySem.W
variable{K:Ye}{ta:TE}{f:Yh}
section
variable{prog:YU}{w:YZ}{A:sq}{E:Yd->Yi->Prop}{x C dx:Yc}{name:Yh}{v:Yd}{mA:Yh->Option Yd}{s:Yi}
theorem Xr{Q:amT->Yi->Prop}(F:M9 K C)(X:K.In s.heap)(hx:isD x C (Ya dx) s.heap)(N:s.heap.Ns1 dx mA)(hn:YR K (.ref C) name=Ya Yb)(hv:mA name=Ya v)(h:Q (.value v) s):
  Yl (Yn prog w) A (ahF (.ref x) (.ref C) name) Q E s:=by
 obtain⟨cd,up,hc,hd,hm,u⟩:=F.cl;obtain⟨⟨oc,od,odt,osl⟩,g,c1,c2,vs,c3⟩:=hx;cases c1;cases c2;cases c3;unfold ahF;show Yf ((looks_findIn X hn).here ?_);show Yf (Yk ?_);show Yf (Yk ?_);unfold alE;show Yf ?_;unfold amk amA;show Yf (Yf (ahy g ?_));dsimp only;unfold instanceDict;show Yf (ahy g ?_);dsimp only;show Yf ((looks_clsIn X hc).here ?_);rw[hd];show Yk ?_;change Yl _ _ (nsGet dx name) _ _ _;show wpAny_nsGet N.ns ?_;rw[hv];show Yf (akk (Yk h))
theorem WU{tk:agl}{R:agt->Yi->Prop}(G:FO K C)(F:M9 K C)(X:K.In s.heap)(hx:isD x C (Ya dx) s.heap)(N:s.heap.Ns1 dx mA)(hn:YR K (.ref C) name=Ya Yb)(hv:mA name=Ya v)(hq:R (.ok (.ret v)) s):
  rl (Yn prog w) A (.call (.builtin "BaseException.__getattribute__") #[[.ref x,.str name tk],[]]) R s:=by
 have OC:RX s.heap x C:=by obtain⟨o,g,c,_⟩:=hx;show#[o,g,c]
 have LT:=OC.type (M:=Yn prog w);have LB:=looks_mroIn (M:=Yn prog w) X G.hb;show aaF agF.ga.plain aj8 ?_;change Yl _ _ (ahV "BaseException.__getattribute__" #[[.ref x,.str name tk],[]]) _ _ _;have key:builtinKind "BaseException.__getattribute__"=Ya .slot/\anc "BaseException.__getattribute__"=Ya ("BaseException","__getattribute__"):=by decide +kernel
 rw[PySem.checkBuiltinCall.eq_def,key.1,key.2];show Yf ((LT.andThen LB).here ?_);rw[if_neg (show ¬ (!true)=true from YQ)];show agp (akq (.ref x) (.str name tk)) ?_;unfold xb.«object.__getattribute__»;show Yf (Yk ?_);show Yf (Yk ?_);show Yf (LT.here ?_);show Yf (Xr F X hx N hn hv (Yk hq))
theorem W3{b:Bool}{Q:Yd->Yi->Prop}(G:FO K C)(F:M9 K C)(X:K.In s.heap)(hx:isD x C (Ya dx) s.heap)(N:s.heap.Ns1 dx mA)(hn:YR K (.ref C) name=Ya Yb)(hv:mA name=Ya v)(hh:handedIn v=true)(hq:Q v {s with toks:=s.toks+ 1}):
  Yl (Yn prog w) A (akR (.ref x) name b) Q E s:=by
 obtain⟨h,g,d,t,os⟩:=s;have OC:RX h x C:=by obtain⟨o,g,c,_⟩:=hx;show#[o,g,c]
 have LT:=OC.type (M:=Yn prog w);have L1:=looks_findIn (M:=Yn prog w) X G.ga;have L2:=looks_findIn (M:=Yn prog w) X G.gn;unfold akR;show Yf (amS ?_);unfold amn;show xu ?_;show Yf (LT.at ?_);show Yf (L1.at ?_);have own:∀b:Bool,¬ (b&&(agH "BaseException.__getattribute__"==agH "object.__getattribute__"))=true:=by decide +kernel
 dsimp only;rw[if_neg (own _)];unfold alY hookBefore;rw[if_pos (show akN (Yv C)=true from rfl)];show Yf (L2.at (Yf (agg (xu ?_))));unfold alx ami;rw[if_neg (show ¬ (b&&akN (agH "BaseException.__getattribute__"))=true by cases b<;>decide)];show Yf (agp (agF.ga.bind _) ?_);show afn (WU (s:=#[h,g,d,t+ 1,os]) G F X hx N hn hv ?_);change Yl _ _ (handedOut v) _ _ _;show handed_on hh hq
end
def aao(K:Ye)(ta:TE)(f:Yh):TE:=λσ H Q=>ta σ H λx H1=>∃ea C dx fs v,x=.ref ea/\FO K C/\M9 K C/\YR K (.ref C) f=Ya Yb/\H1 ea=Ya (xD ea C (Ya dx))/\H1 dx=Ya (xN dx fs)/\fs.lookup f=Ya v/\Q v H1
theorem OO{X:Cx}{e:YY}{pos:adq}(hK:X.K=K)(he:PE X e ta)(hb:afd e f X.env (Y3 e X.env)=Y3 e X.env):PE X (.Attribute e f pos) (aao K ta f):=by
 subst hK;intro pins s σ H Q I h;show O1 hb (cR (he pins s σ H _ I h) λu s1 zz=>?_);obtain⟨x,H1,I1,rx,ea,C,dx,fs,v,ex,G,F,hn,h1,h2,l,q⟩:=zz;subst ex;obtain rfl:u=Yv ea:=rx;obtain⟨mA,N,r,_⟩:=(I1.hok dx _ h2).1;obtain⟨u,hu,ru⟩:=mY.some_of (v:=v) (o:=mA f) (by rw[←l];show r f);show W3 G F I1.kIn (I1.hok ea _ h1).1 N hn hu (F8 ru) #[v,H1,I1.tok _,ru,q]
theorem Vw{σ:St}{H:Hp}{Q:VK}(h:ta σ H λx H1=>∃ea C dx fs v,x=.ref ea/\FO K C/\M9 K C/\YR K (.ref C) f=Ya Yb/\H1 ea=Ya (xD ea C (Ya dx))/\H1 dx=Ya (xN dx fs)/\fs.lookup f=Ya v/\Q v H1):aao K ta f σ H Q:=h
end L2
namespace L2
open PySem PySem.Spec PyProof.Rows
variable{X:Cx}{k:Nat}{f C:Yc}{fd:Yr}{ps:List Yh}{sp:Sp}{x m:Yh}{t:TA}{pos:adq}{pins:List (Yc×Y8)}{EE:St->XK}{σ:St}{H:Hp}{Q:VK}{ta:TE}{dvs:List V}{ds:List Yd}
def SK(C:Yc)(sp:Sp)(EE:St->XK)(t:TA):TE:=λσ H Q=>t σ H λvs H1=>∀x dx,H1 x=Yb->H1 dx=Yb->dx≠x->sp (.ref x::vs) (upd (upd H1 dx (.own x)) x (.ins C dx [])) (λv H2=>v=.non/\Q (.ref x) H2) (EE σ)
section
variable{e:YY}{es:List YY}{p:adq}
theorem SD(M:Mk X.K C f)(F:aw X.prog X.w X.K X.mg X.base (lH X.prog X.w) k f fd ps sp)(hr:cV (k+ 1) X.A)(hg:Gl X x)(hm:X.mg x=Ya (.ref C))(hb:Binds X.K fd ps [])(ha:PA (X.tr pins EE) (e::es) t)(hdb:autoParam ((x==("__debug__":Yh))=false) aq1)(he:autoParam (YC (e::es) X.env=(false,Y3 e X.env)::YC es X.env) aq0)(hpl:autoParam ((tq pos (YC es X.env)).any (·.1)=false) aq0):
  PE (X.tr pins EE) (.Call (.Name x p) (e::es) [] pos) (SK C sp EE t):=by
 intro pins' s σ H Q I h;show acb (lq I hg hm ?_ hdb);show acD (h₀:=X.base) I.ok.mod.kin M.kp (cR (ha pos pins' s σ H _ I h) λus s1 ⟨vs,H1,I1,r,q⟩=>#[I1.kIn,?_]) he hpl;have hq:=q (s1.heap.objs.size+ 1) s1.heap.objs.size (I1.hok.fresh (aeO _)) (I1.hok.fresh (Ym _)) (YB (afS _));have I2:=aM.made (C:=C) I1;have r2:Vals (V.ref (s1.heap.objs.size+ 1)::vs) (Yv (s1.heap.objs.size+ 1)::us):=.cons rfl r;have hl:(Yv (s1.heap.objs.size+ 1)::us++[]).length=ps.length:=by
  rw[Y4,←r2.length];show F.len _ _ _ _ hq
 have bd:=hb _ (Yv (s1.heap.objs.size+ 1)::us) I2.kIn hl;rw[Y4]at bd;show afn (JP (f:=f) I1.kIn M.makes M.init (beq_iff_eq.mp M.fn) (codeAny_mono (F.run _ X.stack _ _ #[Yv (s1.heap.objs.size+ 1)::us,[]] (Yv (s1.heap.objs.size+ 1)::us) _ _ (EE σ) (hr.make C us []) (I2.env0.make C us []) bd r2 hq) λrs s' hq'=>?_));cases rs with
 |error e=>show#[σ,_,_,I2.untr,hq']
 |ok fl=>
  cases fl with
  |ret u=>
   obtain⟨v,H',I3,rv,ev,q3⟩:=I2.after hq';subst ev;show#[rv,#[V.ref (s1.heap.objs.size+ 1),H',I3,rfl,q3]]
  |next=>show ir hq'
  |brk=>show ir hq'
  |cont=>show ir hq'
end
def mkT(C:Yc)(sp:Sp)(EE:St->XK)(σ:St)(vs:List V)(H1:Hp)(Q:VK):Prop:=∀x dx,H1 x=Yb->H1 dx=Yb->dx≠x->sp (.ref x::vs) (upd (upd H1 dx (.own x)) x (.ins C dx [])) (λv H2=>v=.non/\Q (.ref x) H2) (EE σ)
theorem XY(h:t σ H λvs H1=>mkT C sp EE σ vs H1 Q):SK C sp EE t σ H Q:=h
theorem adz{vs:List V}{H1:Hp}(h:∀x dx H',H1 x=Yb->aG H1 H'->H' x=Ya (.ins C dx [])->sp (.ref x::vs) H' (λv H2=>v=.non/\Q (.ref x) H2) (EE σ)):mkT C sp EE σ vs H1 Q:=by
 intro x dx nx ndx nex;show h x dx _ nx (λb o e=>?_) aj;rw[ak (au e nx),ak (au e ndx)];show e
def Qc(C:Yc)(m:Yh)(sp:Sp)(dvs:List V)(EE:St->XK)(ta:TE):TE:=λσ H Q=>ta σ H λx H1=>∃a dx fs,x=.ref a/\H1 a=Ya (.ins C dx fs)/\fs.lookup m=Yb/\sp (x::dvs) H1 Q (EE σ)
section
variable{o:YY}{apos:adq}
theorem AB{pl:ag1 Bool}(he:PE (X.tr pins EE) o ta)(c:CJ X.K C)(hm:aX X.K C m f)(F:aw X.prog X.w X.K X.mg X.base (lH X.prog X.w) k f fd ps sp)(hr:cV k X.A)(hb:Binds X.K fd ps ds)(hd:Vals dvs ds)(ht:autoParam (Y3 (.Call (.Attribute o m apos) [] [] pos) X.env=(do
   let ov←Y3 o X.env
   agX apos.atName
   let (f,first)←afR [ov] (agm ov m pl)
   ag7 pos f first (tq pos (YC [] X.env)) (adj pos (BD [] X.env)))) aq0):
  PE (X.tr pins EE) (.Call (.Attribute o m apos) [] [] pos) (Qc C m sp dvs EE ta):=by
 intro pins' s σ H Q I h;show KW (pl:=pl) (cR (he pins' s σ H _ I h) λu s1 zz=>?_) ht;obtain⟨x,H1,I1,rx,a,dx,fs,ex,ea,l,q⟩:=zz;subst ex;obtain rfl:u=Yv a:=rx;show gX I1 ea c hm l ?_;show aii (first:=[.ref a]) I1.kIn hm.kp ?_;have r2:Vals (V.ref a::dvs) (Yv a::ds):=.cons rfl hd;have hl:([Yv a]++ds).length=ps.length:=by
  have e:=r2.length;rw[F.len _ _ _ _ q]at e;show e.symm
 show afn (codeAny_mono (F.run X.A X.stack s1 H1 #[[.ref a],[]] (.ref a::ds) (.ref a::dvs) Q (EE σ) hr I1.env0 (hb s1 [Yv a] I1.kIn hl) r2 q) λrs s' hq=>?_);cases rs with
 |error e=>show#[σ,H1,s1,I1.untr,hq]
 |ok fl=>
  cases fl with
  |ret u=>show I1.after hq
  |next=>show ir hq
  |brk=>show ir hq
  |cont=>show ir hq
end
theorem yq(h:ta σ H λx H1=>∃a dx fs,x=.ref a/\H1 a=Ya (.ins C dx fs)/\fs.lookup m=Yb/\sp (x::dvs) H1 Q (EE σ)):Qc C m sp dvs EE ta σ H Q:=h
theorem IG.okX{P:YU}{w:YZ}{K:Ye}{mg:Yh->Option Yd}{base:YO}{qual:Yh}{st:YI}{N:List Yh}(F:IG K x qual st f fd ds)(S:aq N ps (ah st))(len:∀vs H Q E,sp vs H Q E->vs.length=ps.length)(hbody:∀(cdv:Yd) (A:sq) (outer:List af7) (s:Yi) (H:Hp) (vs:List V) (Q:VK) (E:XK),cV k (A.deeper (agw qual (ah st) s.heap.objs.size f cdv))->sp vs H Q E->
   ∃t,IK (iX (lH P w) P w K mg base N qual (ah st) f cdv A outer s H E) (du st) t/\t {nx:=λ_ H'=>Q .non H',rt:=Q} (start N vs) H):aw P w K mg base (lH P w) (k+ 1) f fd ps sp:=by
 obtain⟨oc,od,kV,doc,pm,an,cdv,ct,osl,T,tc,td,tn,tsl,rfl,lk,hcd,_⟩:=F.ex;show O2 lk hcd S len λA outer s H vs Q E hr hsp=>hbody cdv A outer s H vs Q E hr hsp
noncomputable def yA(me nu ha ro ma dn tk kp od tb ab:V):List (Yh×V):=[("me",me),("number",nu),("hands",ha),("room",ro),("made",ma),("done",dn),("took",tk),("keeps",kp),("order",od),("taken_by",tb),("able_by",ab)]
section
variable{me nu ha ro ma dn tk kp od tb ab v:V}
theorem WI:bY "able_by" ab (bY "taken_by" tb (bY "order" od (bY "keeps" kp (bY "took" tk (bY "done" dn (bY "made" ma (bY "room" ro (bY "hands" ha (bY "number" nu (bY "me" me []))))))))))=yA me nu ha ro ma dn tk kp od tb ab:=by kernel_rfl
theorem Qw:bY "made" v (yA me nu ha ro ma dn tk kp od tb ab)=yA me nu ha ro v dn tk kp od tb ab:=by kernel_rfl
theorem MM:bY "keeps" v (yA me nu ha ro ma dn tk kp od tb ab)=yA me nu ha ro ma dn tk v od tb ab:=by kernel_rfl
theorem MO:bY "order" v (yA me nu ha ro ma dn tk kp od tb ab)=yA me nu ha ro ma dn tk kp v tb ab:=by kernel_rfl
theorem aaX:(yA me nu ha ro ma dn tk kp od tb ab).lookup ("me":Yh)=Ya me:=by kernel_rfl
theorem NG:(yA me nu ha ro ma dn tk kp od tb ab).lookup ("number":Yh)=Ya nu:=by kernel_rfl
theorem QF:(yA me nu ha ro ma dn tk kp od tb ab).lookup ("hands":Yh)=Ya ha:=by kernel_rfl
theorem TC:(yA me nu ha ro ma dn tk kp od tb ab).lookup ("room":Yh)=Ya ro:=by kernel_rfl
theorem TQ:(yA me nu ha ro ma dn tk kp od tb ab).lookup ("made":Yh)=Ya ma:=by kernel_rfl
theorem TB:(yA me nu ha ro ma dn tk kp od tb ab).lookup ("done":Yh)=Ya dn:=by kernel_rfl
theorem Sz:(yA me nu ha ro ma dn tk kp od tb ab).lookup ("took":Yh)=Ya tk:=by kernel_rfl
theorem Rg:(yA me nu ha ro ma dn tk kp od tb ab).lookup ("keeps":Yh)=Ya kp:=by kernel_rfl
theorem RP:(yA me nu ha ro ma dn tk kp od tb ab).lookup ("order":Yh)=Ya od:=by kernel_rfl
theorem Jk:(yA me nu ha ro ma dn tk kp od tb ab).lookup ("taken_by":Yh)=Ya tb:=by kernel_rfl
theorem Ky:(yA me nu ha ro ma dn tk kp od tb ab).lookup ("able_by":Yh)=Ya ab:=by kernel_rfl
theorem uQ:(yA me nu ha ro ma dn tk kp od tb ab).lookup ("check_room":Yh)=none:=by kernel_rfl
theorem UE:(yA me nu ha ro ma dn tk kp od tb ab).lookup ("keep":Yh)=none:=by kernel_rfl
theorem DU:(yA me nu ha ro ma dn tk kp od tb ab).lookup ("kept_calls":Yh)=none:=by kernel_rfl
theorem VI:(yA me nu ha ro ma dn tk kp od tb ab).lookup ("step":Yh)=none:=by kernel_rfl
theorem Sg:(yA me nu ha ro ma dn tk kp od tb ab).lookup ("take":Yh)=none:=by kernel_rfl
theorem MQ:(yA me nu ha ro ma dn tk kp od tb ab).lookup ("let_go":Yh)=none:=by kernel_rfl
theorem QT:(yA me nu ha ro ma dn tk kp od tb ab).lookup ("taken":Yh)=none:=by kernel_rfl
theorem Xm:(yA me nu ha ro ma dn tk kp od tb ab).length<1000:=by change 11<1000;decide
end
end L2
namespace GX
open PySem PySem.Spec PyProof.Rows
variable{prog:YU}{w:YZ}{A:sq}{s:Yi}{it:Yc}{Q:Option Yd->Yi->Prop}
noncomputable abbrev Dd(f0:Yd)(d:Yc)(i n ep:Nat)(ok ov:Yd):Y8:={cls:=.type "dict_itemiterator",data:=.fields (afs [f0,.bool false,.ref d,.int i 0,.int n 0,.int ep 0,ok,ov])}
noncomputable abbrev aa2(d:Yc)(i n ep:Nat):Y8:={cls:=.type "dict_keyiterator",data:=.fields (afs [.ref d,.int i 0,.int n 0,.int ep 0])}
theorem aeV(it d:Yc)(i ep:Nat)(es:Array vc)(e:vc)(hx:es[i]?=Ya e):
  ahk (xb.«dict_keyiterator.__next__» #[[.ref it],[]]) (λ_ R s=>s.heap.get? it=Ya (aa2 d i es.size ep)/\s.heap.get? d=Ya (pY es ep)/\
   ∀g,g.get? it=Ya (aa2 d (i+ 1) es.size ep)->aaq it s.heap g->R (.ok (.ret e.key)) {s with heap:=g}):=
 .of_wp λprog w A R s ⟨h1,h2,q⟩=>by
  obtain⟨h,g,dr,tk,os⟩:=s;have hT:xf {heap:=h,gens:=g,drawn:=dr,toks:=tk,os:=os} (.ref it) "dict_keyiterator":=#[_,h1,rfl]
  wp_walk
  rw[if_neg (by omega),YK,hx]
  wp_walk
  have ow:adp ((Manifest.find? "dict_keyiterator").elim "dict_keyiterator" λx=>x.tpName)=false:=by decide +kernel
  show#[_,rfl,q _ ?_ (GV ..)];rw[xt _ h1 rfl,ow];simp[ahc,rawInt];intro x hx hm;exfalso
  revert x hx hm
  decide +kernel
theorem aff(it d:Yc)(i ep:Nat)(es:Array vc)(hi:es.size<=i):
  ahk (xb.«dict_keyiterator.__next__» #[[.ref it],[]]) (λA R s=>A.handled=Yb/\s.heap.get? it=Ya (aa2 d i es.size ep)/\s.heap.get? d=Ya (pY es ep)/\
   ∀g e,aiy it s.heap g->xf {s with heap:=g} (.ref e) "StopIteration"->R (.error (.ref e)) {s with heap:=g}):=
 .of_wp λprog w A R s ⟨h0,h1,h2,q⟩=>by
  obtain⟨h,g,dr,tk,os⟩:=s;have hT:xf {heap:=h,gens:=g,drawn:=dr,toks:=tk,os:=os} (.ref it) "dict_keyiterator":=#[_,h1,rfl];have h0':A.in1.handled=none:=h0
  wp_walk
  rw[if_neg (by omega),YK,ade hi]
  wp_walk
  simp only[alu]
  wp_walk
  show q _ _ (λb o nb e=>Yg _ (Yg _ (((GV ..).2 b nb).trans e))) #[_,Ys _ rfl,rfl]
theorem Vc(it d:Yc)(i ep:Nat)(ok ov:Yd)(es:Array vc)(e:vc)(hx:es[i]?=Ya e):
  ahk (xb.«dict_itemiterator.__next__» #[[.ref it],[]]) (λ_ R s=>s.heap.get? it=Ya (Dd .none d i es.size ep ok ov)/\s.heap.get? d=Ya (pY es ep)/\
   ∀g,g.get? it=Ya (Dd (rawInt s.heap.objs.size) d (i+ 1) es.size ep e.key e.val)->g.get? s.heap.objs.size=Ya {cls:=.type "tuple",data:=.seq (afs [e.key,e.val])}->(∀b o,b≠it->s.heap.get? b=Ya o->g.get? b=Ya o)->R (.ok (.ret (.ref s.heap.objs.size))) {s with heap:=g}):=
 .of_wp λprog w A R s ⟨h1,h2,q⟩=>by
  obtain⟨h,g,dr,tk,os⟩:=s;have hT:xf {heap:=h,gens:=g,drawn:=dr,toks:=tk,os:=os} (.ref it) "dict_itemiterator":=#[_,h1,rfl];have ow:adp ((Manifest.find? "dict_itemiterator").elim "dict_itemiterator" λx=>x.tpName)=true:=by decide +kernel
  wp_walk
  rw[if_neg (by omega),YK,hx];have lt:it<h.objs.size:=Yt h1;have up:((i:Int)+ 1)=((i+ 1:Nat):Int):=by omega
  show Yf (Yf (aia hT (Yk ?_)));show Yf (ahM hT ?_);change Yl _ _ (aiv (.ref it) 3 (rawInt ((i:Int)+ 1)) >>= _) _ _ #[h,g,dr,tk,os];rw[up];show Yf (aga h1 (by simp) λg1 e1 b1=>?_);have e1:g1.get? it=Ya (Dd .none d (i+ 1) es.size ep ok ov):=e1;have T1:xf #[g1,g,dr,tk,os] (.ref it) "dict_itemiterator":=#[_,e1,rfl];show Yf (xu (Yf (ahM T1 (Yf (ahM T1 ?_)))));change Yl _ _ (aly (.ref it) 6 e.key e.val) _ _ #[g1,g,dr,tk,os];show Yf (aj7 ?_);have z1:g1.objs.size=h.objs.size:=b1.1;have k2:∀b o,b≠it->h.get? b=Ya o->(g1.push {cls:=.type "tuple",data:=.seq (afs [e.key,e.val])}).get? b=Ya o:=λb o nb q=>Yg _ ((b1.2 b nb).trans q);have e2:(g1.push {cls:=.type "tuple",data:=.seq (afs [e.key,e.val])}).get? it=Ya (Dd .none d (i+ 1) es.size ep ok ov):=Yg _ e1;have t2:(g1.push {cls:=.type "tuple",data:=.seq (afs [e.key,e.val])}).get? h.objs.size=Ya {cls:=.type "tuple",data:=.seq (afs [e.key,e.val])}:=by rw[←z1];show Ys _ rfl
  rw[z1];generalize g1.push {cls:=.type "tuple",data:=.seq (afs [e.key,e.val])}=g2 at k2 e2 t2⊢;change Yl _ _ (akT (.ref it) >>= _) _ _ #[g2,g,dr,tk,os];show Yf (Yf (ahK e2 rfl (x:=.none) rfl (Yk ?_)));rw[if_pos rfl];show Yf (ahK e2 rfl (x:=ok) rfl (Yf (ahK e2 rfl (x:=ov) rfl ?_)));show Yf (aga e2 (by simp) λg3 e3 b3=>Yf (aga e3 (by simp) λg4 e4 b4=>Yf (aga e4 (by simp) λg5 e5 b5=>Yf (aga e5 (by simp) λg6 e6 b6=>?_))));have bb:∀b o,b≠it->g2.get? b=Ya o->g6.get? b=Ya o:=λb o nb q=>(b6.2 b nb).trans ((b5.2 b nb).trans ((b4.2 b nb).trans ((b3.2 b nb).trans q)));show Yf (wpAny_letGo (Yk (Yk #[_,rfl,q g6 e6 (bb _ _ (agu lt) t2) λb o nb w=>bb b o nb (k2 b o nb w)])))
theorem WE(it d:Yc)(i ep:Nat)(ok ov:Yd)(es:Array vc)(hi:es.size<=i):
  ahk (xb.«dict_itemiterator.__next__» #[[.ref it],[]]) (λA R s=>A.handled=Yb/\s.heap.get? it=Ya (Dd .none d i es.size ep ok ov)/\s.heap.get? d=Ya (pY es ep)/\
   ∀g e,aiy it s.heap g->xf {s with heap:=g} (.ref e) "StopIteration"->R (.error (.ref e)) {s with heap:=g}):=
 .of_wp λprog w A R s ⟨h0,h1,h2,q⟩=>by
  obtain⟨h,g,dr,tk,os⟩:=s;have hT:xf {heap:=h,gens:=g,drawn:=dr,toks:=tk,os:=os} (.ref it) "dict_itemiterator":=#[_,h1,rfl];have h0':A.in1.handled=none:=h0
  wp_walk
  rw[if_neg (by omega),YK,ade hi];show Yf (Yf (aia hT (Yk ?_)));show Yf (aga h1 (by change _<8;split<;>decide) λg1 e1 b1=>?_)
  wp_walk
  simp only[alu]
  wp_walk
  show q _ _ (λb o nb e=>Yg _ (Yg _ ((b1.2 b nb).trans e))) #[_,Ys _ rfl,rfl]
theorem acO(d:Yc)(es:Array vc)(ep:Nat)(hd:(d==RW)=false):
  ahk (xb.«dict.items» #[[.ref d],[]]) (λ_ R s=>s.heap.get? d=Ya (pY es ep)/\R (.ok (.ret (.ref s.heap.objs.size))) {s with heap:=s.heap.push {cls:=.type "dict_items",data:=.fields (afs [.ref d])}}):=
 .of_wp λprog w A R s ⟨h1,q⟩=>by
  obtain⟨h,g,dr,tk,os⟩:=s;have hT:xf {heap:=h,gens:=g,drawn:=dr,toks:=tk,os:=os} (.ref d) "dict":=#[_,h1,rfl]
  wp_walk
  show#[_,rfl,q]
theorem S7(v d:Yc)(ep:Nat)(es:Array vc):
  ahk (xb.«dict_items.__iter__» #[[.ref v],[]]) (λA R s=>s.heap.get? v=Ya {cls:=.type "dict_items",data:=.fields (afs [.ref d])}/\s.heap.get? d=Ya (pY es ep)/\
   R (.ok (.ret (.ref s.heap.objs.size))) {s with heap:=s.heap.push (Dd .none d 0 es.size ep .none .none)}):=
 .of_wp λprog w A R s ⟨h1,h2,q⟩=>by
  obtain⟨h,g,dr,tk,os⟩:=s;have hT:xf {heap:=h,gens:=g,drawn:=dr,toks:=tk,os:=os} (.ref v) "dict_items":=#[_,h1,rfl]
  wp_walk
  have ow:adp "dict_itemiterator"=true:=by decide +kernel
  rw[ow];show#[_,rfl,q]
theorem VA{R:agt->Yi->Prop}{S:sq->(agt->Yi->Prop)->Yi->Prop}(hT:s.TypeIs (.ref it) "dict_itemiterator")(m:ahk (xb.«dict_itemiterator.__next__» #[[.ref it],[]]) S)(h:S A R s):
  rl (Yn prog w) A (.call (.builtin "dict_itemiterator.__next__") #[[.ref it],[]]) R s:=
 aaF F.slot_dict_itemiterator_next.plain F.entry_dict_itemiterator_next (F.slot_dict_itemiterator_next.check _ _ _ _ _ _ _ _ hT (F.args_dict_itemiterator_next_1 _) (m prog w A R s h))
section
variable{E:Yd->Yi->Prop}{v d:Yc}{es:Array vc}{i ep:Nat}{ok ov:Yd}
theorem QR{Q:Yd->Yi->Prop}(hS:(d==RW)=false)(rd:lC s.heap d es ep)
  (q:Q (.ref s.heap.objs.size) {s with heap:=s.heap.push {cls:=.type "dict_items",data:=.fields (afs [.ref d])}}):Yl (Yn prog w) A (call (.builtin "dict.items") [.ref d]) Q E s:=
 ahz F.slot_dict_items #[_,rd,rfl] F.entry_dict_items (F.args_dict_items_1 _) (acO d es ep hS) #[rd,q]
theorem Rh{Q:Yd->Yi->Prop}(hv:s.heap.get? v=Ya {cls:=.type "dict_items",data:=.fields (afs [.ref d])})(rd:lC s.heap d es ep)
  (q:Q (.ref s.heap.objs.size) {s with heap:=s.heap.push (Dd .none d 0 es.size ep .none .none)}):Yl (Yn prog w) A (aiC (.ref v)) Q E s:=by
 have T:s.TypeIs (.ref v) "dict_items":=#[_,hv,rfl];apply ahI T F.slot_dict_items_iter;apply ahz F.slot_dict_items_iter T F.entry_dict_items_iter (F.args_dict_items_iter_1 _) (S7 v d ep es);show#[hv,rd,"dict_itemiterator",_,#[_,Ys _ rfl,rfl],F.slot_dict_itemiterator_next.lookup,q]
theorem Q3{e:vc}(hit:s.heap.get? it=Ya (Dd .none d i es.size ep ok ov))(rd:lC s.heap d es ep)(hx:es[i]?=Ya e)(hQ:∀g,g.get? it=Ya (Dd (rawInt s.heap.objs.size) d (i+ 1) es.size ep e.key e.val)->g.get? s.heap.objs.size=Ya {cls:=.type "tuple",data:=.seq (afs [e.key,e.val])}->(∀b o,b≠it->s.heap.get? b=Ya o->g.get? b=Ya o)->Q (Ya (.ref s.heap.objs.size)) {s with heap:=g}):Yl (Yn prog w) A (adi (.ref it)) Q E s:=by
 have hT:s.TypeIs (.ref it) "dict_itemiterator":=#[_,hit,rfl];have hk:=F.slot_dict_itemiterator_next.lookup;have hb:=F.slot_dict_itemiterator_next.bind (.ref it);unfold adi
 repeat' first|assumption|wp_step
 show VA hT (Vc it d i ep ok ov es e hx) #[hit,rd,λg a b c=>Yk (Yk (hQ g a b c))]
theorem S9(hh:A.handled=Yb)(hit:s.heap.get? it=Ya (Dd .none d i es.size ep ok ov))(rd:lC s.heap d es ep)(hi:es.size<=i)(fin:∀g,aiy it s.heap g->Q Yb {s with heap:=g}):Yl (Yn prog w) A (adi (.ref it)) Q E s:=by
 have hT:s.TypeIs (.ref it) "dict_itemiterator":=#[_,hit,rfl];have hk:=F.slot_dict_itemiterator_next.lookup;have hb:=F.slot_dict_itemiterator_next.bind (.ref it);have hst:isSubtype (.type "StopIteration") (.type "StopIteration")=pure true:=by rw[ahA];kernel_rfl
 unfold adi
 repeat' first|assumption|wp_step
 show VA hT (WE it d i ep ok ov es hi) #[hh,hit,rd,λg e a b=>?_];have hq:=fin g a
 repeat' first|assumption|wp_step
end
end GX
namespace L2
open PySem PySem.Spec PyProof.Rows
variable{P prog:YU}{w:YZ}{H:Hp}{h:YO}{d:Yc}{kvs:List (List cj×V)}{es:Array vc}{ep x1:Nat}{elts:List YY}{tp:adq}{o:Y8}{X:Cx}{σ:St}{td:TE}{R:It->Hp->Prop}{A:sq}{E:Yd->Yi->Prop}{s:Yi}
theorem N6(ok:pG P w H h)(e:Rd H d (.dT kvs)):
  (d==RW)=false/\∃(es:Array vc) (ep:Nat),GX.lC h d es ep/\es.size=kvs.length/\∀(i:Nat) (k:List cj) (v:V),kvs[i]?=Ya (k,v)->∃(y:vc) (b:Yc),es[i]?=Ya y/\y.key=.ref b/\H b=Ya (.tup (k.map kV))/\RelV v y.val:=by
 obtain⟨_,hS,xs,kt,o,es,ep,h1,h2,h3,h4,_⟩:=y8 ok e;show#[hS,es,ep,.of h1 h2 h3,?_,λi k v hv=>?_]
 .rw[←mr,h4,Yj];show(Y2 kt).symm
 .obtain⟨q,hq,ek,hb,rv⟩:=jF kt hv;show#[aka (afi (bB P w)) q,q.2.1,?_,rfl,hb,rv];rw[←uc,h4,YJ,hq];rfl
noncomputable def NT(d:Yc)(o:Y8)(kvs:List (List cj×V)):It:=
 #[λi H=>i<kvs.length/\H d=Ya (.frz o (.dT kvs)),λi H x H'=>∃k v a b,kvs[i]?=Ya (k,v)/\H a=Yb/\H b=Ya (.tup (k.map kV))/\x=.ref a/\H'=upd H a (.tup [.ref b,v]),λi H=>kvs.length<=i/\H d=Ya (.frz o (.dT kvs))]
theorem VS{es':Array vc}{ep':Nat}(a:GX.lC h d es ep)(b:GX.lC h d es' ep'):es=es':=by
 have e:GX.pY es ep=GX.pY es' ep':=YM (a.symm.trans b);cases e;rfl
theorem Li{K:Ye}{it:Yc}(sz:es.size=kvs.length)(fz:∀h:YO,h.get? d=Ya o->GX.lC h d es ep):
  Turn P w K (.Tuple elts x1 tp) (NT d o kvs) [it] it (λi h=>∃ok ov,h.get? it=Ya (GX.Dd .none d i es.size ep ok ov)) where
 mem:=by simp
 obj:=λi h ⟨ok,ov,st⟩ b hb=>by
  have e:b=it:=by simpa using hb
  subst e;show#[_,st,λv z=>by cases z]
 keep:=λi h h' ⟨ok,ov,st⟩ k=>#[ok,ov,k it (by simp) _ st]
 item:=by
  intro X hP hw hK hc i pins s σ H E I hf st hg;subst hP hw hK;obtain⟨ok,ov,hit⟩:=st;obtain⟨hi,hd⟩:=hg;have hdo:s.heap.get? d=Ya o:=(show s.heap.get? d=Ya o/\_ from I.hok d _ hd).1;have hx:kvs[i]?=Ya kvs[i]:=Yw hi;obtain⟨_,es',ep',rd',_,rel⟩:=N6 I.hok (.inr #[o,hd]);obtain rfl:=VS (fz _ hdo) rd';obtain⟨y,b,hy,yk,hb,ru⟩:=rel i kvs[i].1 kvs[i].2 hx;show GX.Q3 hit (fz _ hdo) hy λh' hit' htup kp=>?_;have hai:s.heap.objs.size≠it:=λz=>by
   have:=Yt hit;rw[←z]at this;show Y7 _ this
  have hfi:=hf it (by simp);have I1:aM X pins σ (upd H s.heap.objs.size (.tup [.ref b,kvs[i].2])) {s with heap:=h'}:=
   I.turnLay kp hfi #[_,hit'] (Ym _) hai #[by change 2<=Yu;decide,[y.key,y.val],.cons yk (.cons ru .nil),_,htup,rfl,0,rfl,rfl,rfl]
  show#[_,rfl,wpAny_letOwnedTupleGo_items hit' λh2 hit2 sb=>?_];obtain⟨f0,f1,f2,f3,f4,f5⟩:=hfi;have f0':(upd H s.heap.objs.size (.tup [.ref b,kvs[i].2])) it=none:=by rw[ak (Ne.symm hai)];show f0
  show#[.ref s.heap.objs.size,_,I1.turned (t':=s.toks) (λb o hb e=>(sb.2 b hb).trans e) f0' f1 f3 f4 f5,rfl,#[_,_,_,b,hx,I.hok.fresh (Ym _),hb,rfl,rfl],#[y.key,y.val,hit2],λc hc=>?_];have e:c=it:=by simpa using hc
  rw[e];show f0'
 done:=by
  intro X hP hw hK hc i pins s σ H E I hf st hg;subst hP hw hK;obtain⟨ok,ov,hit⟩:=st;obtain⟨hi,hd⟩:=hg;have hdo:s.heap.get? d=Ya o:=(show s.heap.get? d=Ya o/\_ from I.hok d _ hd).1;obtain⟨f0,f1,f2,f3,f4,f5⟩:=hf it (by simp);show GX.S9 (I.ok.hd hc) hit (fz _ hdo) (by omega) λh' eb=>#[rfl,I.turned (t':=s.toks) (λb o hb e=>eb b o hb e) f0 f1 f3 f4 f5]
 self:=λ_ _ _ _ _ ⟨ok,ov,st⟩ h=>PySem.W.kcp_self st h
section
theorem aM.freezeT{pins:List (Yc×Y8)}{H1:Hp}{s1:Yi}(I2:aM X pins σ H1 s1)(hd:H1 d=Ya (.dT kvs))(ho:s1.heap.get? d=Ya o):aM X pins σ (upd H1 d (.frz o (.dT kvs))) s1:=
 I2.write (t':=s1.toks) (x:=d) (e:=d) (by rw[hd];trivial) (.inl rfl) (λ_ _ _ e=>e) #[o,ho] #[ho,by
  obtain⟨z,y,xs,kt,rest⟩:=(show cO X.prog X.w H1 _ d (.dT kvs)from I2.hok d _ hd);show#[z,y,xs,Aq.mapP kt λ_ _ ⟨a1,a2,a3⟩=>#[a1,by rw[ak (cG a2 hd (by intro z;cases z))];show a2,a3],rest]]
def Pn(td:TE):TI:=λσ H R=>td σ H λx H1=>∃d kvs,x=.ref d/\H1 d=Ya (.dT kvs)/\∀o,R (NT d o kvs) (upd H1 d (.frz o (.dT kvs)))
theorem RM{e:YY}{apos cpos:adq}(he:PE X e td)(hbase:autoParam (afd e "items" X.env (Y3 e X.env)=Y3 e X.env) aq0)(hline:autoParam ((apos.endLine==cpos.line)=true) aq0):
  PI X (.Tuple elts x1 tp) (.Call (.Attribute e "items" apos) [] [] cpos) (Pn td):=by
 intro pins s σ H R I h;show ahC hbase hline (cR (he pins s σ H _ I h) λv s1 zz=>?_);obtain⟨x,H1,I1,r1,d,kvs,ex,hd,q⟩:=zz;subst ex;obtain rfl:v=Yv d:=r1;obtain⟨hS,es,ep,rd,sz,_⟩:=N6 I1.hok (.inl hd);obtain⟨h1,h2⟩:=Eu (T:="dict") I1 (x:=.ref d) rfl (.inr (.inr (.inl #[rfl,.inr #[kvs,hd]])));show#["dict","dict.items",ads,PySem.F.slot_dict_items,PySem.F.type_dict_items,h1,h2,aeW rfl (aij ?_)];show GX.QR hS rd ?_;have rd':GX.lC (s1.heap.push {cls:=.type "dict_items",data:=.fields (afs [.ref d])}) d es ep:=rd.at λo e=>Yg _ e;have I2:aM X pins σ H1 {s1 with heap:=s1.heap.push {cls:=.type "dict_items",data:=.fields (afs [.ref d])}}:=I1.kept (t':=s1.toks) λb ob e=>Yg _ e;show GX.Rh (Ys _ rfl) rd' ?_;have I3:=I2.freezeT hd rd';show#[_,[_],_,NT d _ kvs,_,rfl,I3.kept (t':=s1.toks) λb ob e=>Yg _ e,Li sz (λ_ e=>e),#[_,_,Ys _ rfl],λb hb=>?_,q _];have eb:b=(s1.heap.push {cls:=.type "dict_items",data:=.fields (afs [.ref d])}).objs.size:=by simpa using hb
 subst eb;show I3.fpOk (Ym _) (I3.hok.fresh (Ym _))
end
def adR(It':Yc->Y8->List (List cj×V)->It)(x:V)(H:Hp)(R:It->Hp->Prop):Prop:=∃d kvs,x=.ref d/\H d=Ya (.dT kvs)/\∀o,R (It' d o kvs) (upd H d (.frz o (.dT kvs)))
theorem Qv(h:td σ H λx H1=>adR NT x H1 R):Pn td σ H R:=h
theorem abz{It':Yc->Y8->List (List cj×V)->It}(hd:H d=Ya (.dT kvs))(h:∀o A,A d=Ya (.frz o (.dT kvs))->V3 d H A->R (It' d o kvs) A):adR It' (.ref d) H R:=
 #[d,kvs,rfl,hd,λo=>h o _ aj λb u n e=>by rw[ak n];show e]
theorem Lx{g:TG}{tt:TT}{te:TE}{D:Yc}{Qe:Hp->Prop}(Pv:Nat->St->Hp->Prop)(h0:Pv 0 σ H)(hl:∀i σ H,i<=kvs.length->Pv i σ H->H d=Ya (.frz o (.dT kvs)))(hs:∀i k v t b σ H H1,kvs[i]?=Ya (k,v)->Pv i σ H->H t=Yb->aG H H1->H1 t=Ya (.tup [.ref b,v])->H b=Ya (.tup (k.map kV))->j8 g tt te D (Pv (i+ 1)) (.ref t) σ H1)(hd:∀σ H,Pv kvs.length σ H->Qe H):
  ∃W:Nat->Nat->St->Hp->Prop,(∃m,W 0 m σ H)/\∀i m σ' H',W i m σ' H'->((NT d o kvs).stop i H'/\Qe H')∨((NT d o kvs).go i H'/\∃N:St->Hp->Prop,(∀σ2 H2,N σ2 H2->∃m',m'<m/\W (i+ 1) m' σ2 H2)/\
   ∀x H'',(NT d o kvs).yld i H' x H''->j8 g tt te D N x σ' H''):=by
 show#[λi m σ H=>m=kvs.length-i/\i<=kvs.length/\Pv i σ H,#[kvs.length,by simp,Y1 _,h0],?_];rintro i m σ H ⟨rfl,hi,p⟩;have q:=hl i σ H hi p;by_cases hlt:i<kvs.length
 .show .inr #[#[hlt,q],Pv (i+ 1),λσ' H' p'=>#[kvs.length-(i+ 1),by omega,rfl,hlt,p'],λx H' y=>?_];obtain⟨k,v,a,b,e1,e2,e3,rfl,rfl⟩:=y;show hs i k v a b σ _ _ e1 p e2 (aE e2) aj e3
 .have e:i=kvs.length:=by omega
  subst e;show .inl #[#[Ym _,q],hd σ H p]
section
theorem Ra:MtR X "list.clear" (λx vs H Q=>∃l xs,x=.ref l/\vs=[]/\H l=Ya (.lst xs)/\Q .non (upd H l (.lst []))):=by
 intro pins s σ H x vs v us Q I rx rv h;obtain⟨l,xs,rfl,rfl,hH,q⟩:=h;cases rx;cases rv;obtain⟨z,its,n,r,hl,e⟩:=I.lstM hH;show ahz ajC #[_,e,rfl] PySem.F.entry_list_clear (PySem.F.args_list_clear_1 _) (PySem.AutoSeq1.list_clear_list_0 l its.toArray n (by rw[YA];omega)) #[e,?_];show#[.non,_,I.lset (its':=[]) (ys:=[]) hH e rfl .nil (Y1 _),rfl,q]
end
end L2
namespace L2
open PySem PySem.Spec PyProof.Rows
variable{X:Cx}{i1 i2 i3:Nat}
theorem afU{x1 x2 x3:Yh}{c1 c2 c3:Yc}(n1:c1≠c2)(n2:c1≠c3)(n3:c2≠c3)(a1:X.N[i1]?=Ya x1)(a2:X.N[i2]?=Ya x2)(a3:X.N[i3]?=Ya x3)(k1:X.env.scope.names.lookup x1=Ya .cell)(k2:X.env.scope.names.lookup x2=Ya .cell)(k3:X.env.scope.names.lookup x3=Ya .cell)(l1:X.env.cells.lookup x1=Ya c1)(l2:X.env.cells.lookup x2=Ya c2)(l3:X.env.cells.lookup x3=Ya c3)(f1:X.fn x1=true)(f2:X.fn x2=true)(f3:X.fn x3=true):
  abR X [i1,i2,i3] [(x1,c1),(x2,c2),(x3,c3)]:=by
 show#[rfl,by simp[n1,n2,n3],λj i x c h1 h2=>?_]
 match j with
 |0=>cases h1;cases h2;show#[a1,k1,l1,f1]
 |1=>cases h1;cases h2;show#[a2,k2,l2,f2]
 |2=>cases h1;cases h2;show#[a3,k3,l3,f3]
 |j+ 3=>cases h1
theorem adx{σ:St}{v1 v2 v3:V}(h1:σ[i1]?=Ya (Ya v1))(h2:σ[i2]?=Ya (Ya v2))(h3:σ[i3]?=Ya (Ya v3)):∀(j:Nat) i v,[i1,i2,i3][j]?=Ya i->[v1,v2,v3][j]?=Ya v->σ[i]?=Ya (Ya v)
 |0,i,v,e1,e2=>by cases e1;cases e2;show h1
 |1,i,v,e1,e2=>by cases e1;cases e2;show h2
 |2,i,v,e1,e2=>by cases e1;cases e2;show h3
 |j+ 3,i,v,e1,e2=>by cases e1
theorem acz(x:Nat):x+ 1≠x+ 1+ 1+ 1:=by omega
end L2
namespace L2
open PySem PySem.Spec PyProof.Rows
variable{X:Cx}{scope:agi}{pos:adq}{Pt:Yc}{qual:Yh}{σ:St}{H:Hp}{v:V}{e:YY}
def aau(Pt:Yc)(pos:adq)(qual:Yh)(mk:Yc->Yd->Y8):TE:=λ_ H Q=>aaU Pt pos qual H/\
 ∀f c' ctv H',H f=Yb->V3 Pt H H'->H' f=Ya (FnO f (mk c' ctv))->H' c'=Ya (CdO c' qual)->H' Pt=Ya (.tbl (afs [rawInt pos.line,rawInt pos.col,.ref c']))->Q (.ref f) H'
section
theorem Xh{params:akC}{body:YY}{c:Yc}{clos:List (Yh×Yc)}(hd0:defaultsOf params X.env=([],[]))(hcl:akh scope X.env=pure clos)(hcode:X.env.code=.ref c)(hC:aml X.base c Pt)(hB:Jj X.base X.mg):
  PE X (.Lambda params body scope pos) (aau Pt pos (X.env.qual++"<lambda>") λc' ctv=>aib "<lambda>" (X.env.qual++"<lambda>") params body scope clos ((X.mg "__name__").getD .none) c' ctv):=by
 intro pins s σ H Q I h;obtain⟨tb,q⟩:=h;generalize hq:X.env.qual++"<lambda>"=qual at tb q;have hg:s.heap.Ns YS X.mg:=I.mod.glob.keeps I.bk;obtain⟨bm,ob,b1,b2,b3,b4,b5⟩:=hB;show PySem.W.kla_eval hd0 ?_;rw[hq];rcases tb with hP|⟨c',hP,hc'⟩
 .have oP:s.heap.get? Pt=Ya (agW #[]):=I.hok Pt _ hP;have nb:∀b o,X.base.get? b=Ya o->b≠Pt:=λb o e z=>by have:=(I.bs b o e).2;rw[z,hP]at this;cases this
  show PySem.W.kla_makeFunction (mg:=X.mg) hcl I.ok.glob hg hcode (hC.keeps I.bk) oP ado rfl (by obtain⟨o,_,_,e,_⟩:=I.mod.glob;show nb _ _ e) #[bm,ob,b1,b2,b3,nb _ _ b4,I.bk _ _ b4,b5] λc' ctv h' tk hx' hge hlt hrec htb=>?_;obtain⟨fo,hfo⟩:∃fo,fo=aib "<lambda>" qual params body scope clos ((X.mg "__name__").getD .none) c' ctv:=#[_,rfl];have nf:fo.isFreed=false:=by rw[hfo];rfl
  have q:=q h'.objs.size c' ctv;dsimp only at q;rw[←hfo]at q⊢;have hsz:s.heap.objs.size<=h'.objs.size:=tm (af8 hge hlt);have Hf:H h'.objs.size=none:=I.hok.fresh hsz;have Hc:H c'=none:=I.hok.fresh hge;have nfc:h'.objs.size≠c':=agu hlt;have nfP:h'.objs.size≠Pt:=λz=>by rw[z,hP]at Hf;cases Hf
  have ncP:c'≠Pt:=λz=>by rw[z,hP]at Hc;cases Hc
  obtain⟨H',eH⟩:∃H':Hp,H'=upd (upd (upd H Pt (.tbl (afs [rawInt pos.line,rawInt pos.col,.ref c']))) c' (CdO c' qual)) h'.objs.size (FnO h'.objs.size fo):=#[_,rfl];have ef:H' h'.objs.size=Ya (FnO h'.objs.size fo):=by rw[eH];show aj
  have ec:H' c'=Ya (CdO c' qual):=by rw[eH,ak nfc.symm,aj]
  have eP:H' Pt=Ya (.tbl (afs [rawInt pos.line,rawInt pos.col,.ref c'])):=by rw[eH,ak nfP.symm,ak ncP.symm,aj]
  have eo:∀b,b≠h'.objs.size->b≠c'->b≠Pt->H' b=H b:=λb n1 n2 n3=>by rw[eH,ak n1,ak n2,ak n3]
  have es:∀b u,H b=Ya u->b≠Pt->H' b=Ya u:=λb u e n=>by rw[eo b (au e Hf) (au e Hc) n];show e
  have old:∀b o,b≠Pt->s.heap.get? b=Ya o->(h'.push fo).get? b=Ya o:=λb o n e=>Yg _ (hx' b o n e);have np:∀b,H b=Yb->b≠Pt:=λb n z=>by rw[z,hP]at n;cases n
  have I2:aM X pins σ H' {s with heap:=h'.push fo,toks:=tk}:=by
   show I.step (g':=s.gens) (d':=s.drawn) (t':=tk) (ch:=[]) (λ_ z=>nomatch z) (λb o _ _ _ e n=>old b o (np b n) e) (λb o _ _ _ e n=>#[o.slots,old b o (np b n) e]) (λb o _ e n=>?_) (λb o _ e=>?_) (λb xs e=>es b _ e λz=>by rw[z,hP]at e;cases e) (λb o u e=>es b _ e λz=>by rw[z,hP]at e;cases e) (λb qs e=>?_) (λm hm=>?_) (λa u e=>?_) I.bare
   .have lt:=Yt e;rw[eo b (YB (YT lt hsz)) (YB (YT lt hge)) (np b n)];show n
   .by_cases z:b=Pt
    .rw[z];show#[_,Yg _ htb]
    .show#[o,old b o z e]
   .by_cases z:b=Pt
    .rw[z,hP]at e;cases e;show#[(afs [rawInt pos.line,rawInt pos.col,.ref c']),by rw[z,eP];rfl]
    .show#[#[],by rw[es b _ e z];simp]
   .show(hm.extBut hx' (np _ I.free)).push _
   .by_cases z1:a=h'.objs.size
    .rw[z1,ef]at e;cases e;rw[z1];show#[Ys _ nf,#[_,Ys _ nf],λh1 h2 e k=>k _ e]
    by_cases z2:a=c'
    .rw[z2,ec]at e;cases e;rw[z2];obtain⟨c2,oc,vs,t,e2,hoc,hd,hv⟩:=id hrec;cases e2;show#[#[_,oc,vs,t,rfl,Yg _ hoc,hd,hv],#[oc,Yg _ hoc],?_];rintro h1 h2 ⟨c2,oc,vs,t,e2,hoc,hd,hv⟩ k;cases e2;show#[_,oc,vs,t,rfl,k _ hoc,hd,hv]
    by_cases z3:a=Pt
    .rw[z3,eP]at e;cases e;rw[z3];show Yg _ htb
    .rw[eo a z1 z2 z3]at e;show(I.hok a u e).stay (λb v hb r=>old b v ?_ r) (λb r=>es b _ r λz=>by rw[z,hP]at r;cases r) λb xs r=>es b _ r λz=>by rw[z,hP]at r;cases r
     rcases hb with z|z
     .rw[z];show z3
     .show λy=>by rw[y,hP]at z;cases z
  show#[.ref h'.objs.size,H',I2,rfl,q H' Hf (λb v n e=>es b v e n) ef ec eP]
 .have oP:s.heap.get? Pt=Ya (agW (afs [rawInt pos.line,rawInt pos.col,.ref c'])):=I.hok Pt _ hP;have nb:∀b o,X.base.get? b=Ya o->b≠Pt:=λb o e z=>by have:=(I.bs b o e).2;rw[z,hP]at this;cases this
  show PySem.W.kla_makeFunctionHit (mg:=X.mg) (cv:=.ref c') hcl I.ok.glob hg hcode (hC.keeps I.bk) oP (by simp[TriplesOk,rawInt]) (by simp[codeAmong,rawInt]) #[bm,ob,b1,b2,b3,nb _ _ b4,I.bk _ _ b4,b5] λctv h' tk hk hsz=>?_;obtain⟨fo,hfo⟩:∃fo,fo=aib "<lambda>" qual params body scope clos ((X.mg "__name__").getD .none) c' ctv:=#[_,rfl];have nf:fo.isFreed=false:=by rw[hfo];rfl
  have q:=q h'.objs.size c' ctv;dsimp only at q;rw[←hfo]at q;change EP X pins σ Q (.ref h'.objs.size) {s with heap:=h'.push (aib "<lambda>" qual params body scope clos ((X.mg "__name__").getD .none) c' ctv),toks:=tk};rw[←hfo];have Hf:H h'.objs.size=none:=I.hok.fresh hsz;have I2:=I.laid (a:=h'.objs.size) (t':=tk) (o:=FnO h'.objs.size fo) (h':=h'.push fo) (λb u e=>Yg _ (hk b u e)) hsz
   #[Ys _ nf,#[_,Ys _ nf],λh1 h2 e k=>k _ e]
  have es:=aE (o:=FnO h'.objs.size fo) Hf;show#[.ref h'.objs.size,_,I2,rfl,q _ Hf (λb v _ e=>es b v e) aj (es _ _ hc') (es _ _ hP)]
end
theorem ab9{mk:Yc->Yd->Y8}{Q:VK}(hT:aaU Pt pos qual H)(h:∀f c' ctv H',H f=Yb->V3 Pt H H'->H' f=Ya (FnO f (mk c' ctv))->H' c'=Ya (CdO c' qual)->H' Pt=Ya (.tbl (afs [rawInt pos.line,rawInt pos.col,.ref c']))->Q (.ref f) H'):aau Pt pos qual mk σ H Q:=#[hT,h]
noncomputable def pC(me ro nw pg ch cb wb pa lg lo db nt wo wi:V):List (Yh×V):=[("me",me),("room",ro),("newest",nw),("page",pg),("change",ch),("came_by",cb),("went_by",wb),("past",pa),("log",lg),("lost",lo),("doubts",db),("noted",nt),("wants_out",wo),("wants_in",wi)]
section
variable{me ro nw pg ch cb wb pa lg lo db nt wo wi:V}
theorem XH:bY "wants_in" wi (bY "wants_out" wo (bY "noted" nt (bY "doubts" db (bY "lost" lo (bY "log" lg (bY "past" pa (bY "went_by" wb (bY "came_by" cb (bY "change" ch (bY "page" pg (bY "newest" nw (bY "room" ro (bY "me" me [])))))))))))))=pC me ro nw pg ch cb wb pa lg lo db nt wo wi:=by kernel_rfl
theorem XJ:bY "newest" v (pC me ro nw pg ch cb wb pa lg lo db nt wo wi)=pC me ro v pg ch cb wb pa lg lo db nt wo wi:=by kernel_rfl
theorem XG:bY "page" v (pC me ro nw pg ch cb wb pa lg lo db nt wo wi)=pC me ro nw v ch cb wb pa lg lo db nt wo wi:=by kernel_rfl
theorem We:bY "change" v (pC me ro nw pg ch cb wb pa lg lo db nt wo wi)=pC me ro nw pg v cb wb pa lg lo db nt wo wi:=by kernel_rfl
theorem X4:bY "came_by" v (pC me ro nw pg ch cb wb pa lg lo db nt wo wi)=pC me ro nw pg ch v wb pa lg lo db nt wo wi:=by kernel_rfl
theorem XX:bY "went_by" v (pC me ro nw pg ch cb wb pa lg lo db nt wo wi)=pC me ro nw pg ch cb v pa lg lo db nt wo wi:=by kernel_rfl
theorem Xt:bY "doubts" v (pC me ro nw pg ch cb wb pa lg lo db nt wo wi)=pC me ro nw pg ch cb wb pa lg lo v nt wo wi:=by kernel_rfl
theorem Xw:bY "noted" v (pC me ro nw pg ch cb wb pa lg lo db nt wo wi)=pC me ro nw pg ch cb wb pa lg lo db v wo wi:=by kernel_rfl
theorem Pm:bY "wants_in" v (pC me ro nw pg ch cb wb pa lg lo db nt wo wi)=pC me ro nw pg ch cb wb pa lg lo db nt wo v:=by kernel_rfl
theorem abv:(pC me ro nw pg ch cb wb pa lg lo db nt wo wi).lookup ("me":Yh)=Ya me:=by kernel_rfl
theorem Tr:(pC me ro nw pg ch cb wb pa lg lo db nt wo wi).lookup ("room":Yh)=Ya ro:=by kernel_rfl
theorem Nq:(pC me ro nw pg ch cb wb pa lg lo db nt wo wi).lookup ("newest":Yh)=Ya nw:=by kernel_rfl
theorem Vf:(pC me ro nw pg ch cb wb pa lg lo db nt wo wi).lookup ("page":Yh)=Ya pg:=by kernel_rfl
theorem Ny:(pC me ro nw pg ch cb wb pa lg lo db nt wo wi).lookup ("change":Yh)=Ya ch:=by kernel_rfl
theorem Sw:(pC me ro nw pg ch cb wb pa lg lo db nt wo wi).lookup ("past":Yh)=Ya pa:=by kernel_rfl
theorem WZ:(pC me ro nw pg ch cb wb pa lg lo db nt wo wi).lookup ("log":Yh)=Ya lg:=by kernel_rfl
theorem UR:(pC me ro nw pg ch cb wb pa lg lo db nt wo wi).lookup ("lost":Yh)=Ya lo:=by kernel_rfl
theorem Mq:(pC me ro nw pg ch cb wb pa lg lo db nt wo wi).lookup ("doubts":Yh)=Ya db:=by kernel_rfl
theorem QV:(pC me ro nw pg ch cb wb pa lg lo db nt wo wi).lookup ("noted":Yh)=Ya nt:=by kernel_rfl
theorem Kg:(pC me ro nw pg ch cb wb pa lg lo db nt wo wi).lookup ("suspect":Yh)=none:=by kernel_rfl
theorem DG:(pC me ro nw pg ch cb wb pa lg lo db nt wo wi).lookup ("note_taken":Yh)=none:=by kernel_rfl
theorem QP:(pC me ro nw pg ch cb wb pa lg lo db nt wo wi).lookup ("enter":Yh)=none:=by kernel_rfl
theorem M5:(pC me ro nw pg ch cb wb pa lg lo db nt wo wi).lookup ("settle":Yh)=none:=by kernel_rfl
theorem NK:(pC me ro nw pg ch cb wb pa lg lo db nt wo wi).lookup ("events":Yh)=none:=by kernel_rfl
theorem HP:(pC me ro nw pg ch cb wb pa lg lo db nt wo wi).lookup ("standing":Yh)=none:=by kernel_rfl
theorem QQ:(pC me ro nw pg ch cb wb pa lg lo db nt wo wi).lookup ("taken":Yh)=none:=by kernel_rfl
theorem UK:(pC me ro nw pg ch cb wb pa lg lo db nt wo wi).lookup ("kept":Yh)=none:=by kernel_rfl
theorem MU:(pC me ro nw pg ch cb wb pa lg lo db nt wo wi).lookup ("places":Yh)=none:=by kernel_rfl
theorem Mt:(pC me ro nw pg ch cb wb pa lg lo db nt wo wi).lookup ("strays":Yh)=none:=by kernel_rfl
theorem Ki:(pC me ro nw pg ch cb wb pa lg lo db nt wo wi).lookup ("stopped":Yh)=none:=by kernel_rfl
theorem VF:(pC me ro nw pg ch cb wb pa lg lo db nt wo wi).lookup ("book":Yh)=none:=by kernel_rfl
theorem V7:(pC me ro nw pg ch cb wb pa lg lo db nt wo wi).length<1000:=by change 14<1000;decide
end
noncomputable def ad1(s:YI)(i:Nat):YY:=match s with
 | .Expr (.Call _ as _ _) _=>as.getD i (.Constant .none 0 #[0,0,0,0])
 |_=>.Constant .none 0 #[0,0,0,0]
noncomputable def afb(e:YY):akC:=match e with
 | .Lambda a _ _ _=>a
 |_=>#[[],[],Yb,[],[],Yb,[]]
noncomputable def abB(e:YY):adq:=match e with
 | .Lambda _ _ _ p=>p
 |_=>#[0,0,0,0]
section
theorem Iy:PE X e (λ_ _ _=>False):=λ_ _ _ _ _ _ h=>h.elim
theorem ac8:PT X e (λ_ _ _=>False):=λ_ _ _ _ _ _ h=>h.elim
end
mutual
inductive Dz (K:Ye) (H:Hp):V->ae2->Prop
 |p {x:V} {d:ae2}:Dp K H x d->Dz K H x d
 |t {a:Yc} {xs:List V} {ds:List ae2}:c8 K H a xs->V2 K H xs ds->Dz K H (.ref a) (.tuple ds)
 |l {a:Yc} {xs:List V} {ds:List ae2}:bZ K H a xs->V2 K H xs ds->Dz K H (.ref a) (.list ds)
inductive V2 (K:Ye) (H:Hp):List V->List ae2->Prop
 |nil:V2 K H [] []
 |cons {x:V} {xs:List V} {d:ae2} {ds:List ae2}:Dz K H x d->V2 K H xs ds->V2 K H (x::xs) (d::ds)
end
section
variable{X:Cx}{pins:List (Yc×Y8)}{σ:St}{H:Hp}{s:Yi}
mutual
theorem Dz.reads(I:aM X pins σ H s):∀{x:V} {d:ae2} {u:Yd},Dz X.K H x d->RelV x u->∃as,Reads s.heap u d as
 |_,_,_,.p h,r=>h.reads I r
 |_,_,_,.t h q,r=>by
  cases r;obtain⟨its,rv,⟨o,e,c,n,dd⟩,_⟩:=I.tuple h;obtain⟨as,z⟩:=V2.reads I q rv;show#[_,.tuple e c dd (by simpa using z)]
 |_,_,_,.l h q,r=>by
  cases r;obtain⟨its,rv,⟨o,n,e,c,_,dd⟩,_⟩:=I.list h;obtain⟨as,z⟩:=V2.reads I q rv;show#[_,.list e c dd (by simpa using z)]
theorem V2.reads(I:aM X pins σ H s):∀{xs:List V} {ds:List ae2} {us:List Yd},V2 X.K H xs ds->Vals xs us->∃as,ReadsAll s.heap us ds as
 |_,_,_,.nil,r=>by cases r;show#[_,.nil]
 |_,_,_,.cons h q,r=>by
  cases r with
  |cons r1 r2=>
   obtain⟨as,z⟩:=Dz.reads I h r1;obtain⟨bs,z2⟩:=V2.reads I q r2;show#[_,.cons z z2]
end
def MD(K:Ye):R2:=λx y H Q=>∃d e,Dz K H x d/\Dz K H y e/\d.canLay0=true/\e.canLay0=true/\min d.depth e.depth<=60/\Q (.bl (!d.eqv e)) H
theorem kI{K:Ye}(hK:X.K=K)(hu:X.A.units+ 64<ab0):sI X (xk .NotEq) (MD K):=by
 subst hK;intro pins s σ H x y v u Q I rx ry h;obtain⟨d,e,h1,h2,c1,c2,dp,q⟩:=h;obtain⟨as,r1⟩:=h1.reads I rx;obtain⟨bs,r2⟩:=h2.reads I ry;show SeqAt.compareNe_reads r1 r2 c1 c2 (by omega) #[.bl _,H,I,rfl,q]
def Rx(K:Ye):R2:=λx y H Q=>∃d e,Dz K H x d/\Dz K H y e/\d.canLay0=true/\e.canLay0=true/\min d.depth e.depth<=60/\Q (.bl (d.eqv e)) H
theorem AE{K:Ye}(hK:X.K=K)(hu:X.A.units+ 64<ab0):sI X (xk .Eq) (Rx K):=by
 subst hK;intro pins s σ H x y v u Q I rx ry h;obtain⟨d,e,h1,h2,c1,c2,dp,q⟩:=h;obtain⟨as,r1⟩:=h1.reads I rx;obtain⟨bs,r2⟩:=h2.reads I ry;show SeqAt.compareEq_reads r1 r2 c1 c2 (by omega) #[.bl _,H,I,rfl,q]
end
end L2
namespace L2
inductive E3 {α0 α1 α2:Sort _} (p:α0->α1->α2->Prop):Prop
 |mk (a0:α0) (a1:α1) (a2:α2):p a0 a1 a2->E3 p
inductive E4 {α0 α1 α2 α3:Sort _} (p:α0->α1->α2->α3->Prop):Prop
 |mk (a0:α0) (a1:α1) (a2:α2) (a3:α3):p a0 a1 a2 a3->E4 p
inductive E5 {α0 α1 α2 α3 α4:Sort _} (p:α0->α1->α2->α3->α4->Prop):Prop
 |mk (a0:α0) (a1:α1) (a2:α2) (a3:α3) (a4:α4):p a0 a1 a2 a3 a4->E5 p
inductive E6 {α0 α1 α2 α3 α4 α5:Sort _} (p:α0->α1->α2->α3->α4->α5->Prop):Prop
 |mk (a0:α0) (a1:α1) (a2:α2) (a3:α3) (a4:α4) (a5:α5):p a0 a1 a2 a3 a4 a5->E6 p
inductive E7 {α0 α1 α2 α3 α4 α5 α6:Sort _} (p:α0->α1->α2->α3->α4->α5->α6->Prop):Prop
 |mk (a0:α0) (a1:α1) (a2:α2) (a3:α3) (a4:α4) (a5:α5) (a6:α6):p a0 a1 a2 a3 a4 a5 a6->E7 p
inductive E8 {α0 α1 α2 α3 α4 α5 α6 α7:Sort _} (p:α0->α1->α2->α3->α4->α5->α6->α7->Prop):Prop
 |mk (a0:α0) (a1:α1) (a2:α2) (a3:α3) (a4:α4) (a5:α5) (a6:α6) (a7:α7):p a0 a1 a2 a3 a4 a5 a6 a7->E8 p
inductive E10 {α0 α1 α2 α3 α4 α5 α6 α7 α8 α9:Sort _} (p:α0->α1->α2->α3->α4->α5->α6->α7->α8->α9->Prop):Prop
 |mk (a0:α0) (a1:α1) (a2:α2) (a3:α3) (a4:α4) (a5:α5) (a6:α6) (a7:α7) (a8:α8) (a9:α9):p a0 a1 a2 a3 a4 a5 a6 a7 a8 a9->E10 p
inductive A3 (p0 p1 p2:Prop):Prop
 |mk:p0->p1->p2->A3 p0 p1 p2
inductive A5 (p0 p1 p2 p3 p4:Prop):Prop
 |mk:p0->p1->p2->p3->p4->A5 p0 p1 p2 p3 p4
inductive A6 (p0 p1 p2 p3 p4 p5:Prop):Prop
 |mk:p0->p1->p2->p3->p4->p5->A6 p0 p1 p2 p3 p4 p5
inductive A7 (p0 p1 p2 p3 p4 p5 p6:Prop):Prop
 |mk:p0->p1->p2->p3->p4->p5->p6->A7 p0 p1 p2 p3 p4 p5 p6
inductive A8 (p0 p1 p2 p3 p4 p5 p6 p7:Prop):Prop
 |mk:p0->p1->p2->p3->p4->p5->p6->p7->A8 p0 p1 p2 p3 p4 p5 p6 p7
inductive A9 (p0 p1 p2 p3 p4 p5 p6 p7 p8:Prop):Prop
 |mk:p0->p1->p2->p3->p4->p5->p6->p7->p8->A9 p0 p1 p2 p3 p4 p5 p6 p7 p8
inductive A10 (p0 p1 p2 p3 p4 p5 p6 p7 p8 p9:Prop):Prop
 |mk:p0->p1->p2->p3->p4->p5->p6->p7->p8->p9->A10 p0 p1 p2 p3 p4 p5 p6 p7 p8 p9
inductive A11 (p0 p1 p2 p3 p4 p5 p6 p7 p8 p9 p10:Prop):Prop
 |mk:p0->p1->p2->p3->p4->p5->p6->p7->p8->p9->p10->A11 p0 p1 p2 p3 p4 p5 p6 p7 p8 p9 p10
end L2
namespace L2
variable{a0 a1 a2 a3 a4 a5 a6 a7 a8 a9 a10 a11 a12 a13:TS}{D:q8}{σ:St}{H:Hp}
theorem xl3(h:let R1:=aL a1 a2;aL a0 R1 D σ H):aL a0 (aL a1 a2) D σ H:=h
theorem xl4(h:let R2:=aL a2 a3;let R1:=aL a1 R2;aL a0 R1 D σ H):aL a0 (aL a1 (aL a2 a3)) D σ H:=h
theorem xl5(h:let R3:=aL a3 a4;let R2:=aL a2 R3;let R1:=aL a1 R2;aL a0 R1 D σ H):aL a0 (aL a1 (aL a2 (aL a3 a4))) D σ H:=h
theorem xl6(h:let R4:=aL a4 a5;let R3:=aL a3 R4;let R2:=aL a2 R3;let R1:=aL a1 R2;aL a0 R1 D σ H):aL a0 (aL a1 (aL a2 (aL a3 (aL a4 a5)))) D σ H:=h
theorem xl7(h:let R5:=aL a5 a6;let R4:=aL a4 R5;let R3:=aL a3 R4;let R2:=aL a2 R3;let R1:=aL a1 R2;aL a0 R1 D σ H):aL a0 (aL a1 (aL a2 (aL a3 (aL a4 (aL a5 a6))))) D σ H:=h
theorem xl8(h:let R6:=aL a6 a7;let R5:=aL a5 R6;let R4:=aL a4 R5;let R3:=aL a3 R4;let R2:=aL a2 R3;let R1:=aL a1 R2;aL a0 R1 D σ H):aL a0 (aL a1 (aL a2 (aL a3 (aL a4 (aL a5 (aL a6 a7)))))) D σ H:=h
theorem afN(h:let R9:=aL a9 a10;let R8:=aL a8 R9;let R7:=aL a7 R8;let R6:=aL a6 R7;let R5:=aL a5 R6;let R4:=aL a4 R5;let R3:=aL a3 R4;let R2:=aL a2 R3;let R1:=aL a1 R2;aL a0 R1 D σ H):aL a0 (aL a1 (aL a2 (aL a3 (aL a4 (aL a5 (aL a6 (aL a7 (aL a8 (aL a9 a10))))))))) D σ H:=h
theorem af4(h:let R12:=aL a12 a13;let R11:=aL a11 R12;let R10:=aL a10 R11;let R9:=aL a9 R10;let R8:=aL a8 R9;let R7:=aL a7 R8;let R6:=aL a6 R7;let R5:=aL a5 R6;let R4:=aL a4 R5;let R3:=aL a3 R4;let R2:=aL a2 R3;let R1:=aL a1 R2;aL a0 R1 D σ H):aL a0 (aL a1 (aL a2 (aL a3 (aL a4 (aL a5 (aL a6 (aL a7 (aL a8 (aL a9 (aL a10 (aL a11 (aL a12 a13)))))))))))) D σ H:=h
theorem afy{a14 a15 a16:TS}(h:let R15:=aL a15 a16;let R14:=aL a14 R15;let R13:=aL a13 R14;let R12:=aL a12 R13;let R11:=aL a11 R12;let R10:=aL a10 R11;let R9:=aL a9 R10;let R8:=aL a8 R9;let R7:=aL a7 R8;let R6:=aL a6 R7;let R5:=aL a5 R6;let R4:=aL a4 R5;let R3:=aL a3 R4;let R2:=aL a2 R3;let R1:=aL a1 R2;aL a0 R1 D σ H):aL a0 (aL a1 (aL a2 (aL a3 (aL a4 (aL a5 (aL a6 (aL a7 (aL a8 (aL a9 (aL a10 (aL a11 (aL a12 (aL a13 (aL a14 (aL a15 a16))))))))))))))) D σ H:=h
end L2
namespace L2
open PySem PySem.Spec PyProof.Rows
variable{N:List Yh}{u:TS}{D:q8}{σ:St}{H:Hp}
theorem d5{P:List Yh}{sc:agi}(a:autoParam (sc.kind=.function) aq0)(b:autoParam (sc.isCoroutine=false) aq0)(c:autoParam (sc.isGenerator=false) aq0)(d:autoParam (N.Nodup) aq3)(e:autoParam (N.take P.length=P) aq0)(f:autoParam (∀x∈P,sc.names.lookup x=Ya .local∨sc.names.lookup x=Ya .cell) aq3)(g:autoParam (∀y∈sc.names,y.2≠.free) aq3):aq N P sc:=#[a,b,c,d,e,f,g]
def Tg(_:YU)(_:YZ)(_:Yh->Option Yd)(_:YO):Prop:=True
def qa:List Yh->(List Yd->Prop)->Prop
 |[],p=>p []
 |_::r,p=>∀v,qa r λus=>p (v::us)
theorem aat:∀{ps:List Yh} {p:List Yd->Prop},qa ps p->∀us:List Yd,us.length=ps.length->p us
 |[],_,h,[],_=>h
 |_::_,_,h,v::us,e=>aat (h v) us (Nat.succ.inj e)
section
variable{P:YU}{w:YZ}{K:Ye}{mg:Yh->Option Yd}{base h:YO}{x qual:Yh}{st:YI}{f:Yc}{fd:Yr}{ps:List Yh}{k:Nat}{sp:Sp}
theorem bx.oj(F:bx K x qual st f fd)(S:aq N ps (ah st))
  (hbody:∀(cdv:Yd) (A:sq) (outer:List af7) (s:Yi) (H:Hp) (vs:List V) (Q:VK) (E:XK),cV k (A.deeper (agw qual (ah st) s.heap.objs.size f cdv))->(A.deeper (agw qual (ah st) s.heap.objs.size f cdv)).units+ 64<ab0->(A.deeper (agw qual (ah st) s.heap.objs.size f cdv)).units<ab0->(A.deeper (agw qual (ah st) s.heap.objs.size f cdv)).units+ 1<ab0->sp vs H Q E->
   ∃t,IK (iX bo P w K mg base N qual (ah st) f cdv A outer s H E).nox (du st) t/\t {nx:=λ_ H'=>Q .non H',rt:=Q} (start N vs) H)
  (len:∀vs H Q E,sp vs H Q E->vs.length=ps.length:=by intro _ _ _ _ h;(repeat(cases h;rename_i h))<;>(subst_vars;rfl)):aw P w K mg base bo (k+ 1) f fd ps sp:=F.ok S len λc A o s H vs Q E hr h=>hbody c A o s H vs Q E hr hr.units hr.units0 (tH hr) h
theorem bx.bq(F:bx K x qual st f fd)(h:∀(kV doc pm:Yd) (an:Option Yc) (cdv ct:Yd),qa ps λus=>akd (aal x qual (gz st) (du st) (ah st) .none kV doc pm an cdv ct) #[us,[]]=pure (ps.zip us):=by(repeat show λ_=>?_);rfl):Binds K fd ps []:=F.binds λa b c d e g us hl=>aat (h a b c d e g) us hl
theorem bx.cal(F:bx K x qual st f fd)(X:K.In h)(G:h.Ns YS mg)(a:nI K x f)(q:∀(kV doc pm:Yd) (an:Option Yc) (cdv ct:Yd),qa ps λus=>akd (aal x qual (gz st) (du st) (ah st) .none kV doc pm an cdv ct) #[us,[]]=pure (ps.zip us):=by(repeat show λ_=>?_);rfl):fH K mg x f fd ps:=#[PySem.W.mg_of X G a,F.kp,F.bq q]
end
theorem ln1{α:Type}:∀{us:List α},us.length=1->∃a0,us=[a0]|[a0],_=>#[a0,rfl]
theorem ln3{α:Type}:∀{us:List α},us.length=3->∃a0 a1 a2,us=[a0,a1,a2]|[a0,a1,a2],_=>#[a0,a1,a2,rfl]
theorem afD{a b c:TS}(h:∀R:TS,R=aL c u->aL a (aL b R) D σ H):aL a (aL b (aL c u)) D σ H:=h _ rfl
theorem ago{R:TS}(e:R=u)(h:u D σ H):R D σ H:=e▸h
end L2
local macro_rules|`(tactic|sizeOf_list_dec)=>`(tactic|first|exact Nat.le_of_ble_eq_true rfl|exact L2.aN (by omega)|omega)
local macro_rules|`(tactic|sizeOf_list_dec)=>`(tactic|first|assumption|decide|exact ⟨by decide, by decide⟩|exact ⟨by decide, by decide, by decide⟩)
local macro_rules|`(tactic|sizeOf_list_dec)=>`(tactic|with_reducible first|exact L2.SU|exact L2.Vx|exact L2.Ug|exact L2.VH)
local macro_rules|`(tactic|sizeOf_list_dec)=>`(tactic|with_reducible first|exact L2.MP|exact L2.Vd|exact L2.LA|exact L2.Dg)
local macro_rules|`(tactic|sizeOf_list_dec)=>`(tactic|with_reducible first|exact L2.Nj|exact L2.NQ|exact L2.RN|exact L2.UM)
local macro_rules|`(tactic|sizeOf_list_dec)=>`(tactic|with_reducible exact L2.X0)
local macro_rules|`(tactic|sizeOf_list_dec)=>`(tactic|with_reducible first|exact L2.Ry|exact L2.Sb|exact L2.Tv|exact L2.Uv)
local macro_rules|`(tactic|sizeOf_list_dec)=>`(tactic|with_reducible first|exact L2.Mr|exact L2.NX|exact L2.Ko|exact L2.Ml)
local macro_rules|`(tactic|sizeOf_list_dec)=>`(tactic|with_reducible exact L2.JO)
local macro_rules|`(tactic|sizeOf_list_dec)=>`(tactic|with_reducible first|exact L2.MQ|exact L2.QT|exact L2.Xm)
local macro_rules|`(tactic|sizeOf_list_dec)=>`(tactic|with_reducible first|exact L2.UE|exact L2.DU|exact L2.VI|exact L2.Sg)
local macro_rules|`(tactic|sizeOf_list_dec)=>`(tactic|with_reducible first|exact L2.RP|exact L2.Jk|exact L2.Ky|exact L2.uQ)
local macro_rules|`(tactic|sizeOf_list_dec)=>`(tactic|with_reducible first|exact L2.TQ|exact L2.TB|exact L2.Sz|exact L2.Rg)
local macro_rules|`(tactic|sizeOf_list_dec)=>`(tactic|with_reducible first|exact L2.aaX|exact L2.NG|exact L2.QF|exact L2.TC)
local macro_rules|`(tactic|sizeOf_list_dec)=>`(tactic|with_reducible first|exact L2.Ki|exact L2.VF|exact L2.V7)
local macro_rules|`(tactic|sizeOf_list_dec)=>`(tactic|with_reducible first|exact L2.QQ|exact L2.UK|exact L2.MU|exact L2.Mt)
local macro_rules|`(tactic|sizeOf_list_dec)=>`(tactic|with_reducible first|exact L2.QP|exact L2.M5|exact L2.NK|exact L2.HP)
local macro_rules|`(tactic|sizeOf_list_dec)=>`(tactic|with_reducible first|exact L2.Mq|exact L2.QV|exact L2.Kg|exact L2.DG)
local macro_rules|`(tactic|sizeOf_list_dec)=>`(tactic|with_reducible first|exact L2.Ny|exact L2.Sw|exact L2.WZ|exact L2.UR)
local macro_rules|`(tactic|sizeOf_list_dec)=>`(tactic|with_reducible first|exact L2.abv|exact L2.Tr|exact L2.Nq|exact L2.Vf)
local macro_rules|`(tactic|decreasing_trivial_pre_omega)=>`(tactic|first|assumption|(apply L2.bZ.of;assumption)|(apply L2.c8.of;assumption)|(refine Or.inl ?_;assumption)|(refine Or.inl ?_;apply L2.bZ.of;assumption)|(refine Or.inr ?_;apply L2.c8.of;assumption))
local macro_rules|`(tactic|bv_omega)=>`(tactic|first|assumption|exact L2.m6 (j := 0) rfl|exact L2.m6 (j := 1) rfl|exact L2.m6 (j := 2) rfl|exact L2.m6 (j := 3) rfl|exact L2.m6 (j := 4) rfl|exact L2.m6 (j := 5) rfl)
local macro_rules|`(tactic|array_get_dec)=>`(tactic|array_mem_dec)
local macro_rules|`(tactic|array_get_dec)=>`(tactic|with_reducible first|refine L2.adM ?_|refine L2.aeB ?_|refine L2.ad7 ?_)
local macro_rules|`(tactic|array_get_dec)=>`(tactic|with_reducible first|refine L2.WB ?_|refine L2.ac0 ?_|refine L2.aeg ?_|refine L2.abY ?_)
local macro_rules|`(tactic|array_get_dec)=>`(tactic|with_reducible first|refine L2.ad5 ?_|refine L2.afr ?_|refine L2.adH ?_|refine L2.acH ?_)
local macro_rules|`(tactic|array_get_dec)=>`(tactic|with_reducible first|refine L2.aev ?_|refine L2.ab3 ?_|refine L2.adP ?_|refine L2.XI ?_)
local macro_rules|`(tactic|array_get_dec)=>`(tactic|with_reducible first|refine L2.VT ?_|refine L2.adb ?_|refine L2.XW ?_|refine L2.acN ?_)
local macro_rules|`(tactic|array_get_dec)=>`(tactic|with_reducible first|refine L2.ae4 ?_|refine L2.adX ?_|refine L2.abf ?_|refine L2.afC ?_)
local macro_rules|`(tactic|array_get_dec)=>`(tactic|with_reducible first|refine L2.afu ?_|refine L2.x_U ?_|refine L2.aeE ?_|refine L2.aes ?_)
local macro_rules|`(tactic|array_get_dec)=>`(tactic|with_reducible first|refine L2.abc ?_|refine L2.ae6 ?_|refine L2.pQ ?_|refine L2.abi ?_)
local macro_rules|`(tactic|array_get_dec)=>`(tactic|with_reducible first|refine L2.af1 ?_|refine L2.aeD ?_|refine L2.abD ?_|refine L2.adC ?_)
local macro_rules|`(tactic|array_get_dec)=>`(tactic|with_reducible first|refine L2.x_b ?_|refine L2.aa3 ?_|refine L2.XA ?_|refine L2.aeS ?_)
local macro_rules|`(tactic|array_get_dec)=>`(tactic|with_reducible first|refine L2.afz ?_|refine L2.af3 ?_|refine L2.abb ?_|refine L2.adZ ?_)
local macro_rules|`(tactic|array_get_dec)=>`(tactic|with_reducible first|refine L2.abq ?_|refine L2.aba ?_|refine L2.ae8 ?_|refine L2.abF ?_)
local macro_rules|`(tactic|array_get_dec)=>`(tactic|with_reducible first|refine L2.afF ?_|refine L2.x_c ?_|refine L2.adY ?_|refine L2.aed ?_)
local macro_rules|`(tactic|array_get_dec)=>`(tactic|with_reducible first|refine L2.acG ?_|refine L2.aaQ ?_|refine L2.acM ?_|refine L2.aea ?_)
local macro_rules|`(tactic|array_get_dec)=>`(tactic|with_reducible first|refine L2.abj ?_|refine L2.aaY ?_|refine L2.aa4 ?_|refine L2.abm ?_)
local macro_rules|`(tactic|array_mem_dec)=>`(tactic|((with_reducible apply L2.acR);decreasing_trivial_pre_omega;rfl))
local macro_rules|`(tactic|array_mem_dec)=>`(tactic|((with_reducible apply L2.ad0);exact rfl))
local macro_rules|`(tactic|array_mem_dec)=>`(tactic|((with_reducible apply L2.x_I);sizeOf_list_dec))
local macro_rules|`(tactic|array_mem_dec)=>`(tactic|((with_reducible apply L2.aeL);decreasing_trivial_pre_omega;bv_omega))
local macro_rules|`(tactic|array_mem_dec)=>`(tactic|((with_reducible apply L2.ael);decreasing_trivial_pre_omega;bv_omega))
local macro_rules|`(tactic|array_mem_dec)=>`(tactic|((with_reducible apply L2.adF);decreasing_trivial_pre_omega))
local macro_rules|`(tactic|array_mem_dec)=>`(tactic|((with_reducible apply L2.acK);decreasing_trivial_pre_omega))
local macro_rules|`(tactic|array_mem_dec)=>`(tactic|((with_reducible apply L2.adJ);decreasing_trivial_pre_omega))
local macro_rules|`(tactic|array_mem_dec)=>`(tactic|((with_reducible apply L2.abd);decreasing_trivial_pre_omega))
local macro_rules|`(tactic|array_mem_dec)=>`(tactic|((with_reducible apply L2.aeN);sizeOf_list_dec))
local macro_rules|`(tactic|array_mem_dec)=>`(tactic|((with_reducible apply L2.aeK);sizeOf_list_dec))
local macro_rules|`(tactic|array_mem_dec)=>`(tactic|((with_reducible apply L2.Vj);assumption;sizeOf_list_dec))
local macro_rules|`(tactic|array_mem_dec)=>`(tactic|((with_reducible apply L2.Sy);assumption;assumption;sizeOf_list_dec))
local macro_rules|`(tactic|array_mem_dec)=>`(tactic|((with_reducible apply L2.VE);decreasing_trivial_pre_omega))
local macro_rules|`(tactic|array_mem_dec)=>`(tactic|with_reducible refine L2.Su ?_)
local macro_rules|`(tactic|array_mem_dec)=>`(tactic|((with_reducible apply L2.WS);decreasing_trivial_pre_omega))
local macro_rules|`(tactic|array_mem_dec)=>`(tactic|((with_reducible apply L2.aeC);decreasing_trivial_pre_omega;bv_omega))
local macro_rules|`(tactic|array_mem_dec)=>`(tactic|with_reducible refine L2.afW ?_)
local macro_rules|`(tactic|array_mem_dec)=>`(tactic|with_reducible first|refine L2.ad8 ?_|refine L2.aa8 ?_|refine L2.WW ?_|refine L2.acI ?_)
local macro_rules|`(tactic|array_mem_dec)=>`(tactic|with_reducible first|refine L2.afp ?_|refine L2.adB ?_|refine L2.ab1 ?_|refine L2.aa0 ?_)
local macro_rules|`(tactic|array_mem_dec)=>`(tactic|((with_reducible refine L2.MX ?_);(with_reducible refine L2.MX ?_);(with_reducible apply L2.ME);assumption;sizeOf_list_dec))
local macro_rules|`(tactic|array_mem_dec)=>`(tactic|((with_reducible refine L2.MX ?_);(with_reducible apply L2.ME);assumption;sizeOf_list_dec))
local macro_rules|`(tactic|array_mem_dec)=>`(tactic|((with_reducible apply L2.ME);assumption;sizeOf_list_dec))
local macro_rules|`(tactic|array_mem_dec)=>`(tactic|((with_reducible apply L2.abr);assumption;sizeOf_list_dec;sizeOf_list_dec;sizeOf_list_dec))
local macro_rules|`(tactic|array_mem_dec)=>`(tactic|((with_reducible apply L2.adO);assumption;sizeOf_list_dec;sizeOf_list_dec;sizeOf_list_dec))
local macro_rules|`(tactic|array_mem_dec)=>`(tactic|((with_reducible apply L2.aeR);decreasing_trivial_pre_omega;assumption))
local macro_rules|`(tactic|array_mem_dec)=>`(tactic|((with_reducible apply L2.acQ);decreasing_trivial_pre_omega))
local macro_rules|`(tactic|array_mem_dec)=>`(tactic|((with_reducible apply L2.Wo);assumption;assumption;sizeOf_list_dec))
local macro_rules|`(tactic|array_mem_dec)=>`(tactic|((with_reducible apply L2.SW);decreasing_trivial_pre_omega))
local macro_rules|`(tactic|array_mem_dec)=>`(tactic|with_reducible first|refine L2.Xe ?_|refine L2.ac3 ?_)
local macro_rules|`(tactic|array_mem_dec)=>`(tactic|((with_reducible apply L2.aen);assumption))
local macro_rules|`(tactic|array_mem_dec)=>`(tactic|((with_reducible apply L2.aaO);decreasing_trivial_pre_omega;decreasing_trivial_pre_omega))
local macro_rules|`(tactic|array_mem_dec)=>`(tactic|with_reducible refine L2.abp ?_)
local macro_rules|`(tactic|array_mem_dec)=>`(tactic|with_reducible refine L2.WO ?_)
local macro_rules|`(tactic|array_mem_dec)=>`(tactic|with_reducible refine L2.XQ ?_)
local macro_rules|`(tactic|array_mem_dec)=>`(tactic|((with_reducible apply L2.aeM);assumption;sizeOf_list_dec))
local macro_rules|`(tactic|array_mem_dec)=>`(tactic|with_reducible refine L2.Qv ?_)
local macro_rules|`(tactic|cbv)=>`(tactic|repeat' (first|array_get_dec|fail))
namespace K70
open PySem L2
section
set_option hygiene false in
local macro_rules|`(∅)=>`(aw P w K mg base bo)
variable{K:Ye}{f b a Pt:Yc}{fd:Yr}{H H' A B:Hp}{v:V}{σ:St}{Q:VK}{m j m':List (Int×Int)}{hs:List Int}{ps:List (List cj×V)}{ns gs:List Nm}{ws:List V}{last:Option Int}{tb tb':List (Int×List (Int×Int))}{h g:Int}{i:Nat}{rs:List (Int×V)}{F:List Yc}{u:HO}{t0:agl}{us:List Yd}
variable{P:YU}{w:YZ}{mg:Yh->Option Yd}{base:YO}
def uo(K:Ye):Sp:=λvs H Q _=>E3 fun(d:Yc) (m:List (Int×Int)) (h:Int)=>vs=[.ref d,.int h]/\(Rd H d (.dK (dI m))/\Q (.int (ct m h)) H)
abbrev Rl:List Yh:=["counts","hand"]
theorem Lz:aq ["counts","hand"] Rl (ah wM):=d5
def lZ(K:Ye):Sp:=λvs H Q _=>E3 fun(a:Yc) (xs:List V) (ms:List (List (Int×Int)))=>vs=[.ref a]/\(A5 (bZ K H a xs) (VW H xs ms) ((∀m∈ms,Ck m)) (ms.length<=10) (∀(H':Hp) (l:Yc) (S:List Int),aG H H'->H' l=Ya (.lst (S.map V.int))->S.Nodup->(∀k,k∈S↔∃m∈ms,k∈m.map (·.1))->Q (.ref l) H'))
abbrev Em:List Yh:=["some"]
theorem mM:aq ["some","hands","counts"] Em (ah pL):=d5
def Ao(K:Ye):Sp:=λvs H Q _=>E4 fun(d e:Yc) (m n:List (Int×Int))=>vs=[.ref d,.ref e]/\(A5 (Rd H d (.dK (dI m))) (Rd H e (.dK (dI n))) (Ck m) (Ck n) (∀H',aG H H'->Q (.bl (cov m n)) H'))
abbrev EA:List Yh:=["one","other"]
theorem Qp:aq ["one","other"] EA (ah EL):=d5
def uu(K:Ye):Sp:=λvs H Q _=>E3 fun(a:Yc) (xs:List V) (ps:List (Int×Int))=>vs=[.ref a]/\(A5 ((bZ K H a xs∨c8 K H a xs)) (qP H xs ps) (ps.length<=1000) ((ps.map (·.1)).Nodup) (∀(H':Hp) (d:Yc),aG H H'->H d=Yb->H' d=Ya (.dK (dI (iN ps)))->Q (.ref d) H'))
abbrev RS:List Yh:=["pairs"]
theorem KA:aq ["pairs"] RS (ah wV):=d5
def AS(K:Ye):Sp:=λvs H Q _=>E4 fun(d e:Yc) (m n:List (Int×Int))=>vs=[.ref d,.ref e]/\(A5 (Rd H d (.dK (dI m))) (Rd H e (.dK (dI n))) (Ck m) (Ck n) (∀(H':Hp) (p:Yc) (j:List (Int×Int)),aG H H'->H p=Yb->H' p=Ya (.dK (dI j))->Td j->(∀k,Uu [m,n] k (ct j k))->Q (.ref p) H'))
theorem QN:aq ["one","other"] EA (ah Ej):=d5
def my(K:Ye):Sp:=λvs H Q _=>E2 fun(d a:Yc)=>vs=[.ref d,.ref a]/\(E4 λm n h c=>A3 (Rd H d (.dK (dI m))) (c8 K H a [.int n,.int h,.int c]) (Q (.bl (decide (c<=ct m h))) H))
abbrev RL:List Yh:=["counts","name"]
theorem DA:aq ["counts","name"] RL (ah pF):=d5
def JU(K:Ye)(v:V):Prop:=∃a,v=.ref a/\∀H,c8 K H a [.str "own",.str "heard",.str "one"]
def jv(K:Ye):Sp:=λvs H Q _=>E6 fun(p:Yc) (n c k w cs:V)=>vs=[.ref p,n,c,k,w,cs]/\(E2 λC dx=>A3 (kT K C) (H p=Ya (.ins C dx [])) (∀H',Om p H H'->H' p=Ya (.ins C dx (z5 n c k w cs))->Q .non H'))
def kU(K:Ye):Sp:=λvs H Q _=>E6 fun(p:Yc) (n c k w cs:V)=>vs=[.ref p,n,c,k,w,cs]/\(E2 λC dx=>A3 (kT K C) (H p=Ya (.ins C dx [])) (∀H' t,(∀b o,H b=Ya o->b≠p->H' b=Ya o)->H' t=Ya (.tup [])->H' p=Ya (.ins C dx (z5 n c k w (.ref t)))->Q .non H'))
abbrev Fl:List Yh:=["self","number","caller","count","word","causes"]
theorem An:aq ["self","number","caller","count","word","causes"] Fl (ah kO):=d5
theorem vj:aq ["self","number","caller","count","word","causes"] Fl (ah iE):=d5
def Fd(K:Ye):Sp:=λvs H Q _=>∃(w:Int),vs=[.int w]/\Q (.bl (decide ((if w<0 then-w else w)<10^(60:Int).toNat))) H
def KdC(mg:Yh->Option Yd)(kd:Yh)(C:Yc):Prop:=(kd="own"/\mg "OwnCall"=Ya (.ref C))∨(kd="heard"/\mg "HeardCall"=Ya (.ref C))∨(kd="one"/\mg "OneCall"=Ya (.ref C))
def yH(K:Ye)(mg:Yh->Option Yd):Sp:=λvs H Q _=>E6 fun(n c k:Int) (kd:Yh) (w:Int) (t:Yc)=>vs=[.int n,.int c,.int k,.str kd,.int w,.ref t]/\∃xs,A4 ((kd="own"∨kd="heard"∨kd="one")) ((if w<0 then-w else w)<10^(60:Int).toNat) (H t=Ya (.tup xs)) (∀H' p C dx t',aG H H'->H p=Yb->KdC mg kd C->kT K C->H' p=Ya (.ins C dx (z5 (.int n) (.int c) (.int k) (.int w) (.ref t')))->H' t'=Ya (.tup (if kd="own"then[]else xs))->Q (.ref p) H')
def Bs(K:Ye):Sp:=λvs H Q _=>∃(w:Int),vs=[.int w]/\Q (.bl true) H
abbrev qp:List Yh:=["value"]
theorem LS:aq ["value"] qp (ah xX):=d5
theorem MW:aq ["word"] ["word"] (ah AK):=d5
abbrev SV:List Yh:=["number","caller","count","kind","word","causes"]
theorem IL:aq ["number","caller","count","kind","word","causes"] SV (ah uF):=d5
def kM(K:Ye):Sp:=λvs H Q _=>E2 fun(p d:Yc)=>vs=[.ref p,.ref d]/\(E8 λC dx m n c k w cs=>A4 (kT K C) (H p=Ya (.ins C dx (z5 n (.int c) (.int k) w cs))) (Rd H d (.dK (dI m))) (Q (.bl (decide (ct m c=k-1))) H))
def yu(K:Ye)(mg:Yh->Option Yd):Sp:=λvs H Q _=>E2 fun(p d:Yc)=>vs=[.ref p,.ref d]/\(E8 λC dx m n c k w cs=>A4 (mg "OwnCall"=Ya (.ref C)) (H p=Ya (.ins C dx (z5 n (.int c) (.int k) w cs))) (Rd H d (.dK (dI m))) (Q (.bl (decide (ct m c=k-1))) H))
def oK(K:Ye)(mg:Yh->Option Yd):Sp:=λvs H Q _=>E2 fun(p d:Yc)=>vs=[.ref p,.ref d]/\(E10 λC dx m n c k w t xs ps=>A8 ((mg "HeardCall"=Ya (.ref C)∨mg "OneCall"=Ya (.ref C))) (H p=Ya (.ins C dx (z5 n (.int c) (.int k) w (.ref t)))) (Rd H d (.dK (dI m))) (H t=Ya (.tup xs)) (qP H xs ps) (Ck m) (Ck ps) (∀H',aG H H'->Q (.bl (decide (ct m c=k-1)&&cov m (iN ps))) H'))
theorem abV{ps:List (Int×Int)}(c:Ck ps):Ck (iN ps):=#[HH c.nd,λp hp=>c.nn p ((aab.mp hp).1),λp hp=>c.rg p ((aab.mp hp).1)]
abbrev xS:List Yh:=["self","counts"]
theorem BS:aq ["self","counts"] xS (ah lU):=d5
theorem Ir:aq ["self","counts"] xS (ah tU):=d5
theorem yT:aq ["self","counts"] xS (ah jq):=d5
abbrev JF(m:List (Int×Int))(p:Nm):Prop:=p.2.2<=ct m p.2.1
def pP(K:Ye):Sp:=λvs H Q _=>E3 fun(a d:Yc) (i:Nat)=>vs=[.ref a,.ref d,.int i]/\(E3 λxs m ns=>A6 ((bZ K H a xs∨c8 K H a xs)) (Rd H d (.dK (dI m))) (xZ H xs ns) (i<=ns.length) ((∀k (hk:k<ns.length),k<i->JF m ns[k])) (∀j:Nat,j<=ns.length->(∀k (hk:k<ns.length),k<j->JF m ns[k])->(∀hj:j<ns.length,¬ JF m ns[j])->Q (.int j) H))
abbrev Rz:List Yh:=["places","counts","start"]
theorem oX:aq ["places","counts","start","at"] Rz (ah qX):=d5
def xO(K:Ye):Sp:=λvs H Q _=>E2 fun(a:Yc) (i:Int)=>vs=[.ref a,.int i]/\∃xs,A4 ((bZ K H a xs∨c8 K H a xs)) (0<=i) ((∀v,xs[i.toNat]?=Ya v->Q v H)) ((xs.length<=i.toNat->Q .non H))
abbrev JB:List Yh:=["places","at"]
theorem MY:aq ["places","at"] JB (ah AO):=d5
structure fu where
 kd:Yh
 n:Int
 c:Int
 k:Int
 w:Int
 cs:List (Int×Int)
variable{L:Int->Int->Option (V×fu)}{cs:List fu}{q:V×fu}{zs rw kp' row:List (V×fu)}{c:fu}
def kh(K:Ye)(mg:Yh->Option Yd)(H:Hp)(v:V)(x:fu):Prop:=E5 λp C dx t xs=>A7 (v=.ref p) (KdC mg x.kd C) (kT K C) (H p=Ya (.ins C dx (z5 (.int x.n) (.int x.c) (.int x.k) (.int x.w) (.ref t)))) (H t=Ya (.tup xs)) (qP H xs x.cs) (Ck x.cs)
def KpC(H H':Hp):Prop:=(∀p C dx fs,H p=Ya (.ins C dx fs)->H' p=Ya (.ins C dx fs))/\pT H H'
theorem KpC.same(s:aG H H'):KpC H H':=#[λ_ _ _ _ e=>s _ _ e,.same s]
theorem kh.up(s:KpC H H'){x:fu}(h:kh K mg H v x):kh K mg H' v x:=by
 obtain⟨p,C,dx,t,xs,e1,e2,e3,e4,e5,e6,e7⟩:=h;show#[p,C,dx,t,xs,e1,e2,e3,s.1 _ _ _ _ e4,s.2 _ _ e5,e6.mono s.2,e7]
def lj(K:Ye):Sp:=λvs H Q _=>∃(p:Yc),vs=[.ref p]/\(E7 λC dx n c k w cs=>A3 (kT K C) (H p=Ya (.ins C dx (z5 n c k w cs))) (∀H' t,aG H H'->H t=Yb->H' t=Ya (.tup [n,c,k])->Q (.ref t) H'))
abbrev ay:List Yh:=["self"]
theorem IC:aq ["self"] ay (ah t8):=d5
def yO(K:Ye):Sp:=λvs H Q _=>∃(p:Yc),vs=[.ref p]/\(E7 λC dx n c k w cs=>A3 (kT K C) (H p=Ya (.ins C dx (z5 n c k w cs))) (∀H' t,aG H H'->H t=Yb->H' t=Ya (.tup [c,k])->Q (.ref t) H'))
theorem Ia:aq ["self"] ay (ah uA):=d5
def iF(K:Ye):Sp:=λvs H Q _=>∃(p:Yc),vs=[.ref p]/\Q (.bl false) H
def f6(K:Ye):Sp:=λvs H Q _=>∃(p:Yc),vs=[.ref p]/\Q (.bl true) H
theorem xJ:aq ["self"] ay (ah iQ):=d5
theorem sG:aq ["self"] ay (ah gN):=d5
noncomputable def Xq(m:List (Int×Int))(x:fu):Bool:=decide (ct m x.c=x.k-1)&&(decide (x.kd="own")||cov m (iN x.cs))
noncomputable def Jt(m:List (Int×Int))(x:fu)(o:Option Nm):Bool:=Xq m x&&(!decide (x.kd="one")||decide (o=Ya (x.n,x.c,x.k)))
def NaV(H:Hp)(v:V):Option Nm->Prop
 |none=>v=.non
 |some q=>BM H v q
theorem NaV.up(s:pT H H'){o:Option Nm}(h:NaV H v o):NaV H' v o:=by
 cases o with
 |none=>show h
 |some q=>obtain⟨a,e1,e2⟩:=h;show#[a,e1,s _ _ e2]
noncomputable def naD:Option Nm->ae2
 |none=>.none
 |some q=>Sv q
theorem ad9{o:Option Nm}(h:NaV H v o):Dl K H v (naD o):=by
 cases o with
 |none=>obtain rfl:v=.non:=h;show .inl .none
 |some q=>show .inl (BM.dp h)
theorem ada(o:Option Nm):(naD o).canLay0=true:=by
 cases o with
 |none=>rfl
 |some q=>show UJ q
theorem aa5(o:Option Nm):(naD o).depth<=60:=by
 cases o with
 |none=>change 0<=60;decide
 |some q=>change 1<=60;decide
theorem adA(q r:Nm):(Sv q).eqv (Sv r)=decide (r=q):=by
 have e:(Sv q).eqv (Sv r)=(decide (q.1=r.1)&&(decide (q.2.1=r.2.1)&&(decide (q.2.2=r.2.2)&&true))):=by rfl
 rw[e];obtain⟨a,b,c⟩:=q;obtain⟨x,y,z⟩:=r;by_cases h:(x,y,z)=(a,b,c)
 .cases h;simp
 .rw[decide_eq_false h];simp at h⊢;intro h1 h2 h3;show h h1.symm h2.symm h3.symm
theorem aej(q:Nm)(o:Option Nm):(Sv q).eqv (naD o)=decide (o=Ya q):=by
 cases o with
 |none=>rfl
 |some r=>
  change(Sv q).eqv (Sv r)=_;rw[adA];by_cases z:r=q
  .rw[z,decide_eq_true rfl,decide_eq_true rfl]
  .rw[decide_eq_false z,decide_eq_false (λw=>z (YM w))]
def xV(K:Ye)(mg:Yh->Option Yd):Sp:=λvs H Q _=>∃(v:V),vs=[v]/\∃x,kh K mg H v x/\∀H' t,aG H H'->H t=Yb->H' t=Ya (.tup [.int x.c,.int x.k])->Q (.ref t) H'
abbrev uS:List Yh:=["call"]
theorem M3:aq ["call"] uS (ah AF):=d5
theorem aeH:decide (("own":Yh)="own")=true:=by decide +kernel
theorem adu:decide (("heard":Yh)="own")=false:=by decide +kernel
theorem VD:decide (("one":Yh)="own")=false:=by decide +kernel
theorem aaa:decide (("own":Yh)="one")=false:=by decide +kernel
theorem aai:decide (("heard":Yh)="one")=false:=by decide +kernel
theorem aaH:decide (("one":Yh)="one")=true:=by decide +kernel
def rW(K:Ye)(mg:Yh->Option Yd):Sp:=λvs H Q _=>E3 fun(v:V) (d:Yc) (y:V)=>vs=[v,.ref d,y]/\(E3 λx m o=>A5 (kh K mg H v x) (Rd H d (.dK (dI m))) (Ck m) (NaV H y o) (∀H',aG H H'->Q (.bl (Jt m x o)) H'))
abbrev Ll:List Yh:=["call","counts","name"]
theorem Ca:aq ["call","counts","name"] Ll (ah mO):=d5
theorem XF{td ty:TE}(h:td σ H λx H1=>∃a,x=.ref a/\IsD H1 a/\ty σ H1 λy H2=>∃o,ud H2 a y o/\Q (o.getD .non) H2):TM td ty σ H Q:=h
structure RkA(K:Ye)(mg:Yh->Option Yd)(H:Hp)(D:Yc)(L:Int->Int->Option (V×fu)):Prop where
 dc:∃kvs,H D=Ya (.dT kvs)/\∀a b,hX kvs [YG a,YG b]=(L a b).map (·.1)
 cl:∀a b v x,L a b=Ya (v,x)->kh K mg H v x/\x.c=a/\x.k=b
theorem RkA.same{D:Yc}(h:RkA K mg H D L)(s:aG H H'):RkA K mg H' D L:=by
 obtain⟨⟨kvs,e1,e2⟩,e3⟩:=h;show#[#[kvs,s _ _ e1,e2],λa b v x e=>#[(e3 a b v x e).1.up (.same s),(e3 a b v x e).2]]
noncomputable def Js(L:Int->Int->Option (V×fu))(m:List (Int×Int))(o:Option Nm)(h:Int):Option (V×fu):=(L h (ct m h+ 1)).bind λq=>if Jt m q.2 o=true then Ya q else Yb
noncomputable def fst(hs:List Int)(L:Int->Int->Option (V×fu))(m:List (Int×Int))(o:Option Nm):Option (V×fu):=hs.findSome? (Js L m o)
noncomputable def fsv:Option (V×fu)->V
 |none=>.non
 |some q=>q.1
def qj(K:Ye)(mg:Yh->Option Yd):Sp:=λvs H Q _=>E4 fun(a D d:Yc) (y:V)=>vs=[.ref a,.ref D,.ref d,y]/\(E4 λhs L m o=>A6 (bZ K H a (hs.map V.int)) (RkA K mg H D L) (Rd H d (.dK (dI m))) (Ck m) (NaV H y o) (∀H',aG H H'->Q (fsv (fst hs L m o)) H'))
abbrev Mj:List Yh:=["callers","ranked","counts","name"]
theorem jG:aq ["callers","ranked","counts","name","caller","call"] Mj (ah kN):=d5
noncomputable def frl(hs:List Int)(l:Int):List Int:=(hs.filter λh=>decide (l<=h))++hs.filter λh=>decide (h<l)
def rG(K:Ye):Sp:=λvs H Q _=>E2 fun(a:Yc) (l:Int)=>vs=[.ref a,.int l]/\∃hs:List Int,bZ K H a (hs.map V.int)/\hs.length<=400/\∀H' q,aG H H'->H q=Yb->H' q=Ya (.lst ((frl hs l).map V.int))->Q (.ref q) H'
abbrev KH:List Yh:=["callers","last"]
theorem BX:aq ["callers","last"] KH (ah mj):=d5
noncomputable def Md(ns:List Nm)(m:List (Int×Int)):Option Nm:=ns.find? λp=>!decide (JF m p)
theorem Tn{m:List (Int×Int)}:∀{ns:List Nm} {j:Nat},(∀k (hk:k<ns.length),k<j->JF m ns[k])->(∀hj:j<ns.length,¬ JF m ns[j])->j<=ns.length->Md ns m=ns[j]?
 |[],j,_,_,_=>by simp[Md]
 |p::ns,0,_,h,_=>by
  have:=h (by simp);unfold Md;rw[ajV (by simpa using this)];rfl
 |p::ns,j+ 1,h1,h2,h3=>by
  have hp:=h1 0 (by simp) (by omega);have ih:=Tn (m:=m) (ns:=ns) (j:=j) (λk hk hkj=>h1 (k+ 1) (alz hk) (by omega)) (λhj=>h2 (alz hj)) (by simpa using h3);unfold Md at ih⊢;rw[List.find?_cons_of_neg (by simpa using hp),ih];simp
noncomputable def frm(hs:List Int):Option Int->List Int
 |none=>hs
 |some l=>frl hs l
noncomputable def CU(cs:List (V×fu))(a b:Int):Option (V×fu):=cs.reverse.find? λq=>decide (q.2.c=a/\q.2.k=b)
inductive Fw (hs:List Int) (L:Int->Int->Option (V×fu)) (ns:List Nm) (m0:List (Int×Int)):List (V×fu)->Option Int->List (Int×Int)->Prop
 |start:Fw hs L ns m0 [] Yb m0
 |step {rw:List (V×fu)} {last:Option Int} {m:List (Int×Int)} {v:V} {x:fu}:Fw hs L ns m0 rw last m->fst (frm hs last) L m (Md ns m)=Ya (v,x)->Fw hs L ns m0 (rw++[(v,x)]) (Ya x.c) (gC m x.c x.k)
theorem flt{α:Type}{p q:α->Bool}:∀{l:List α},(∀a∈l,q a=true->p a=true)->∀{x:α},x∈l->p x=true->q x=false->(l.filter q).length<(l.filter p).length
 |a::l,h,x,hx,px,qx=>by
  have hl:(l.filter q).length<=(l.filter p).length:=by
   have:∀(l':List α),(∀a∈l',q a=true->p a=true)->(l'.filter q).length<=(l'.filter p).length:=by
    intro l'
    induction l' with
    |nil=>intro _;show Ym _
    |cons b l' ih=>
     intro hb;have i:=ih λa ha=>hb a (Yx _ ha);have:=hb b Yy;rw[xy,xy];cases z:q b
     .cases w:p b<;>simp<;>omega
     .rw[this z];simp;omega
   show this l λb hb=>h b (Yx _ hb)
  rcases Yq.mp hx with z|z
  .rw[←z,xy,xy,px,qx];simp;omega
  .have i:=flt (l:=l) (λb hb=>h b (Yx _ hb)) z px qx;have ha:=h a Yy;rw[xy,xy];cases y:q a
   .cases w:p a<;>simp<;>omega
   .rw[ha y];simp;omega
noncomputable def mz(cs:List fu)(m:List (Int×Int)):Nat:=(cs.filter λq=>decide (ct m q.c<q.k)).length
theorem X9{x:fu}(hx:x∈cs)(hk:x.k=ct m x.c+ 1):mz cs (gC m x.c x.k)<mz cs m:=by
 unfold mz;show flt (λq _ h=>?_) hx (decide_eq_true (by omega)) (decide_eq_false ?_)
 .have h:=of_decide_eq_true h;rw[AI]at h;show decide_eq_true ?_;by_cases z:q.c=x.c
  .rw[if_pos z]at h;rw[z];omega
  .rw[if_neg z]at h;show h
 .rw[AI,if_pos rfl];omega
theorem Ct{o:Option Nm}{x:fu}(h:fst hs L m o=Ya (v,x)):∃h∈hs,L h (ct m h+ 1)=Ya (v,x)/\Jt m x o=true:=by
 unfold fst at h;obtain⟨h',hm,e⟩:=List.exists_of_findSome?_eq_some h;show#[h',hm,?_];unfold Js at e;cases z:L h' (ct m h'+ 1)with
 |none=>rw[z]at e;cases e
 |some q=>
  rw[z]at e;have e:(if Jt m q.2 o=true then Ya q else Yb)=Ya (v,x):=e;by_cases w:Jt m q.2 o=true
  .rw[if_pos w]at e;cases e;show#[rfl,w]
  .rw[if_neg w]at e;cases e
theorem qZ{cs:List (V×fu)}{a b:Int}(h:CU cs a b=Ya q):q∈cs/\q.2.c=a/\q.2.k=b:=by
 unfold CU at h;have h1:=ai4 h;have h2:=alX h;have h2:=of_decide_eq_true h2;show#[ajr.mp h1,h2]
theorem RB{k:List cj}:∀(ps:List (List cj×V)) (acc:List (List cj×V)),hX (ps.foldl (λacc p=>iP acc p.1 p.2) acc) k=((ps.reverse.find? λp=>decide (p.1=k)).map (·.2)).or (hX acc k):=by
 intro ps
 induction ps with
 |nil=>intro acc;rfl
 |cons p ps ih=>
  intro acc;rw[agN,ih,List.reverse_cons,alc];cases z:ps.reverse.find? λp=>decide (p.1=k)with
  |some q=>rfl
  |none=>
   rw[ahB,Ve,agd];by_cases w:k=p.1
   .rw[if_pos w,decide_eq_true w.symm];rfl
   .rw[if_neg w,decide_eq_false (λu=>w u.symm)];rfl
abbrev J4(K:Ye)(mg:Yh->Option Yd)(H:Hp):List V->List fu->Prop:=Aq (kh K mg H)
theorem ub(s:KpC H H'){vs:List V}(h:J4 K mg H vs cs):J4 K mg H' vs cs:=Aq.mapP h λ_ _ z=>z.up s
noncomputable def rkp(q:V×fu):List cj×V:=([YG q.2.c,YG q.2.k],q.1)
theorem Xk(cs:List (V×fu))(a b:Int):hX (lP (cs.map rkp)) [YG a,YG b]=(CU cs a b).map (·.1):=by
 unfold lP;rw[RB];have e:(hX ([]:List (List cj×V)) [YG a,YG b])=none:=rfl;rw[e,Option.or_none,←List.map_reverse,List.find?_map,amc];unfold CU;have e2:((λp:List cj×V=>decide (p.1=[YG a,YG b]))∘rkp)=λq:V×fu=>decide (q.2.c=a/\q.2.k=b):=by
  funext q;change decide (([YG q.2.c,YG q.2.k]:List cj)=[YG a,YG b])=_;congr 1;simp
 rw[e2];rfl
theorem HS(s:pT H H'){xs:List V}(h:JA H xs ps):JA H' xs ps:=Aq.mapP h λ_ _ ⟨a,b,e1,e2,e3⟩=>#[a,b,e1,s _ _ e2,s _ _ e3]
theorem GD:∀{xs:List V} {ps:List (List cj×V)} {x:V} {p:List cj×V},JA H xs ps->(∃a b,x=.ref a/\H a=Ya (.tup [.ref b,p.2])/\H b=Ya (.tup (p.1.map kV)))->JA H (xs++[x]) (ps++[p]):=by
 intro x0 x1 x2 x3 w h
 induction w with
 |nil=>show .cons h .nil
 |cons r _ ih=>show .cons r ih
theorem LV{α β:Type}:∀(l:List α) (m:List β) (i:Nat) {a:α} {b:β},l[i]?=Ya a->m[i]?=Ya b->(l.zip m).take (i+ 1)=(l.zip m).take i++[(a,b)]:=by
 intro l m i a b h1 h2;show bI (by rw[agk];show#[h1,h2])
theorem Qy{n:List (Int×Int)}{k b:Int}(h:Uu [m,n] k b):b=max (ct m k) (ct n k):=by
 obtain⟨⟨q,hq,e⟩,u⟩:=h;have u1:=u m (by simp);have u2:=u n (by simp);simp at hq;rcases hq with z|z<;>rw[z]at e<;>omega
theorem CH{α β:Type}{F:α->β->Prop}:∀{l:List α} {m:List β} {q:α×β},Aq F l m->q∈l.zip m->F q.1 q.2:=by
 intro a b q w h
 induction w with
 |nil=>simp at h
 |cons r _ ih=>
  rw[aiG]at h;rcases Yq.mp h with z|z
  .rw[z];show r
  .show ih z
theorem Kl{xs:List V}(s:∀o,H b=Ya o->A b=Ya o)(h:bZ K H b xs∨c8 K H b xs):bZ K A b xs∨c8 K A b xs:=by
 rcases h with h|h
 .show .inl ?_;rcases h with(h|⟨z,h⟩)|h
  .show .inl (.inl (s _ h))
  .show .inl (.inr #[z,s _ h])
  .show .inr h
 .show .inr ?_;rcases h with(h|⟨z,h⟩)|h
  .show .inl (.inl (s _ h))
  .show .inl (.inr #[z,s _ h])
  .show .inr h
theorem VU{k v:Int}(t:Td m)(k0:0<=k)(k1:k<63)(hv:0<v):Td (gC m k v):=by
 show#[t.toCk.put k0 k1 (by omega),λe he=>?_];rcases zq _ _ _ _ he with z|z
 .rw[z];show hv
 .show t.ps e z
theorem JH{Q':VK}{xs:List V}{j:Nat}(hP:bZ K A b xs∨c8 K A b xs)(hn:xZ A xs ns)(h1:j<=ns.length)(h2:∀k (hk:k<ns.length),k<j->JF m ns[k])(h3:∀hj:j<ns.length,¬ JF m ns[j])(q:∀y,NaV A y (Md ns m)->Q' y A):xO K [.ref b,.int j] A Q' E0:=by
 have e:=Tn h2 h3 h1;show#[b,j,rfl,xs,hP,by omega,λv hv=>q v ?_,λhv=>q .non ?_]
 .rw[YK]at hv;obtain⟨p,hp,na⟩:=hn.get hv;rw[e,hp];show na
 .rw[YK]at hv;have:=hn.len;rw[e,agf (by omega)];rfl
def Ng(K:Ye)(mg:Yh->Option Yd):Sp:=λvs H Q _=>E3 fun(d a b:Yc)=>vs=[.ref d,.ref a,.ref b]/\(E5 λm ws cs xs ns=>A9 (Rd H d (.dK (dI m))) (Ck m) (bZ K H a ws) (J4 K mg H ws cs) (cs.length<=60) ((∀x∈cs,0<=x.c/\x.c<63)) ((bZ K H b xs∨c8 K H b xs)) (xZ H xs ns) (∀H' t l r hs m0 rw last m',aG H H'->H l=Yb->H r=Yb->H' t=Ya (.tup [.ref l,.ref r])->H' l=Ya (.lst ((rw:List (V×fu)).map (·.1)))->H' r=Ya (.dK (dI m'))->Td m'->hs.Pairwise (·<·)->(∀h,h∈hs↔∃x∈cs,x.c=h)->Td m0->(∀k,ct m0 k=ct m k)->Fw hs (CU (ws.zip cs)) ns m0 rw last m'->fst (frm hs last) (CU (ws.zip cs)) m' (Md ns m')=Yb->Q (.ref t) H'))
abbrev ug:List Yh:=["counts","calls","places"]
theorem rf:aq ["counts","calls","places","reached","ranked","callers","row","at","call"] ug (ah Vo):=d5
noncomputable def mZ(m:List (Int×Int))(x:fu):Bool:=decide (x.kd="one")&&Xq m x
def LaR(zs:List (V×fu))(m:List (Int×Int)):Option (V×fu)->Prop
 |none=>∀q∈zs,mZ m q.2=false
 |some q=>q∈zs/\mZ m q.2=true/\∀q'∈zs,mZ m q'.2=true->HT.gh [q'.2.c,q'.2.k] [q.2.c,q.2.k]=false
def rN(K:Ye)(mg:Yh->Option Yd):Sp:=λvs H Q _=>E2 fun(a d:Yc)=>vs=[.ref a,.ref d]/\(E3 λws cs m=>A6 (bZ K H a ws) (J4 K mg H ws cs) (cs.length<=60) (Rd H d (.dK (dI m))) (Ck m) (∀H' o,aG H H'->LaR (ws.zip cs) m o->Q (fsv o) H'))
abbrev LX:List Yh:=["calls","counts"]
theorem Cg:aq ["calls","counts"] LX (ah mE):=d5
def Rk1(zs:List (V×fu)):Prop:=∀q∈zs,∀r∈zs,q.2.c=r.2.c->q.2.k=r.2.k->q=r
theorem Wx(u:Rk1 zs)(h:q∈zs):CU zs q.2.c q.2.k=Ya q:=by
 cases z:CU zs q.2.c q.2.k with
 |none=>
  unfold CU at z;have:=agO.mp z q (ajr.mpr h);show absurd (decide_eq_true #[rfl,rfl]) this
 |some r=>
  obtain⟨e1,e2,e3⟩:=qZ z;rw[u r e1 q h e2 e3]
theorem Sl(h:∀k,ct m k=ct m' k):mz cs m=mz cs m':=by
 unfold mz;congr 1;show congrArg (λf=>cs.filter f) ?_;funext q;rw[h]
theorem ad4{m0:List (Int×Int)}(h:Fw hs (CU (ws.zip cs)) ns m0 rw last m):rw.length+ mz cs m<=mz cs m0:=by
 induction h with
 |start=>rw[afo];omega
 |step f e ih=>
  obtain⟨h,_,e1,_⟩:=Ct e;obtain⟨e2,e3,e4⟩:=qZ e1;have:=X9 (agc e2).2 (by rw[e3];show e4);rw[Yz,abS];omega
theorem X5{m0:List (Int×Int)}(h:Fw hs L ns m0 rw last m)(e:fst (frm hs last) L m (Md ns m)=Yb)(n:fst hs L m0 (Md ns m0)≠Yb):0<rw.length:=by
 cases h with
 |start=>show absurd e n
 |step=>rw[Yz,abS];omega
theorem NO{x:fu}(h:mZ m x=true):x.kd="one"/\ct m x.c=x.k-1:=by
 unfold mZ Xq at h;simp at h;show#[h.1,h.2.1]
theorem acy{x:fu}(h:mZ m x=true):Jt m x (Ya (x.n,x.c,x.k))=true:=by
 unfold mZ at h;unfold Jt;simp at h⊢;show h.2
theorem WM(u:Rk1 zs)(h:q∈zs)(ha:mZ m q.2=true)(hh:q.2.c∈hs):fst hs (CU zs) m (Ya (q.2.n,q.2.c,q.2.k))≠none:=by
 intro z;unfold fst at z;have:=aiR.mp z _ hh;unfold Js at this;rw[show ct m q.2.c+ 1=q.2.k by have:=(NO ha).2;omega,Wx u h]at this;have this:(if Jt m q.2 (Ya (q.2.n,q.2.c,q.2.k))=true then Ya q else Yb)=none:=this;rw[if_pos (acy ha)]at this;cases this
theorem Xv{j:Nat}{p:Nm}(h1:∀k (hk:k<ns.length),k<j->JF m ns[k])(h2:j<=ns.length)(h3:¬ JF m p):Md (ns.take j++[p]) m=Ya p:=by
 unfold Md;rw[alc];have:(ns.take j).find? (λp=>!decide (JF m p))=none:=by
  rw[agO];intro q hq;obtain⟨k,hk⟩:=jJ hq;rw[List.getElem?_take]at hk;by_cases w:k<j
  .rw[if_pos w]at hk;obtain⟨w2,e⟩:=Yp.mp hk;have:=h1 k w2 w;rw[e]at this;simp[this]
  .rw[if_neg w]at hk;cases hk
 rw[this,ahB,ajV (by simpa using h3)]
theorem XM(h:∀k,ct m k=ct m' k)(x:fu):mZ m x=mZ m' x:=by
 unfold mZ Xq cov;simp only[h]
def HsO(cs:List fu)(hs:List Int):Prop:=hs.Pairwise (·<·)/\∀h,h∈hs↔∃x∈cs,x.c=h
def Rn(ws:List V)(cs:List fu)(m:List (Int×Int))(ns:List Nm)(rw:List (V×fu))(m':List (Int×Int)):Prop:=E3 λhs m0 last=>A5 (HsO cs hs) (Td m0) ((∀k,ct m0 k=ct m k)) (Fw hs (CU (ws.zip cs)) ns m0 rw last m') (fst (frm hs last) (CU (ws.zip cs)) m' (Md ns m')=Yb)
def Fo(ns:List Nm)(m:List (Int×Int))(j:Nat):Prop:=j<=ns.length/\(∀k (hk:k<ns.length),k<j->JF m ns[k])/\∀hj:j<ns.length,¬ JF m ns[j]
inductive Pw (ws:List V) (cs:List fu) (m:List (Int×Int)) (ns:List Nm):List (V×fu)->List Nm->List (Int×Int)->Prop
 |start {rw:List (V×fu)} {m':List (Int×Int)}:Rn ws cs m ns rw m'->Pw ws cs m ns rw ns m'
 |step {row rw:List (V×fu)} {gs:List Nm} {m1 m2:List (Int×Int)} {q:V×fu} {j:Nat}:Pw ws cs m ns row gs m1->LaR (ws.zip cs) m1 (Ya q)->Fo gs m1 j->Rn ws cs m1 (gs.take j++[(q.2.n,q.2.c,q.2.k)]) rw m2->Pw ws cs m ns (row++rw) (gs.take j++[(q.2.n,q.2.c,q.2.k)]) m2
theorem Mh(h:Rn ws cs m ns rw m'):rw.length+ mz cs m'<=mz cs m:=by
 obtain⟨hs,m0,last,_,_,e,f,_⟩:=h;have:=ad4 f;rw[Sl e]at this;show this
theorem O0{j:Nat}(u:Rk1 (ws.zip cs))(la:LaR (ws.zip cs) m (Ya q))(fo:Fo gs m j)(h:Rn ws cs m (gs.take j++[(q.2.n,q.2.c,q.2.k)]) rw m'):0<rw.length:=by
 obtain⟨hs,m0,last,⟨_,hm⟩,_,e,f,g⟩:=h;obtain⟨l1,l2,_⟩:=la;have a0:mZ m0 q.2=true:=by rw[XM e];show l2
 have qh:q.2.c∈hs:=(hm _).mpr #[q.2,(agc l1).2,rfl];show X5 f g ?_;rw[Xv (λk hk hj=>?_) fo.1 ?_]
 .show WM u l1 a0 qh
 .change ¬ (q.2.k<=ct m0 q.2.c);have:=(NO a0).2;omega
 .change _<=ct m0 _;rw[e];show fo.2.1 k hk hj
theorem Kh(xs:List V)(k:Nat)(h:k<=xs.length):EZ xs Yb (Ya (k:Int))=xs.take k:=by
 unfold EZ;have e1:HT.jn xs.length 0 Yb=0:=rfl;have e2:HT.jn xs.length xs.length (Ya (k:Int))=k:=by
  change(if(k:Int)<0 then((k:Int)+ (xs.length:Nat)).toNat else min (k:Int).toNat xs.length)=k;rw[if_neg (by omega),YK];omega
 rw[e1,e2,List.drop_zero,Nat.sub_zero]
theorem Ep{H:Hp}:∀{xs:List V} {ns:List Nm} (k:Nat),xZ H xs ns->xZ H (xs.take k) (ns.take k)
 |_,_,0,_=>.nil
 |_,_,k+ 1,.nil=>.nil
 |_,_,k+ 1,.cons r t=>.cons r (Ep k t)
theorem aeh:decide (("one":Yh)="heard")=false:=by decide +kernel
def F2(K:Ye)(mg:Yh->Option Yd):Sp:=λvs H Q _=>E3 fun(d a b:Yc)=>vs=[.ref d,.ref a,.ref b]/\(E5 λm ws cs xs ns=>A11 (Rd H d (.dK (dI m))) (Ck m) (bZ K H a ws) (J4 K mg H ws cs) (cs.length<=60) (Rk1 (ws.zip cs)) ((∀x∈cs,0<=x.c/\x.c<63)) ((bZ K H b xs∨c8 K H b xs)) (xZ H xs ns) (ns.length<=300) (∀H' t l g rw ys gs m',aG H H'->H l=Yb->H g=Yb->H' t=Ya (.tup [.ref l,.ref g])->H' l=Ya (.lst ((rw:List (V×fu)).map (·.1)))->H' g=Ya (.lst ys)->xZ H' ys gs->Pw ws cs m ns rw gs m'->LaR (ws.zip cs) m' Yb->Q (.ref t) H'))
theorem gY:aq ["counts","calls","places","given","told","row","call"] ug (ah DE):=d5
def ti(K:Ye):Sp:=λvs H Q _=>E4 fun(a:Yc) (h:Int) (xs:List V) (ms:List (List (Int×Int)))=>vs=[.ref a,.int h]/\(A5 (bZ K H a xs) (VW H xs ms) (ms≠[]) (ms.length<=10) (∀(H':Hp) (b:Int),aG H H'->NU ms h b->Q (.int b) H'))
abbrev Lm:List Yh:=["some","hand"]
theorem DN:aq ["some","hand"] Lm (ah oV):=d5
def GH(K:Ye):Sp:=λvs H Q _=>E3 fun(a:Yc) (xs:List V) (ms:List (List (Int×Int)))=>vs=[.ref a]/\(A5 (bZ K H a xs) (VW H xs ms) ((∀m∈ms,Ck m)) (ms.length<=10) (∀(H':Hp) (p:Yc) (j:List (Int×Int)),aG H H'->H p=Yb->H' p=Ya (.dK (dI j))->Td j->(ms=[]->j=[])->(ms≠[]->∀k,NU ms k (ct j k))->Q (.ref p) H'))
theorem Qq:aq ["some"] Em (ah Dm):=d5
def Gk(K:Ye):Sp:=λvs H Q _=>E2 fun(d:Yc) (m:List (Int×Int))=>vs=[.ref d]/\(A3 (Rd H d (.dK (dI m))) (m.length<64) (∀(H':Hp) (t:Yc) (xs:List V) (S:List Int),aG H H'->H t=Yb->S.Perm (m.map (·.1))->S.Pairwise (·<=·)->H' t=Ya (.tup xs)->qP H' xs (Gs m S)->Q (.ref t) H'))
abbrev LL:List Yh:=["counts"]
theorem Ri:aq ["counts"] LL (ah EM):=d5
def AH(K:Ye):Sp:=λvs H Q _=>∃h:Int,vs=[.int h]/\0<=h/\h<=1000/\Q (.int (2^h.toNat)) H
def M0(K:Ye):Sp:=λvs H Q _=>∃n h:Int,vs=[.int n,.int h]/\0<=n/\0<=h/\h<=1000/\Q (.bl (n.toNat.testBit h.toNat)) H
def Bv(K:Ye):Sp:=λvs H Q _=>∃n:Int,vs=[.int n]/\0<=n/\n<9223372036854775808/\∀H' l,H l=Yb->aG H H'->H' l=Ya (.lst ((GB.hl n).map V.int))->Q (.ref l) H'
theorem RO:aq ["hand"] ["hand"] (ah CP):=d5
abbrev G7:List Yh:=["hands","hand"]
theorem abk:aq ["hands","hand"] G7 (ah TH):=d5
abbrev vp:List Yh:=["hands"]
theorem JG:aq ["hands"] vp (ah xh):=d5
def nv(K:Ye):Sp:=λvs H Q _=>E2 fun(p:Yc) (n:Int)=>vs=[.ref p,.int n]/\(E2 λC dx=>A5 (NI K C) (H p=Ya (.ins C dx [])) (0<=n) (n<9223372036854775808) (∀H' d rs,(∀b o,H b=Ya o->b≠p->H' b=Ya o)->H' p=Ya (.ins C dx [("learnt",.ref d)])->H' d=Ya (.dK (dG rs))->wQ H' rs ((GB.hl n).map λh=>(h,[]))->(∀q∈rs,q.2≠V.ref d)->H d=Yb->(∀q∈rs,∀r,q.2=V.ref r->H r=Yb)->Q .non H'))
theorem WG(m:pT H H'):∀{xs:List V} {ps:List (Int×V)},Ma H xs ps->Ma H' xs ps:=by
 intro a b w
 induction w with
 |nil=>show .nil
 |cons w _ ih=>
  obtain⟨a,e,h⟩:=w;show .cons #[a,e,m _ _ h] ih
theorem Rr:∀{xs:List V} {ps:List (Int×V)} {x:V} {p:Int×V},Ma H xs ps->(∃a,x=.ref a/\H a=Ya (.tup [.int p.1,p.2]))->Ma H (xs++[x]) (ps++[p]):=by
 intro x0 x1 x2 x3 w h
 induction w with
 |nil=>show .cons h .nil
 |cons r _ ih=>show .cons r ih
theorem So{xs:List V}{ps:List (Int×V)}(h:Ma H xs ps):xs.length=ps.length:=Y2 h
theorem jf(k:∀r m,H r=Ya (.dK (dI m))->H' r=Ya (.dK (dI m))):∀{rs:List (Int×V)} {tb:List (Int×List (Int×Int))},wQ H rs tb->wQ H' rs tb:=by
 intro a b w
 induction w with
 |nil=>show .nil
 |cons w _ ih=>
  obtain⟨e,r,e2,e3⟩:=w;show .cons #[e,r,e2,k _ _ e3] ih
theorem S5:∀{rs:List (Int×V)} {tb:List (Int×List (Int×Int))} {q:Int×V} {e:Int×List (Int×Int)},wQ H rs tb->(q.1=e.1/\∃r,q.2=.ref r/\H r=Ya (.dK (dI e.2)))->wQ H (rs++[q]) (tb++[e]):=by
 intro x0 x1 x2 x3 w h
 induction w with
 |nil=>show .cons h .nil
 |cons r _ ih=>show .cons r ih
theorem aan(n:Int):(GB.hl n).Nodup:=by
 unfold GB.hl;show List.Pairwise.map _ (λa b h=>?_) (GB.uf n.toNat);intro e;have:a<b:=h;omega
theorem Qr(hn:h∉tb.map (·.1)):C6 tb h j=tb:=by
 unfold C6
 conv=>rhs;rw[←ajR tb]
 show aeA λe he=>?_;rw[if_neg (λz=>hn (by rw[←z];show xj he))];rfl
theorem WR{r:Yc}(hr:H r=Ya (.dK (dI j))):∀{rs:List (Int×V)} {tb:List (Int×List (Int×Int))},(tb.map (·.1)).Nodup->h∈tb.map (·.1)->wQ H rs tb->wQ H (Ci rs h (.ref r)) (C6 tb h j):=by
 intro rs tb nd hm w
 induction w with
 |nil=>simp at hm
 |@cons q e rs tb w t ih=>
  obtain⟨e1,r2,e2,e3⟩:=w;rw[YL,xp]at nd;have e0:C6 (e::tb) h j=(if e.1=h then(e.1,j)else e)::C6 tb h j:=rfl;rw[e0];unfold Ci;by_cases z:e.1=h
  .rw[if_pos (e1.trans z),if_pos z,Qr (by rw[←z];show nd.1)];show .cons #[e1,r,rfl,hr] t
  .rw[if_neg (λw=>z (e1.symm.trans w)),if_neg z];rw[YL]at hm;show .cons #[e1,r2,e2,e3] (ih nd.2 ((Yq.mp hm).resolve_left λw=>z w.symm))
theorem ac4{d:Yc}:∀{rs:List (Int×V)} {tb:List (Int×List (Int×Int))},wQ H rs tb->H d=Yb->∀q∈rs,q.2≠V.ref d:=by
 intro rs tb w hd
 induction w with
 |nil=>show λq hq=>nomatch hq
 |cons w t ih=>
  obtain⟨_,r,e2,e3⟩:=w;intro q hq;rcases Yq.mp hq with z|z
  .rw[z,e2];intro w;cases w;rw[hd]at e3;cases e3
  .show ih q z
theorem Xs{d:Yc}:∀{rs:List (Int×V)} {tb:List (Int×List (Int×Int))},wQ H rs tb->(∀q∈rs,q.2≠V.ref d)->(∀r o,r≠d->H r=Ya o->H' r=Ya o)->wQ H' rs tb:=by
 intro rs tb w ap k
 induction w with
 |nil=>show .nil
 |cons w t ih=>
  obtain⟨e,r,e2,e3⟩:=w;show .cons #[e,r,e2,k _ _ (λz=>ap _ Yy (by rw[e2,z])) e3] (ih λq hq=>ap q (Yx _ hq))
abbrev vB:List Yh:=["self","hands"]
theorem yF:aq ["self","hands"] vB (ah jI):=d5
def tV(K:Ye)(mg:Yh->Option Yd):Sp:=λvs H Q _=>E3 fun(p:Yc) (h:Int) (c:Yc)=>vs=[.ref p,.int h,.ref c]/\(E4 λd rs tb m=>A4 (xG K mg H p d rs tb) (Rd H c (.dK (dI m))) (Ck m) (∀H' rs' tb',V3 d H H'->xG K mg H' p d rs' tb'->(tbl tb h=Yb->tb'=tb)->(∀m0,tbl tb h=Ya m0->∃j,Td j/\(∀k,Uu [m0,m] k (ct j k))/\tb'=C6 tb h j)->(∀q∈rs',q∈rs∨∃r,q.2=.ref r/\H r=Yb)->Q .non H'))
abbrev KU:List Yh:=["self","hand","counts"]
theorem Fu:aq ["self","hand","counts"] KU (ah pq):=d5
theorem rA:∀{rs:List (Int×V)} {tb:List (Int×List (Int×Int))} {i:Nat} {q:Int×V},wQ H rs tb->rs[i]?=Ya q->∃e r,tb[i]?=Ya e/\q.1=e.1/\q.2=.ref r/\H r=Ya (.dK (dI e.2)):=by
 intro a b i q w
 induction w generalizing i with
 |nil=>show λe=>by simp at e
 |cons w _ ih=>
  intro e;cases i with
  |zero=>
   obtain⟨e1,r,e2,e3⟩:=w;simp at e;subst e;show#[_,r,rfl,e1,e2,e3]
  |succ i=>
   obtain⟨p,r,h1,h2⟩:=ih (i:=i) (by simpa using e);show#[p,r,by simpa using h1,h2]
theorem acW{m:List (Int×V)}{k:cj}(h:(dG m)[i]?=Ya (k,v)):∃p,m[i]?=Ya p/\k=YG p.1/\v=p.2:=by
 unfold dG at h;rw[YJ]at h;cases e:m[i]? with
 |none=>rw[e]at h;cases h
 |some p=>rw[e]at h;cases h;show#[p,rfl,rfl,rfl]
theorem af2{B':Hp}{p d:Yc}(s:aG B B')(k:xG K mg B p d rs tb):xG K mg B' p d rs tb:=by
 obtain⟨⟨C,dx,e,h⟩,h2,h3,h4,h5,h6⟩:=k;show#[#[C,dx,e,s _ _ h],s _ _ h2,jf (λr m q=>s _ _ q) h3,h4,h5,h6]
noncomputable def JJ(tb:List (Int×List (Int×Int)))(h c:Int):Nat:=(tb.filter λe=>decide (c<=ct e.2 h)).length
noncomputable def VZ(tb:List (Int×List (Int×Int))):List Nm->Nat
 |[]=>0
 |p::ns=>if 2*JJ tb p.2.1 p.2.2<=tb.length then 0 else VZ tb ns+ 1
theorem Nh{tb:List (Int×List (Int×Int))}:∀{ns:List Nm} {i:Nat},(∀k (hk:k<ns.length),k<i->¬ 2*JJ tb ns[k].2.1 ns[k].2.2<=tb.length)->i<=ns.length->(∀hi:i<ns.length,2*JJ tb ns[i].2.1 ns[i].2.2<=tb.length)->VZ tb ns=i
 |[],i,_,h2,_=>by
  have:i=0:=by simpa using h2
  rw[this];rfl
 |p::ns,0,_,_,h3=>by
  have this:2*JJ tb p.2.1 p.2.2<=tb.length:=h3 (by simp);unfold VZ;rw[if_pos this]
 |p::ns,i+ 1,h1,h2,h3=>by
  have z:¬ 2*JJ tb p.2.1 p.2.2<=tb.length:=h1 0 (by simp) (by omega);unfold VZ;rw[if_neg z,Nh (i:=i) (λk hk hki=>h1 (k+ 1) (by simpa using hk) (by omega)) (by simpa using h2) λhi=>h3 (by simpa using hi)]
def sV(K:Ye)(mg:Yh->Option Yd):Sp:=λvs H Q _=>E2 fun(p t:Yc)=>vs=[.ref p,.ref t]/\(E6 λd rs tb n h c=>A3 (xG K mg H p d rs tb) (H t=Ya (.tup [.int n,.int h,.int c])) (∀H',aG H H'->Q (.int (JJ tb h c)) H'))
theorem KI{c:Int}{e:Int×List (Int×Int)}(he:tb[i]?=Ya e):JJ (tb.take (i+ 1)) h c=JJ (tb.take i) h c+ if c<=ct e.2 h then 1 else 0:=by
 unfold JJ;rw[bI he,gf,Yz];congr 1;by_cases z:c<=ct e.2 h
 .rw[if_pos z];simp[z]
 .rw[if_neg z];simp;omega
abbrev LQ:List Yh:=["self","name"]
theorem Dk:aq ["self","name"] LQ (ah pJ):=d5
def wc(K:Ye)(mg:Yh->Option Yd):Sp:=λvs H Q _=>E2 fun(p a:Yc)=>vs=[.ref p,.ref a]/\(E5 λd rs tb xs ns=>A5 (xG K mg H p d rs tb) ((bZ K H a xs∨c8 K H a xs)) (xZ H xs ns) (ns.length<=1000) (∀H',aG H H'->Q (.int (VZ tb ns)) H'))
abbrev Kc:List Yh:=["self","places"]
theorem jW:aq ["self","places","so_many","name"] Kc (ah rh):=d5
def uL(K:Ye)(mg:Yh->Option Yd):Sp:=λvs H Q _=>∃(p:Yc),vs=[.ref p]/\(E3 λd rs tb=>A4 (xG K mg H p d rs tb) (tb≠[]) (tb.length<=10) (∀H' q j,aG H H'->H q=Yb->H' q=Ya (.dK (dI j))->Td j->(∀k,NU (tb.map (·.2)) k (ct j k))->Q (.ref q) H'))
theorem WH:∀{rs:List (Int×V)} {tb:List (Int×List (Int×Int))},wQ H rs tb->VW H ((dG rs).map (·.2)) (tb.map (·.2)):=by
 intro a b w
 induction w with
 |nil=>show .nil
 |cons w _ ih=>
  obtain⟨_,r,e2,e3⟩:=w;show .cons #[r,e2,.inl e3] ih
theorem EI:aq ["self"] ay (ah oU):=d5
def NN(H:Hp)(v:V)(x:fu):Prop:=E3 λa t xs=>A4 (v=.ref a) (H a=Ya (.tup [.int x.n,.int x.c,.int x.k,.str x.kd,.int x.w,.ref t])) (H t=Ya (.tup xs)) (qP H xs x.cs)
theorem NN.up(s:pT H H'){x:fu}(h:NN H v x):NN H' v x:=by
 obtain⟨a,t,xs,e1,e2,e3,e4⟩:=h;show#[a,t,xs,e1,s _ _ e2,s _ _ e3,e4.mono s]
def si(K:Ye):Sp:=λvs H Q _=>∃(p:Yc),vs=[.ref p]/\Q (.str "own") H
def nD(K:Ye):Sp:=λvs H Q _=>∃(p:Yc),vs=[.ref p]/\Q (.str "heard") H
def sy(K:Ye):Sp:=λvs H Q _=>∃(p:Yc),vs=[.ref p]/\Q (.str "one") H
theorem Cf:aq ["self"] ay (ah mJ):=d5
theorem zf:aq ["self"] ay (ah jH):=d5
theorem Cd:aq ["self"] ay (ah mw):=d5
def zb(K:Ye)(mg:Yh->Option Yd):Sp:=λvs H Q _=>∃(v:V),vs=[v]/\∃x,kh K mg H v x/\∀H' t,aG H H'->H t=Yb->NN H' (.ref t) x->Q (.ref t) H'
theorem HM:aq ["self"] ay (ah ux):=d5
structure Pg where
 me:Int
 nu:Int
 ha:Int
 ro:Int
 ma:Int
 dn:List (Int×Int)
 tk:List (V×fu)
 kp:List (V×fu)
 od:List Nm
 ta:List (Int×List (Int×Int))
 ab:List (Int×List (Int×Int))
variable{S':Pg}
structure PgX where
 d:Yc
 t:Yc
 k:Yc
 o:Yc
 ta:Yc
 da:Yc
 ab:Yc
 db:Yc
 ra:List (Int×V)
 rb:List (Int×V)
variable{x:PgX}{o:Int}{d:ae2}
noncomputable def rwa(rs:List (Int×V)):List Yc:=rs.filterMap λq=>match q.2 with| .ref r=>Ya r|_=>Yb
theorem gi{r:Yc}:r∈rwa rs↔∃q∈rs,q.2=.ref r:=by
 unfold rwa;rw[agK];constructor
 .rintro⟨q,hq,e⟩;show#[q,hq,?_];split at e
  .rename_i r' e';cases e;show e'
  .cases e
 .rintro⟨q,hq,e⟩;show#[q,hq,by rw[e]]
noncomputable def PgX.ft(x:PgX)(p:Yc):List Yc:=[p,x.d,x.t,x.k,x.o,x.ta,x.da,x.ab,x.db]++(rwa x.ra++rwa x.rb)
noncomputable def IW(x:fu):List cj:=[YG x.n,YG x.c,YG x.k]
noncomputable def Mm(q:V×fu):List cj×V:=(IW q.2,q.1)
structure nR(K:Ye)(mg:Yh->Option Yd)(H:Hp)(p:Yc)(S:Pg)(x:PgX):Prop where
 ob:∃C dx,mg "Page"=Ya (.ref C)/\GN K C/\H p=Ya (.ins C dx (yA (.int S.me) (.int S.nu) (.int S.ha) (.int S.ro) (.int S.ma) (.ref x.d) (.ref x.t) (.ref x.k) (.ref x.o) (.ref x.ta) (.ref x.ab)))
 dn:H x.d=Ya (.dK (dI S.dn))
 td:Td S.dn
 tk:H x.t=Ya (.lst (S.tk.map (·.1)))
 tc:∀q∈S.tk,kh K mg H q.1 q.2
 kp:H x.k=Ya (.dT (S.kp.map Mm))
 kc:∀q∈S.kp,kh K mg H q.1 q.2
 kn:(S.kp.map λq=>IW q.2).Nodup
 kr:∀q∈S.kp,0<=q.2.c/\q.2.c<63
 od:∃xs,H x.o=Ya (.lst xs)/\xZ H xs S.od
 ta:xG K mg H x.ta x.da x.ra S.ta
 ab:xG K mg H x.ab x.db x.rb S.ab
 to:x.t≠x.o
 dd:x.d≠x.da/\x.d≠x.db/\x.da≠x.db
 rr:∀q∈x.ra++x.rb,q.2≠V.ref x.d/\q.2≠V.ref x.da/\q.2≠V.ref x.db
 me:0<=S.me/\S.me<63
 ha:0<=S.ha/\S.ha<9223372036854775808
def FtO:HO->Prop
 | .dK _=>True
 | .lst _=>True
 | .dT _=>True
 | .tbl _=>True
 | .ins _ _ fs=>fs.length≠5
 |_=>False
theorem nR.fto{p:Yc}{S:Pg}(h:nR K mg H p S x):∀a∈x.ft p,∃o,H a=Ya o/\FtO o:=by
 intro a ha;unfold PgX.ft at ha;obtain⟨C,dx,_,_,hp⟩:=h.ob;obtain⟨⟨C1,dx1,_,h1⟩,h2,h3,_⟩:=h.ta;obtain⟨⟨C2,dx2,_,h4⟩,h5,h6,_⟩:=h.ab;obtain⟨xs,ho,_⟩:=h.od;have rws:∀{rs:List (Int×V)} {tb:List (Int×List (Int×Int))},wQ H rs tb->a∈rwa rs->∃o,H a=Ya o/\FtO o:=fun{rs tb} rw hr=>by
  obtain⟨q,hq,e⟩:=gi.mp hr;obtain⟨i,hi⟩:=jJ hq;obtain⟨_,r,_,_,e2,e3⟩:=rA rw hi;rw[e]at e2;cases e2;show#[_,e3,trivial]
 rcases YV.mp ha with z|z
 .simp only[Yq,YF,or_false]at z;rcases z with rfl|rfl|rfl|rfl|rfl|rfl|rfl|rfl|rfl
  .show#[_,hp,by change(11:Nat)≠5;decide]
  .show#[_,h.dn,trivial]
  .show#[_,h.tk,trivial]
  .show#[_,h.kp,trivial]
  .show#[_,ho,trivial]
  .show#[_,h1,by change(1:Nat)≠5;decide]
  .show#[_,h2,trivial]
  .show#[_,h4,by change(1:Nat)≠5;decide]
  .show#[_,h5,trivial]
 .rcases YV.mp z with z|z
  .show rws h3 z
  .show rws h6 z
def Off(F:List Yc)(H H':Hp):Prop:=∀b o,H b=Ya o->b∉F->H' b=Ya o
theorem Off.refl(F:List Yc)(H:Hp):Off F H H:=λ_ _ e _=>e
theorem Off.same{C:Hp}(a:Off F A B)(s:aG B C):Off F A C:=λb o e n=>s _ _ (a b o e n)
theorem Off.of(s:aG A B):Off F A B:=λb o e _=>s _ _ e
def qO(H H':Hp):Prop:=∀b o,H b=Ya o->¬ FtO o->H' b=Ya o
theorem qO.same(s:aG H H'):qO H H':=λb o e _=>s _ _ e
theorem qO.trans{C:Hp}(x:qO A B)(y:qO B C):qO A C:=λb o e n=>y _ _ (x _ _ e n) n
theorem qO.smh(k:qO H H'):pT H H':=λb xs e=>k _ _ e (by intro z;show z)
theorem rF(o:Off F H H')(h:∀a∈F,∃u,H a=Ya u/\FtO u):qO H H':=λb u e n=>o b u e λz=>by
 obtain⟨v,e1,e2⟩:=h b z;rw[e]at e1;cases e1;show n e2
theorem kh.kpf(s:qO H H'){x:fu}(h:kh K mg H v x):kh K mg H' v x:=by
 obtain⟨p,C,dx,t,xs,e1,e2,e3,e4,e5,e6,e7⟩:=h;show#[p,C,dx,t,xs,e1,e2,e3,s _ _ e4 (by intro z;show z rfl),s _ _ e5 (by intro z;show z),e6.mono s.smh,e7]
theorem kF{p d:Yc}(h:xG K mg H p d rs tb)(o:Off F H H')(hp:p∉F)(hd:d∉F)(hr:∀r∈rwa rs,r∉F):xG K mg H' p d rs tb:=by
 obtain⟨⟨C,dx,e,h1⟩,h2,h3,h4,h5,h6⟩:=h;show#[#[C,dx,e,o _ _ h1 hp],o _ _ h2 hd,?_,h4,h5,h6];have go:∀{rs:List (Int×V)} {tb:List (Int×List (Int×Int))},wQ H rs tb->(∀q∈rs,∀r,q.2=.ref r->r∉F)->wQ H' rs tb:=by
  intro rs tb h
  induction h with
  |nil=>intro _;show .nil
  |cons r t ih=>
   intro n;obtain⟨e,r',e2,e3⟩:=r;show .cons #[e,r',e2,o _ _ e3 (n _ Yy _ e2)] (ih λq hq=>n q (Yx _ hq))
 show go h3 λq hq r e=>hr r (gi.mpr #[q,hq,e])
theorem nR.off{p:Yc}{S:Pg}(h:nR K mg H p S x)(o:Off F H H')(k:qO H H')(n:∀a∈x.ft p,a∉F):nR K mg H' p S x:=by
 obtain⟨C,dx,e1,e2,hp⟩:=h.ob;obtain⟨xs,ho,hn⟩:=h.od;have m:∀{a},a∈[p,x.d,x.t,x.k,x.o,x.ta,x.da,x.ab,x.db]->a∉F:=λha=>n _ (pe _ ha);show#[#[C,dx,e1,e2,o _ _ hp (m (by simp))],o _ _ h.dn (m (by simp)),h.td,o _ _ h.tk (m (by simp)),λq hq=>(h.tc q hq).kpf k,o _ _ h.kp (m (by simp)),λq hq=>(h.kc q hq).kpf k,h.kn,h.kr,#[xs,o _ _ ho (m (by simp)),hn.up k.smh],
  kF h.ta o (m (by simp)) (m (by simp)) (λr hr=>n r (YE _ (pe _ hr))),kF h.ab o (m (by simp)) (m (by simp)) (λr hr=>n r (YE _ (YE _ hr))),h.to,h.dd,h.rr,h.me,h.ha]
theorem nR.same{p:Yc}{S:Pg}(h:nR K mg H p S x)(s:aG H H'):nR K mg H' p S x:=h.off (F:=[]) (Off.of s) (.same s) λ_ _ z=>nomatch z
def G8(K:Ye)(mg:Yh->Option Yd):Sp:=λvs H Q _=>∃(v:V),vs=[v]/\∃x,kh K mg H v x/\Q (.str (if x.kd="one"then "sure"else "ready")) H
theorem Ro:aq ["call"] uS (ah Ek):=d5
def EU(K:Ye)(mg:Yh->Option Yd):Sp:=λvs H Q _=>∃(a:Yc),vs=[.ref a]/\(E2 λws cs=>A4 (bZ K H a ws) (J4 K mg H ws cs) (ws.length<64) (∀H' D ws',aG H H'->H D=Yb->ws'.Perm ws->Ie (cs.map λx=>[x.c,x.k]) ws ws'->H' D=Ya (.lst ws')->Q (.ref D) H'))
theorem MT:aq ["calls"] ["calls"] (ah AN):=d5
noncomputable def FV(n:Int):V:=match GB.hl n with|[]=>.non|a::_=>.int a
def K7(K:Ye):Sp:=λvs H Q _=>∃n:Int,vs=[.int n]/\0<=n/\n<9223372036854775808/\∀H',aG H H'->Q (FV n) H'
theorem TN:aq ["hands"] vp (ah Il):=d5
noncomputable def Pg.new(me nu ha ro:Int):Pg:=#[me,nu,ha,ro,0,[],[],[],[],(GB.hl ha).map λh=>(h,[]),(GB.hl ha).map λh=>(h,[])]
theorem S4(n:Int):Hs (GB.hl n):=by
 show#[?_,λx hx=>?_]
 .unfold GB.hl;show List.Pairwise.map _ (λa b h=>by have:a<b:=h;omega) (GB.uf n.toNat)
 .unfold GB.hl at hx;obtain⟨h,hh,rfl⟩:=YX.mp hx;have:=(GB.DR.mp hh).1;omega
def qw(K:Ye)(mg:Yh->Option Yd):Sp:=λvs H Q _=>E5 fun(p:Yc) (me nu ha ro:Int)=>vs=[.ref p,.int me,.int nu,.int ha,.int ro]/\(E2 λC dx=>A8 (mg "Page"=Ya (.ref C)) (GN K C) (H p=Ya (.ins C dx [])) (0<=ha) (ha<9223372036854775808) (0<=me) (me<63) (∀H' x,(∀b o,H b=Ya o->b≠p->H' b=Ya o)->nR K mg H' p (Pg.new me nu ha ro) x->(∀a∈x.ft p,a=p∨H a=Yb)->Q .non H'))
abbrev KS:List Yh:=["self","me","number","hands","room"]
theorem Ag:aq ["self","me","number","hands","room"] KS (ah kj):=d5
def qG(K:Ye):Sp:=λvs H Q _=>E3 fun(p:Yc) (a b:V)=>vs=[.ref p,a,b]/\∃C,A5 (M9 K C) (YR K (.ref C) "many"=Ya Yb) (YR K (.ref C) "room"=Ya Yb) (H p=Ya (xM p C Yb)) (∀H' dx,(∀b o,H b=Ya o->b≠p->H' b=Ya o)->H' p=Ya (xM p C (Ya dx))->dx≠p->H' dx=Ya (xN dx [("many",a),("room",b)])->Q .non H')
abbrev LW:List Yh:=["self","many","room"]
theorem Au:aq ["self","many","room"] LW (ah kz):=d5
def Vs(H:Hp)(ea C:Yc)(a b:V):Prop:=∃d,H ea=Ya (xD ea C (Ya d))/\H d=Ya (xN d [("many",a),("room",b)])
def Flr(tb:List (Int×List (Int×Int)))(j:List (Int×Int)):Prop:=Td j/\∀k,NU (tb.map (·.2)) k (ct j k)
def mN(K:Ye)(mg:Yh->Option Yd):Sp:=λvs H Q E=>∃(p:Yc),vs=[.ref p]/\∃S x,nR K mg H p S x/\S.ta≠[]/\S.ta.length<=10/\(∀H' j,aG H H'->Flr S.ta j->S.ma-ct j S.me<S.ro->Q .non H')/\∀H' j ea C,aG H H'->Flr S.ta j->¬ (S.ma-ct j S.me<S.ro)->mg "Held"=Ya (.ref C)->H ea=Yb->Vs H' ea C (.int (S.ma-ct j S.me)) (.int S.ro)->E (.ref ea) (Ya C) H'
theorem lN:aq ["self","held"] ay (ah iZ):=d5
def yh(K:Ye)(mg:Yh->Option Yd):Sp:=λvs H Q _=>E2 fun(p:Yc) (v:V)=>vs=[.ref p,v]/\(E3 λS x c=>A7 (nR K mg H p S x) (kh K mg H v c) (IW c∉S.kp.map (λq=>IW q.2)) (0<=c.c) (c.c<63) (S.kp.length<=900) (∀H',Off [x.k] H H'->nR K mg H' p {S with kp:=S.kp++[(v,c)]} x->Q .non H'))
theorem PD{k:List cj}{kvs:List (List cj×V)}(h:k∉kvs.map (·.1)):iP kvs k v=kvs++[(k,v)]:=by
 unfold iP;rw[if_neg];intro z;obtain⟨e,he,e2⟩:=aha.mp z;show h (YX.mpr #[e,he,of_decide_eq_true e2])
theorem Off.kpf1(o:Off [a] H H')(e:H a=Ya u)(f:FtO u):qO H H':=rF o λb hb=>by
 rw[Yo.mp hb];show#[u,e,f]
theorem QC{v:HO}(h:H a=Ya u)(h':H b=Ya v)(d:u≠v):a∉[b]:=λz=>cG h h' d (Yo.mp z)
theorem nR.setk{p:Yc}{S:Pg}(h:nR K mg H p S x)(o:Off [x.k] H H')(gk:H' x.k=Ya (.dT (kp'.map Mm)))(kc:∀q∈kp',kh K mg H' q.1 q.2)(kn:(kp'.map λq=>IW q.2).Nodup)(kr:∀q∈kp',0<=q.2.c/\q.2.c<63):nR K mg H' p {S with kp:=kp'} x:=by
 have kf:qO H H':=o.kpf1 h.kp trivial;obtain⟨C,dx,e1,e2,hp⟩:=h.ob;obtain⟨xs,ho,hn⟩:=h.od;obtain⟨⟨C1,d1,f1,a1⟩,a2,a3,_⟩:=id h.ta;obtain⟨⟨C2,d2,f2,b1⟩,b2,b3,_⟩:=id h.ab;have rw:∀{rs:List (Int×V)} {tb:List (Int×List (Int×Int))},wQ H rs tb->∀r∈rwa rs,r∉[x.k]:=fun{rs tb} R r hr=>by
  obtain⟨q,hq,e⟩:=gi.mp hr;obtain⟨i,hi⟩:=jJ hq;obtain⟨_,r',_,_,e2,e3⟩:=rA R hi;rw[e]at e2;cases e2;show QC e3 h.kp (by intro z;cases z)
 have n:=fun{a:Yc} {u:HO} (e:H a=Ya u) (d:∀k,u≠.dT k)=>o a u e (QC e h.kp (d _));show#[#[C,dx,e1,e2,n hp (by intro _ z;cases z)],n h.dn (by intro _ z;cases z),h.td,n h.tk (by intro _ z;cases z),λq hq=>(h.tc q hq).kpf kf,gk,kc,kn,kr,#[xs,n ho (by intro _ z;cases z),hn.up kf.smh],
  kF h.ta o (QC a1 h.kp (by intro z;cases z)) (QC a2 h.kp (by intro z;cases z)) (rw a3),kF h.ab o (QC b1 h.kp (by intro z;cases z)) (QC b2 h.kp (by intro z;cases z)) (rw b3),h.to,h.dd,h.rr,h.me,h.ha]
abbrev wA:List Yh:=["self","call"]
theorem Jo:aq ["self","call"] wA (ah tW):=d5
def mV(K:Ye)(mg:Yh->Option Yd):Sp:=λvs H Q _=>∃(p:Yc),vs=[.ref p]/\(E2 λS x=>A3 (nR K mg H p S x) (S.kp.length<64) (∀H' D (zs:List (V×fu)),aG H H'->H D=Yb->zs.Perm S.kp->Ie (S.kp.map λq=>[q.2.c,q.2.k]) (S.kp.map (·.1)) (zs.map (·.1))->H' D=Ya (.lst (zs.map (·.1)))->Q (.ref D) H'))
theorem QB{α β:Type}{f:α->β}:∀{l:List α} {ws:List β},ws.Perm (l.map f)->∃zs:List α,zs.Perm l/\zs.map f=ws:=by
 intro l ws h;generalize e:l.map f=m at h
 induction h generalizing l with
 |nil=>show#[[],by rw[ahi.mp e],rfl]
 |cons x h ih=>
  cases l with
  |nil=>cases e
  |cons a l=>
   rw[YL]at e;obtain⟨e1,e2⟩:=agh e;obtain⟨zs,p,q⟩:=ih e2;show#[a::zs,p.cons a,by rw[YL,q,e1]]
 |swap x y l'=>
  cases l with
  |nil=>cases e
  |cons a l=>
   cases l with
   |nil=>cases e
   |cons b l=>
    rw[YL,YL]at e;obtain⟨e1,e2⟩:=agh e;obtain⟨e2,e3⟩:=agh e2;show#[b::a::l,aj4 a b l,by rw[YL,YL,e1,e2,e3]]
 |trans h1 h2 ih1 ih2=>
  obtain⟨ys,p1,q1⟩:=ih2 e;obtain⟨zs,p2,q2⟩:=ih1 q1;show#[zs,p2.trans p1,q2]
theorem MC{H:Hp}:∀{l:List (V×fu)},(∀q∈l,kh K mg H q.1 q.2)->J4 K mg H (l.map (·.1)) (l.map (·.2))
 |[],_=>.nil
 |q::l,h=>.cons (h q Yy) (MC λr hr=>h r (Yx _ hr))
theorem xH:aq ["self"] ay (ah jm):=d5
def zO(K:Ye)(mg:Yh->Option Yd):Sp:=λvs H Q _=>E2 fun(p:Yc) (v:V)=>vs=[.ref p,v]/\(E3 λS x c=>A7 (nR K mg H p S x) (kh K mg H v c) (0<=c.c) (c.c<63) (0<c.k) (S.tk.length<=900) (∀H',Off [x.d,x.t] H H'->nR K mg H' p {S with dn:=gC S.dn c.c c.k,tk:=S.tk++[(v,c)]} x->Q .non H'))
theorem nR.setdt{p:Yc}{S:Pg}{dn':List (Int×Int)}{tk':List (V×fu)}(h:nR K mg H p S x)(o:Off [x.d,x.t] H H')(gd:H' x.d=Ya (.dK (dI dn')))(td:Td dn')(gt:H' x.t=Ya (.lst (tk'.map (·.1))))(tc:∀q∈tk',kh K mg H' q.1 q.2):nR K mg H' p {S with dn:=dn',tk:=tk'} x:=by
 have kf:qO H H':=rF o λb hb=>by
  simp only[Yq,YF,or_false]at hb;rcases hb with rfl|rfl
  .show#[_,h.dn,trivial]
  .show#[_,h.tk,trivial]
 obtain⟨C,dx,e1,e2,hp⟩:=h.ob;obtain⟨xs,ho,hn⟩:=h.od;obtain⟨⟨C1,d1,f1,a1⟩,a2,a3,_⟩:=id h.ta;obtain⟨⟨C2,d2,f2,b1⟩,b2,b3,_⟩:=id h.ab;have n:∀{a:Yc},a≠x.d->a≠x.t->a∉[x.d,x.t]:=λn1 n2 z=>by
  simp only[Yq,YF,or_false]at z;show z.elim n1 n2
 have rw:∀{rs:List (Int×V)} {tb:List (Int×List (Int×Int))},wQ H rs tb->(∀q∈rs,q∈x.ra++x.rb)->∀r∈rwa rs,r∉[x.d,x.t]:=fun{rs tb} R sub r hr=>by
  obtain⟨q,hq,e⟩:=gi.mp hr;obtain⟨i,hi⟩:=jJ hq;obtain⟨_,r',_,_,e2,e3⟩:=rA R hi;rw[e]at e2;cases e2;show n (λz=>(h.rr q (sub q hq)).1 (by rw[e,z])) (cG e3 h.tk (by intro z;cases z))
 show#[#[C,dx,e1,e2,o _ _ hp (n (cG hp h.dn (by intro z;cases z)) (cG hp h.tk (by intro z;cases z)))],gd,td,gt,tc,o _ _ h.kp (n (cG h.kp h.dn (by intro z;cases z)) (cG h.kp h.tk (by intro z;cases z))),λq hq=>(h.kc q hq).kpf kf,h.kn,h.kr,#[xs,o _ _ ho (n (cG ho h.dn (by intro z;cases z)) (Ne.symm h.to)),hn.up kf.smh],
  kF h.ta o (n (cG a1 h.dn (by intro z;cases z)) (cG a1 h.tk (by intro z;cases z))) (n (Ne.symm h.dd.1) (cG a2 h.tk (by intro z;cases z))) (rw a3 λq hq=>pe _ hq),
  kF h.ab o (n (cG b1 h.dn (by intro z;cases z)) (cG b1 h.tk (by intro z;cases z))) (n (Ne.symm h.dd.2.1) (cG b2 h.tk (by intro z;cases z))) (rw b3 λq hq=>YE _ hq),h.to,h.dd,h.rr,h.me,h.ha]
theorem Jn:aq ["self","call"] wA (ah um):=d5
noncomputable def FY(j:List (Int×Int))(l:List (V×fu)):List (V×fu):=l.filter λq=>!decide (q.2.k<=ct j q.2.c)
def sJ(K:Ye)(mg:Yh->Option Yd):Sp:=λvs H Q _=>∃(p:Yc),vs=[.ref p]/\(E2 λS x=>A5 (nR K mg H p S x) (S.ta≠[]) (S.ta.length<=10) (S.kp.length<=60) (∀H' k' j,Off [p,x.k] H H'->(∀a,H' a=Yb->H a=Yb)->H k'=Yb->Flr S.ta j->nR K mg H' p {S with kp:=FY j S.kp} {x with k:=k'}->Q .non H'))
theorem Qs(h:(ps.map (·.1)).Nodup):lP ps=ps:=by
 have go:∀(ps acc:List (List cj×V)),((acc++ps).map (·.1)).Nodup->ps.foldl (λacc p=>iP acc p.1 p.2) acc=acc++ps:=by
  intro ps
  induction ps with
  |nil=>intro acc _;rw[Y4];rfl
  |cons p ps ih=>
   intro acc hn;rw[agN,PD,ih]
   .rw[aem];rfl
   .rw[aem];show hn
   .rw[YD,aec]at hn;show λz=>hn.2.2 _ z _ (by simp) rfl
 show go ps [] h
theorem nR.newk{p:Yc}{S:Pg}{k':Yc}(h:nR K mg H p S x)(o:Off [p,x.k] H H')(ob:∃C dx,mg "Page"=Ya (.ref C)/\GN K C/\H' p=Ya (.ins C dx (yA (.int S.me) (.int S.nu) (.int S.ha) (.int S.ro) (.int S.ma) (.ref x.d) (.ref x.t) (.ref k') (.ref x.o) (.ref x.ta) (.ref x.ab))))(gk:H' k'=Ya (.dT (kp'.map Mm)))(kn:(kp'.map λq=>IW q.2).Nodup)(sub:∀q∈kp',q∈S.kp):nR K mg H' p {S with kp:=kp'} {x with k:=k'}:=by
 obtain⟨C,dx,e1,e2,hp⟩:=h.ob;have kf:qO H H':=rF o λb hb=>by
  simp only[Yq,YF,or_false]at hb;rcases hb with rfl|rfl
  .show#[_,hp,by change(11:Nat)≠5;decide]
  .show#[_,h.kp,trivial]
 obtain⟨xs,ho,hn⟩:=h.od;obtain⟨⟨C1,d1,f1,a1⟩,a2,a3,_⟩:=id h.ta;obtain⟨⟨C2,d2,f2,b1⟩,b2,b3,_⟩:=id h.ab;have n:∀{a:Yc} {u:HO},H a=Ya u->(∀k,u≠.dT k)->(∀C dx fs,u=.ins C dx fs->fs.length≠11)->a∉[p,x.k]:=λe d1 d2 z=>by
  simp only[Yq,YF,or_false]at z;rcases z with rfl|rfl
  .rw[hp]at e;cases e;show d2 _ _ _ rfl rfl
  .rw[h.kp]at e;cases e;show d1 _ rfl
 have rw:∀{rs:List (Int×V)} {tb:List (Int×List (Int×Int))},wQ H rs tb->∀r∈rwa rs,r∉[p,x.k]:=fun{rs tb} R r hr=>by
  obtain⟨q,hq,e⟩:=gi.mp hr;obtain⟨i,hi⟩:=jJ hq;obtain⟨_,r',_,_,e2,e3⟩:=rA R hi;rw[e]at e2;cases e2;show n e3 (by intro _ z;cases z) (by intro _ _ _ z;cases z)
 show#[ob,o _ _ h.dn (n h.dn (by intro _ z;cases z) (by intro _ _ _ z;cases z)),h.td,o _ _ h.tk (n h.tk (by intro _ z;cases z) (by intro _ _ _ z;cases z)),λq hq=>(h.tc q hq).kpf kf,gk,λq hq=>(h.kc q (sub q hq)).kpf kf,kn,λq hq=>h.kr q (sub q hq),#[xs,o _ _ ho (n ho (by intro _ z;cases z) (by intro _ _ _ z;cases z)),hn.up kf.smh],
  kF h.ta o (n a1 (by intro _ z;cases z) (by intro _ _ _ z;cases z;change(1:Nat)≠11;decide)) (n a2 (by intro _ z;cases z) (by intro _ _ _ z;cases z)) (rw a3),kF h.ab o (n b1 (by intro _ z;cases z) (by intro _ _ _ z;cases z;change(1:Nat)≠11;decide)) (n b2 (by intro _ z;cases z) (by intro _ _ _ z;cases z)) (rw b3),h.to,h.dd,h.rr,h.me,h.ha]
theorem tL:aq ["self","floor"] ay (ah pE):=d5
theorem aaT(u:Rk1 (ws.zip cs))(h:Pw ws cs m ns row gs m'):gs.length+ mz cs m'<=ns.length+ mz cs m:=by
 induction h with
 |start r=>have:=Mh r;omega
 |@step row rw gs m1 m2 q j p la fo rn ih=>
  have a:=Mh rn;have b:=O0 u la fo rn;rw[Yz,abS];have:(gs.take j).length<=gs.length:=by rw[CA];omega
  omega
theorem adK{m0:List (Int×Int)}(h0:∀k,0<=ct m0 k)(h:Fw hs (CU zs) ns m0 rw last m):(∀k,0<=ct m k)/\∀q∈rw,q∈zs/\0<q.2.k:=by
 induction h with
 |start=>show#[h0,λq hq=>nomatch hq]
 |@step rw last m v x f e ih=>
  obtain⟨h,_,e1,_⟩:=Ct e;obtain⟨e2,e3,e4⟩:=qZ e1;have e4:x.k=ct m h+ 1:=e4;have n:=ih.1 h;show#[λk=>?_,λq hq=>?_]
  .rw[AI];by_cases z:k=x.c
   .rw[if_pos z];omega
   .rw[if_neg z];show ih.1 k
  .rcases YV.mp hq with z|z
   .show ih.2 q z
   .rw[Yo.mp z];show#[e2,?_];change 0<x.k;omega
theorem adN(h:Rn (zs.map (·.1)) (zs.map (·.2)) m ns rw m'):∀q∈rw,q∈zs/\0<q.2.k:=by
 obtain⟨hs,m0,last,_,t0,_,f,_⟩:=h;have ez:(zs.map (·.1)).zip (zs.map (·.2))=zs:=by
  rw[amB];show ajs zs
 rw[ez]at f;show(adK (λk=>t0.toCk.ct k) f).2
def LrR(tb:List (Int×List (Int×Int)))(h:Int)(m:List (Int×Int))(tb':List (Int×List (Int×Int))):Prop:=(tbl tb h=Yb->tb'=tb)/\∀m0,tbl tb h=Ya m0->∃j,Td j/\(∀k,Uu [m0,m] k (ct j k))/\tb'=C6 tb h j
theorem LrR.keys(l:LrR tb h m tb'):tb'.map (·.1)=tb.map (·.1):=by
 cases z:tbl tb h with
 |none=>rw[l.1 z]
 |some m0=>
  obtain⟨j,_,_,e⟩:=l.2 m0 z;rw[e,Gu]
theorem nR.newo{p:Yc}{S:Pg}{o':Yc}{ma':Int}{od':List Nm}{xs':List V}(h:nR K mg H p S x)(o:Off [p] H H')(ob:∃C dx,mg "Page"=Ya (.ref C)/\GN K C/\H' p=Ya (.ins C dx (yA (.int S.me) (.int S.nu) (.int S.ha) (.int S.ro) (.int ma') (.ref x.d) (.ref x.t) (.ref x.k) (.ref o') (.ref x.ta) (.ref x.ab))))(go:H' o'=Ya (.lst xs'))(hn:xZ H' xs' od')(nto:x.t≠o'):nR K mg H' p {S with ma:=ma',od:=od'} {x with o:=o'}:=by
 obtain⟨C,dx,e1,e2,hp⟩:=h.ob;have kf:qO H H':=o.kpf1 hp (by change(11:Nat)≠5;decide);obtain⟨⟨C1,d1,f1,a1⟩,a2,a3,_⟩:=id h.ta;obtain⟨⟨C2,d2,f2,b1⟩,b2,b3,_⟩:=id h.ab;have n:∀{a:Yc} {u:HO},H a=Ya u->(∀C dx fs,u=.ins C dx fs->fs.length≠11)->a∉[p]:=λe d2 z=>by
  rw[Yo.mp z,hp]at e;cases e;show d2 _ _ _ rfl rfl
 have rw:∀{rs:List (Int×V)} {tb:List (Int×List (Int×Int))},wQ H rs tb->∀r∈rwa rs,r∉[p]:=fun{rs tb} R r hr=>by
  obtain⟨q,hq,e⟩:=gi.mp hr;obtain⟨i,hi⟩:=jJ hq;obtain⟨_,r',_,_,e2,e3⟩:=rA R hi;rw[e]at e2;cases e2;show n e3 (by intro _ _ _ z;cases z)
 show#[ob,o _ _ h.dn (n h.dn (by intro _ _ _ z;cases z)),h.td,o _ _ h.tk (n h.tk (by intro _ _ _ z;cases z)),λq hq=>(h.tc q hq).kpf kf,o _ _ h.kp (n h.kp (by intro _ _ _ z;cases z)),λq hq=>(h.kc q hq).kpf kf,h.kn,h.kr,#[xs',go,hn],
  kF h.ta o (n a1 (by intro _ _ _ z;cases z;change(1:Nat)≠11;decide)) (n a2 (by intro _ _ _ z;cases z)) (rw a3),kF h.ab o (n b1 (by intro _ _ _ z;cases z;change(1:Nat)≠11;decide)) (n b2 (by intro _ _ _ z;cases z)) (rw b3),nto,h.dd,h.rr,h.me,h.ha]
theorem nR.lrb{p:Yc}{S:Pg}{rb':List (Int×V)}{ab':List (Int×List (Int×Int))}(h:nR K mg H p S x)(o:V3 x.db H H')(kn:xG K mg H' x.ab x.db rb' ab')(fr:∀q∈rb',q∈x.rb∨∃r,q.2=.ref r/\H r=Yb):nR K mg H' p {S with ab:=ab'} {x with rb:=rb'}:=by
 obtain⟨C,dx,e1,e2,hp⟩:=h.ob;obtain⟨xs,ho,hn⟩:=h.od;obtain⟨⟨C1,d1,f1,a1⟩,a2,a3,_⟩:=id h.ta;obtain⟨⟨C2,d2,f2,b1⟩,b2,b3,_⟩:=id h.ab;have of:Off [x.db] H H':=λb u e n=>o b u (λz=>n (Yo.mpr z)) e;have kf:qO H H':=of.kpf1 b2 trivial;have n:=fun{a:Yc} {u:HO} (e:H a=Ya u) (d:∀k,u≠.dK k)=>of a u e (QC e b2 (d _));have rr:∀r∈rwa x.ra,r∉[x.db]:=λr hr z=>by
  obtain⟨q,hq,e⟩:=gi.mp hr;show(h.rr q (pe _ hq)).2.2 (by rw[e,Yo.mp z])
 show#[#[C,dx,e1,e2,n hp (by intro _ z;cases z)],o _ _ h.dd.2.1 h.dn,h.td,n h.tk (by intro _ z;cases z),λq hq=>(h.tc q hq).kpf kf,n h.kp (by intro _ z;cases z),λq hq=>(h.kc q hq).kpf kf,h.kn,h.kr,#[xs,n ho (by intro _ z;cases z),hn.up kf.smh],
  kF h.ta of (QC a1 b2 (by intro z;cases z)) (λz=>h.dd.2.2 (Yo.mp z)) rr,kn,h.to,h.dd,λq hq=>?_,h.me,h.ha]
 rcases YV.mp hq with z|z
 .show h.rr q (pe _ z)
 .rcases fr q z with w|⟨r,e,er⟩
  .show h.rr q (YE _ w)
  .rw[e];show#[λz=>?_,λz=>?_,λz=>?_]
   .cases z;rw[h.dn]at er;cases er
   .cases z;rw[a2]at er;cases er
   .cases z;rw[b2]at er;cases er
theorem nR.lra{p:Yc}{S:Pg}{ra':List (Int×V)}{ta':List (Int×List (Int×Int))}(h:nR K mg H p S x)(o:V3 x.da H H')(kn:xG K mg H' x.ta x.da ra' ta')(fr:∀q∈ra',q∈x.ra∨∃r,q.2=.ref r/\H r=Yb):nR K mg H' p {S with ta:=ta'} {x with ra:=ra'}:=by
 obtain⟨C,dx,e1,e2,hp⟩:=h.ob;obtain⟨xs,ho,hn⟩:=h.od;obtain⟨⟨C1,d1,f1,a1⟩,a2,a3,_⟩:=id h.ta;obtain⟨⟨C2,d2,f2,b1⟩,b2,b3,_⟩:=id h.ab;have of:Off [x.da] H H':=λb u e n=>o b u (λz=>n (Yo.mpr z)) e;have kf:qO H H':=of.kpf1 a2 trivial;have n:=fun{a:Yc} {u:HO} (e:H a=Ya u) (d:∀k,u≠.dK k)=>of a u e (QC e a2 (d _));have rr:∀r∈rwa x.rb,r∉[x.da]:=λr hr z=>by
  obtain⟨q,hq,e⟩:=gi.mp hr;show(h.rr q (YE _ hq)).2.1 (by rw[e,Yo.mp z])
 show#[#[C,dx,e1,e2,n hp (by intro _ z;cases z)],o _ _ h.dd.1 h.dn,h.td,n h.tk (by intro _ z;cases z),λq hq=>(h.tc q hq).kpf kf,n h.kp (by intro _ z;cases z),λq hq=>(h.kc q hq).kpf kf,h.kn,h.kr,#[xs,n ho (by intro _ z;cases z),hn.up kf.smh],
  kn,kF h.ab of (QC b1 a2 (by intro z;cases z)) (λz=>h.dd.2.2 (Yo.mp z).symm) rr,h.to,h.dd,λq hq=>?_,h.me,h.ha]
 rcases YV.mp hq with z|z
 .rcases fr q z with w|⟨r,e,er⟩
  .show h.rr q (pe _ w)
  .rw[e];show#[λz=>?_,λz=>?_,λz=>?_]
   .cases z;rw[h.dn]at er;cases er
   .cases z;rw[a2]at er;cases er
   .cases z;rw[b2]at er;cases er
 .show h.rr q (YE _ z)
noncomputable def Why(x:fu):Yh:=if x.kd="one"then "sure"else "ready"
def TkA(H:Hp)(v:V)(q:V×fu):Prop:=∃a tt,v=.ref a/\H a=Ya (.tup [.ref tt,.str (Why q.2)])/\NN H (.ref tt) q.2
def UC(H:Hp)(ys:List V)(rw:List (V×fu)):Prop:=Aq (TkA H) ys rw
theorem TkA.up(s:pT H H')(h:TkA H v q):TkA H' v q:=by
 obtain⟨a,tt,e,h1,h2⟩:=h;show#[a,tt,e,s _ _ h1,h2.up s]
theorem UC.up(s:pT H H'){ys:List V}(h:UC H ys rw):UC H' ys rw:=Aq.mapP h λ_ _ z=>z.up s
theorem UC.snoc:∀{ys:List V} {rw:List (V×fu)} {v:V} {q:V×fu},UC H ys rw->TkA H v q->UC H (ys++[v]) (rw++[q]):=by
 intro x0 x1 x2 x3 w h
 induction w with
 |nil=>show .cons h .nil
 |cons r _ ih=>show .cons r ih
noncomputable def Wj(m:List (Int×Int))(rw:List (V×fu)):List (Int×Int):=rw.foldl (λm q=>gC m q.2.c q.2.k) m
def Wd(S S':Pg)(rw:List (V×fu)):Prop:=E8 fun(zs rw1:List (V×fu)) (m1 m2:List (Int×Int)) (od':List Nm) (ab' ta':List (Int×List (Int×Int))) (j:List (Int×Int))=>A10 (zs.Perm S.kp) (Ie (S.kp.map λq=>[q.2.c,q.2.k]) (S.kp.map (·.1)) (zs.map (·.1))) ((FV S.ha≠.int S.me->od'=S.od)) ((FV S.ha=.int S.me->∃rw0 m0,Pw (zs.map (·.1)) (zs.map (·.2)) S.dn S.od rw0 od' m0/\LaR zs m0 Yb)) (Rn (zs.map (·.1)) (zs.map (·.2)) S.dn od' rw1 m1) (LrR S.ab S.me m1 ab') (Rn (zs.map (·.1)) (zs.map (·.2)) S.dn (od'.take (VZ ab' od')) rw m2) (LrR S.ta S.me (Wj S.dn rw) ta') (Flr ta' j) (S'={S with dn:=Wj S.dn rw,tk:=S.tk++rw,kp:=FY j S.kp,od:=od',ta:=ta',ab:=ab'})
def yf(K:Ye)(mg:Yh->Option Yd):Sp:=λvs H Q _=>∃(p:Yc),vs=[.ref p]/\(E2 λS x=>A9 (nR K mg H p S x) (S.ta≠[]) (S.ta.length<=10) (S.kp.length<=60) (S.od.length<=300) (S.tk.length<=800) (S.me∈GB.hl S.ha) ((∀q∈S.kp,q.2.n=S.nu)) (∀H' x' S' rw l ys,Off (x.ft p) H H'->(∀a,H' a=Yb->H a=Yb)->nR K mg H' p S' x'->(∀a∈x'.ft p,a∈x.ft p∨H a=Yb)->Wd S S' rw->H l=Yb->l∉x'.ft p->H' l=Ya (.lst ys)->UC H' ys rw->Q (.ref l) H'))
theorem ab6{S:List (V×fu)}{n:Int}(hn:∀q∈S,q.2.n=n)(nd:(S.map λq=>IW q.2).Nodup):Rk1 S:=by
 intro q hq r hr e1 e2;have e:IW q.2=IW r.2:=by
  unfold IW;rw[hn q hq,hn r hr,e1,e2]
 obtain⟨i,hi⟩:=jJ hq;obtain⟨j,hj⟩:=jJ hr;have hi':=(Yp.mp hi);have hj':=(Yp.mp hj);have:i=j:=by
  have l1:i<(S.map λq=>IW q.2).length:=by rw[Yj];show hi'.1
  have l2:j<(S.map λq=>IW q.2).length:=by rw[Yj];show hj'.1
  have ee:(S.map λq=>IW q.2)[i]=(S.map λq=>IW q.2)[j]:=by rw[alA,alA,hi'.2,hj'.2];show e
  rcases ak3 i j with z|z|z
  .show absurd ee (ahn.mp nd i j l1 l2 z)
  .show z
  .show absurd ee.symm (ahn.mp nd j i l2 l1 z)
 subst this;rw[hi]at hj;show YM hj
theorem SX{tb:List (Int×List (Int×Int))}:∀ns:List Nm,VZ tb ns<=ns.length
 |[]=>Ym _
 |p::ns=>by
  unfold VZ;have:=SX (tb:=tb) ns;rw[cT];split<;>omega
theorem Vp(m:List (Int×Int))(l:List (V×fu))(q:V×fu):Wj m (l++[q])=gC (Wj m l) q.2.c q.2.k:=by
 unfold Wj;rw[ak7];rfl
theorem jh{p:Yc}:a∈x.ft p↔a=p∨a=x.d∨a=x.t∨a=x.k∨a=x.o∨a=x.ta∨a=x.da∨a=x.ab∨a=x.db∨a∈rwa x.ra∨a∈rwa x.rb:=by
 unfold PgX.ft;simp only[YV,Yq,YF,or_false];constructor
 .rintro((h|h|h|h|h|h|h|h|h)|h|h)<;>simp[h]
 .rintro(h|h|h|h|h|h|h|h|h|h|h)<;>simp[h]
theorem jc:aq ["self","calls","sure_places","row","call"] ay (ah sS):=d5
theorem abN{S:List Int}(t:Ck m)(pm:S.Perm (m.map (·.1))):Ck (Gs m S):=by
 have nd:S.Nodup:=pm.nodup_iff.mpr t.nd;have ek:(Gs m S).map (·.1)=S.filter λk=>decide (0<ct m k):=by
  unfold Gs;rw[adk];show ajs _
 show#[by rw[ek];show nd.filter _,λp hp=>?_,λp hp=>?_]
 .unfold Gs at hp;obtain⟨k,_,rfl⟩:=YX.mp hp;show t.ct k
 .unfold Gs at hp;obtain⟨k,hk,rfl⟩:=YX.mp hp;show t.keys k (pm.mem_iff.mp (aab.mp hk).1)
def NwC(S:Pg)(kd:Yh)(w:Int)(c:fu):Prop:=∃hs:List Int,hs.Perm (S.dn.map (·.1))/\hs.Pairwise (·<=·)/\c=#[kd,S.nu,S.me,S.ma+ 1,w,if kd="own"then[]else Gs S.dn hs]
structure aeY(S:Pg)(n:Nat):Prop where
 ne:S.ta≠[]
 l10:S.ta.length<=10
 kl:S.kp.length<=n
 ol:S.od.length<=n
 tl:S.tk.length<=8*n
 me:S.me∈GB.hl S.ha
 nu:∀q∈S.kp,q.2.n=S.nu
 ma:0<=S.ma
 mx:∀q∈S.kp,q.2.c=S.me->q.2.k<=S.ma
def vV(K:Ye)(mg:Yh->Option Yd):Sp:=λvs H Q E=>∃(p:Yc) (kd:Yh) (w:Int),vs=[.ref p,.str kd,.int w]/\∃S x,nR K mg H p S x/\aeY S 59/\(kd="own"∨kd="heard"∨kd="one")/\(if w<0 then-w else w)<10^(60:Int).toNat/\(∀H' x' S' rw l ys v c j,Off (x.ft p) H H'->(∀a,H' a=Yb->H a=Yb)->nR K mg H' p S' x'->(∀a∈x'.ft p,a∈x.ft p∨H a=Yb)->Flr S.ta j->S.ma-ct j S.me<S.ro->NwC S kd w c->Wd {S with ma:=S.ma+ 1,kp:=S.kp++[(v,c)]} S' rw->H l=Yb->l∉x'.ft p->H' l=Ya (.lst ys)->UC H' ys rw->Q (.ref l) H')/\∀H' j ea C,aG H H'->Flr S.ta j->¬ (S.ma-ct j S.me<S.ro)->mg "Held"=Ya (.ref C)->H ea=Yb->Vs H' ea C (.int (S.ma-ct j S.me)) (.int S.ro)->E (.ref ea) (Ya C) H'
abbrev wg:List Yh:=["self","kind","word"]
theorem wm:aq ["self","kind","word","call"] wg (ah ri):=d5
def wz(K:Ye)(mg:Yh->Option Yd):Sp:=λvs H Q _=>∃(p:Yc),vs=[.ref p]/\(E2 λS x=>nR K mg H p S x/\∀H' d,aG H H'->H d=Yb->H' d=Ya (.dK (dI S.dn))->Q (.ref d) H')
theorem FI:aq ["self"] ay (ah rj):=d5
noncomputable def dn1(me:Int)(n:Nat):List (Int×Int):=if n=0 then[]else[(me,(n:Int))]
theorem ab4(me x k:Int):ct [(me,x)] k=if k=me then x else 0:=by
 unfold ct Cb;by_cases z:me=k
 .rw[if_pos z,if_pos z.symm];rfl
 .rw[if_neg z,if_neg (Ne.symm z)];rfl
theorem acu(me:Int)(n:Nat)(k:Int):ct (dn1 me n) k=if k=me then(n:Int)else 0:=by
 unfold dn1;by_cases z:n=0
 .rw[if_pos z,z];change(0:Int)=_;split<;>rfl
 .rw[if_neg z];show ab4 _ _ _
theorem Wb(me:Int)(n:Nat):gC (dn1 me n) me (n+ 1)=dn1 me (n+ 1):=by
 unfold dn1;by_cases z:n=0
 .rw[if_pos z,z];rfl
 .rw[if_neg z,if_neg (by omega)];change(if me=me then _ else _)=_;rw[if_pos rfl];simp
theorem NM{α β:Type}:∀zs:List (α×β),(zs.map (·.1)).zip (zs.map (·.2))=zs
 |[]=>rfl
 |(a,b)::zs=>congrArg ((a,b)::·) (NM zs)
structure Ows(me nu:Int)(n:Nat)(v:V)(c:fu)(zs:List (V×fu)):Prop where
 mem:(v,c)∈zs
 own:∀q∈zs,q.2.kd="own"/\q.2.c=me
 low:∀q∈zs,q=(v,c)∨q.2.k<=n
 ck:c.k=(n:Int)+ 1
theorem acg{me nu:Int}{n:Nat}(w:Ows me nu n v c zs){m0:List (Int×Int)}(e0:ct m0 me=n)(h:Fw hs (CU zs) ns m0 rw last m):(rw=[]/\last=Yb/\m=m0)∨(rw=[(v,c)]/\m=gC m0 c.c c.k):=by
 induction h with
 |start=>show .inl #[rfl,rfl,rfl]
 |@step rw last m v' x f e ih=>
  obtain⟨h,_,e1,e2⟩:=Ct e;obtain⟨e3,e4,e5⟩:=qZ e1;have e4:x.c=h:=e4;have e5:x.k=ct m h+ 1:=e5;obtain⟨_,o2⟩:=w.own _ e3;have o2:x.c=me:=o2;rcases ih with⟨rfl,rfl,rfl⟩|⟨rfl,rfl⟩
  .rcases w.low _ e3 with z|z
   .cases z;show .inr #[rfl,rfl]
   .have z:x.k<=n:=z;rw[←e4,o2]at e5;omega
  .have cm:=(w.own _ w.mem).2;have cm:c.c=me:=cm;have ck:=w.ck;rw[←e4,o2,AI,if_pos cm.symm]at e5;rcases w.low _ e3 with z|z
   .cases z;omega
   .have z:x.k<=n:=z;omega
theorem acJ{me nu:Int}{n:Nat}(w:Ows me nu n v c zs)(e0:ct m me=n)(h:Rn (zs.map (·.1)) (zs.map (·.2)) m ns rw m'):rw=[(v,c)]/\∀k,ct m' k=if k=me then c.k else ct m k:=by
 obtain⟨hs,m0,last,⟨hu,hm⟩,_,e,f,g⟩:=h;rw[NM]at f g;obtain⟨ok,cm⟩:=w.own _ w.mem;have cm:c.c=me:=cm;have ok:c.kd="own":=ok;have ck:=w.ck;have ch:me∈hs:=(hm _).mpr #[c,YX.mpr #[_,w.mem,rfl],cm];rcases acg w (by rw[e,e0]) f with⟨rfl,rfl,rfl⟩|⟨rfl,rfl⟩
 .exfalso;have:=aiR.mp g me ch;unfold Js at this;cases lk:CU zs me (ct m' me+ 1)with
  |none=>
   unfold CU at lk;have:=agO.mp lk (v,c) (ajr.mpr w.mem);show this (decide_eq_true #[cm,?_]);change c.k=ct m' me+ 1;rw[e,e0];show ck
  |some q=>
   rw[lk]at this;obtain⟨q1,q2,q3⟩:=qZ lk;obtain rfl:q=(v,c):=by
    rcases w.low _ q1 with z|z
    .show z
    .rw[e,e0]at q3;omega
   have tk:Jt m' c (Md ns m')=true:=by
    unfold Jt Xq;rw[ok,decide_eq_true (show ct m' c.c=c.k-1 by rw[cm,e,e0];omega)];rfl
   simp[tk]at this
 .show#[rfl,λk=>?_];rw[AI,cm,e]
theorem aa6{me nu:Int}{n:Nat}(w:Ows me nu n v c zs)(h:Pw (zs.map (·.1)) (zs.map (·.2)) m [] row gs m'):gs=[]:=by
 cases h with
 |start r=>rfl
 |step _ la=>
  rw[NM]at la;obtain⟨l1,l2,_⟩:=la;exfalso;obtain⟨o,_⟩:=Bool.and_eq_true_iff.mp l2;have o:=of_decide_eq_true o;have:=(w.own _ l1).1;rw[o]at this;show absurd this (by decide)
structure Ow(me nu ro:Int)(S:Pg)(n:Nat):Prop where
 em:S.me=me
 en:S.nu=nu
 er:S.ro=ro
 hm:me∈GB.hl S.ha
 ma:S.ma=n
 kl:S.kp.length=n
 kk:∀q∈S.kp,q.2.kd="own"/\q.2.n=nu/\q.2.c=me/\0<q.2.k/\q.2.k<=n
 tl:S.tk.length=n
 dn:S.dn=dn1 me n
 od:S.od=[]
 tal:S.ta.length<=10
 oth:∃o,o≠me/\(o,[])∈S.ta
theorem OB(h:(o,[])∈tb)(f:Flr tb j)(k:Int):ct j k=0:=by
 obtain⟨t,m⟩:=f;obtain⟨_,le⟩:=m k;have l0:=le [] (YX.mpr #[_,h,rfl]);have l0:ct j k<=0:=l0;have:=t.toCk.ct k;omega
theorem abP(l:LrR tb h m tb')(no:o≠h)(ho:(o,[])∈tb):(o,[])∈tb'/\tb'.length=tb.length:=by
 cases z:tbl tb h with
 |none=>rw[l.1 z];show#[ho,rfl]
 |some m0=>
  obtain⟨j,_,_,rfl⟩:=l.2 m0 z;unfold C6;show#[YX.mpr #[_,ho,?_],Yj ..];rw[if_neg no]
theorem Wk{me nu ro:Int}{S:Pg}{n:Nat}(h:Ow me nu ro S n)(k1:c.kd="own")(h1:c.n=nu)(h2:c.c=me)(h3:c.k=(n:Int)+ 1)(st:Wd {S with ma:=S.ma+ 1,kp:=S.kp++[(v,c)]} S' rw):rw=[(v,c)]/\Ow me nu ro S' (n+ 1):=by
 obtain⟨zs,rw1,m1,m2,od',ab',ta',j,pm,_,np,pl,r1,la,r2,lt,fl,rfl⟩:=st;have pm:zs.Perm (S.kp++[(v,c)]):=pm;have w:Ows me nu n v c zs:=by
  show#[pm.mem_iff.mpr (YE _ (List.mem_singleton_self _)),λq hq=>?_,λq hq=>?_,h3]
  .rcases YV.mp (pm.mem_iff.mp hq)with z|z
   .obtain⟨a,_,b,_⟩:=h.kk q z;show#[a,b]
   .rw[Yo.mp z];show#[k1,h2]
  .rcases YV.mp (pm.mem_iff.mp hq)with z|z
   .show .inr (h.kk q z).2.2.2.2
   .show .inl (Yo.mp z)
 have e0:ct S.dn me=n:=by rw[h.dn,acu,if_pos rfl]
 have eo:od'=[]:=by
  by_cases z:FV S.ha=.int S.me
  .obtain⟨rw0,m0,pw,_⟩:=pl z;have pw:Pw (zs.map (·.1)) (zs.map (·.2)) S.dn S.od rw0 od' m0:=pw;rw[h.od]at pw;show aa6 w pw
  .show(np z).trans h.od
 subst eo;obtain⟨er,_⟩:=acJ w e0 r2;subst er;obtain⟨o,no,ho⟩:=h.oth;have lt:LrR S.ta S.me (Wj S.dn [(v,c)]) ta':=lt;obtain⟨ho',hl'⟩:=abP lt (by rw[h.em];show no) ho;have z0:=OB ho' fl;have ek:FY j (S.kp++[(v,c)])=S.kp++[(v,c)]:=by
  unfold FY;show List.filter_eq_self.mpr λq hq=>?_;rw[z0];have:0<q.2.k:=by
   rcases YV.mp hq with z|z
   .show(h.kk q z).2.2.2.1
   .rw[Yo.mp z];change 0<c.k;omega
  rw[decide_eq_false (by omega)];rfl
 show#[rfl,h.em,h.en,h.er,h.hm,?_,?_,?_,?_,?_,rfl,by change ta'.length<=10;rw[hl'];show h.tal,o,no,ho']
 .change S.ma+ 1=_;rw[h.ma];rfl
 .change(FY j (S.kp++[(v,c)])).length=_;rw[ek,Yz,h.kl];rfl
 .change∀q∈FY j (S.kp++[(v,c)]),_;rw[ek];intro q hq;rcases YV.mp hq with z|z
  .obtain⟨a1,a2,a3,a4,a5⟩:=h.kk q z;show#[a1,a2,a3,a4,by omega]
  .rw[Yo.mp z];show#[k1,h1,h2,by change 0<c.k;omega,by change c.k<=_;omega]
 .change(S.tk++[(v,c)]).length=_;rw[Yz,h.tl];rfl
 .change gC S.dn c.c c.k=_;rw[h.dn,h2,h3];show Wb _ _
theorem aeq{me nu ro:Int}{S:Pg}{n:Nat}(h:Ow me nu ro S n)(hl:n<=20):aeY S 59:=by
 obtain⟨o,_,ho⟩:=h.oth;have kl:=h.kl;have tl:=h.tl;show#[(λz=>by rw[z]at ho;cases ho),h.tal,by omega,by rw[h.od];show Y1 _,by omega,by rw[h.em];show h.hm,λq hq=>?_,by rw[h.ma];omega,λq hq _=>?_]
 .rw[h.en];show(h.kk q hq).2.1
 .rw[h.ma];show(h.kk q hq).2.2.2.2
theorem R0{me nu ro:Int}{S:Pg}{n:Nat}(h:Ow me nu ro S n)(f:Flr S.ta j):S.ma-ct j S.me=n:=by
 obtain⟨o,_,ho⟩:=h.oth;rw[OB ho f,h.ma];omega
theorem ace{me nu ha ro:Int}(hm:me∈GB.hl ha)(ho:o∈GB.hl ha)(no:o≠me)(l:(GB.hl ha).length<=10):Ow me nu ro (Pg.new me nu ha ro) 0:=by
 show#[rfl,rfl,rfl,hm,rfl,rfl,(λq hq=>nomatch hq),rfl,rfl,rfl,?_,o,no,?_]
 .change((GB.hl ha).map _).length<=10;rw[Yj];show l
 .show YX.mpr #[o,ho,rfl]
theorem u9(t:Yc):decide (V.ref t=V.non)=false:=decide_eq_false (by intro z;cases z)
def ChF(mg:Yh->Option Yd)(H:Hp)(p:Yc)(me hd:Int)(d:Yc):Prop:=(∃C dx,mg "Change"=Ya (.ref C)/\H p=Ya (.ins C dx (chf (.int me) (.int hd) .non .non (.int 0) (.ref d) .non)))/\H d=Ya (.dK [])
def lR(K:Ye):Sp:=λvs H Q _=>E3 fun(p:Yc) (me hd:Int)=>vs=[.ref p,.int me,.int hd]/\(E2 λC dx=>A3 (Jl K C) (H p=Ya (.ins C dx [])) (∀H' d,(∀b o,H b=Ya o->b≠p->H' b=Ya o)->H d=Yb->H' d=Ya (.dK [])->H' p=Ya (.ins C dx (chf (.int me) (.int hd) .non .non (.int 0) (.ref d) .non))->Q .non H'))
abbrev Lr:List Yh:=["self","me","hands"]
theorem wU:aq ["self","me","hands"] Lr (ah iR):=d5
inductive Eh where
 |lst (n h o w:Int)
 |tke (c:fu)
def EhA(H:Hp)(v:V):Eh->Prop
 | .lst n h o w=>∃t,v=.ref t/\H t=Ya (.tup [.str "list",.int n,.int h,.int o,.int w])
 | .tke c=>∃t a u xs,v=.ref t/\H t=Ya (.tup [.str "take",.ref a,.str c.kd,.int c.w,.ref u,.str (Why c)])/\H a=Ya (.tup [.int c.n,.int c.c,.int c.k])/\H u=Ya (.tup xs)/\qP H xs c.cs
theorem EhA.up(s:pT H H'){e:Eh}(h:EhA H v e):EhA H' v e:=by
 cases e with
 |lst n h o w=>obtain⟨t,e,g⟩:=h;show#[t,e,s _ _ g]
 |tke c=>obtain⟨t,a,u,xs,e,g1,g2,g3,g4⟩:=h;show#[t,a,u,xs,e,s _ _ g1,s _ _ g2,s _ _ g3,g4.mono λa xs z=>s _ _ z]
abbrev Q2(H:Hp):List V->List Eh->Prop:=Aq (EhA H)
theorem tN(s:pT H H'){xs:List V}{es:List Eh}(h:Q2 H xs es):Q2 H' xs es:=Aq.mapP h λ_ _ z=>z.up s
structure Hq where
 me:Int
 ro:Int
 nu:Int
 lg:List Eh
 db:Int
 wi:Bool
variable{me:Int}
structure V0 where
 C:Yc
 dx:Yc
 cb:V
 pa:Yc
 lg:Yc
 lo:Yc
 xs:List V
variable{C:Yc}
structure Cq(K:Ye)(mg:Yh->Option Yd)(H:Hp)(p:Yc)(S:Hq)(x:V0)(pv cv:V):Prop where
 mH:mg "Hand"=Ya (.ref x.C)
 T:OX K x.C
 ob:H p=Ya (.ins x.C x.dx (pC (.int S.me) (.int S.ro) (.int S.nu) pv cv x.cb .non (.ref x.pa) (.ref x.lg) (.ref x.lo) (.int S.db) (.int 0) (.bl false) (.bl S.wi)))
 pa:H x.pa=Ya (.tup [])
 lg:H x.lg=Ya (.lst x.xs)
 ev:Q2 H x.xs S.lg
 lo:H x.lo=Ya (.lst [])
 nl:x.lg≠x.lo
 m0:0<=S.me
 m1:S.me<63
 d0:0<=S.db
structure HpX where
 pg:Yc
 y:PgX
 S:Pg
 ch:Yc
 rd:Yc
variable{S:Hq}{z:Option HpX}
def mQ(K:Ye)(mg:Yh->Option Yd)(H:Hp)(p:Yc)(S:Hq)(x:V0):Option HpX->Prop
 |none=>Cq K mg H p S x .non .non
 |some z=>Cq K mg H p S x (.ref z.pg) (.ref z.ch)/\nR K mg H z.pg z.S z.y/\ChF mg H z.ch S.me z.S.ha z.rd/\(∀a∈[p,x.lg,x.lo,z.ch,z.rd],a∉z.y.ft z.pg)/\z.S.nu=S.nu/\z.S.me=S.me
theorem mQ.r{p:Yc}{x:V0}(h:mQ K mg H p S x z):∃pv cv,Cq K mg H p S x pv cv:=by
 cases z with
 |none=>show#[_,_,h]
 |some z=>show#[_,_,h.1]
def mK(K:Ye)(mg:Yh->Option Yd):Sp:=λvs H Q _=>∃(p:Yc),vs=[.ref p]/\(E3 λS x z=>mQ K mg H p S x z/\∀H' l,aG H H'->H l=Yb->H' l=Ya (.lst x.xs)->Q (.ref l) H')
theorem ER:aq ["self"] ay (ah pA):=d5
def uT(K:Ye)(mg:Yh->Option Yd):Sp:=λvs H Q _=>∃(p:Yc),vs=[.ref p]/\(E3 λS x z=>mQ K mg H p S x z/\∀H' l,aG H H'->H l=Yb->H' l=Ya (.lst [])->Q (.ref l) H')
theorem Er:aq ["self"] ay (ah pR):=d5
def y9(K:Ye)(mg:Yh->Option Yd):Sp:=λvs H Q _=>∃(p:Yc),vs=[.ref p]/\(E3 λS x z=>mQ K mg H p S x z/\Q (.ref x.pa) H)
theorem HJ:aq ["self"] ay (ah tY):=d5
def kK(K:Ye)(mg:Yh->Option Yd):Sp:=λvs H Q _=>∃(p:Yc),vs=[.ref p]/\(E3 λS x z=>mQ K mg H p S x z/\Q .non H)
theorem Co:aq ["self"] ay (ah lM):=d5
def qq(K:Ye)(mg:Yh->Option Yd):Sp:=λvs H Q E=>∃(p:Yc),vs=[.ref p]/\∃S x z,mQ K mg H p S x z/\(∀y,z=Ya y->Q .non H)/\(z=Yb->∀H' ea C,aG H H'->H ea=Yb->mg "NotIn"=Ya (.ref C)->H' ea=Ya (xD ea C Yb)->E (.ref ea) (Ya C) H')
theorem Al:aq ["self"] ay (ah kH):=d5
def NiE(mg:Yh->Option Yd)(H:Hp)(E:XK):Prop:=∀H' ea C,aG H H'->H ea=Yb->mg "NotIn"=Ya (.ref C)->H' ea=Ya (xD ea C Yb)->E (.ref ea) (Ya C) H'
def iD(K:Ye)(mg:Yh->Option Yd):Sp:=λvs H Q E=>∃(p:Yc),vs=[.ref p]/\∃S x z,mQ K mg H p S x z/\(∀y,z=Ya y->Q .non H)/\(z=Yb->NiE mg H E)
theorem xF:aq ["self"] ay (ah je):=d5
def vU(K:Ye)(mg:Yh->Option Yd):Sp:=λvs H Q E=>∃(p:Yc),vs=[.ref p]/\∃S x,mQ K mg H p S x Yb/\NiE mg H E
theorem FW:aq ["self"] ay (ah rD):=d5
def vJ(K:Ye)(mg:Yh->Option Yd):Sp:=λvs H Q E=>∃(p:Yc) (m:V),vs=[.ref p,m]/\∃S x,mQ K mg H p S x Yb/\NiE mg H E
abbrev Df:List Yh:=["self","more"]
theorem FU:aq ["self","more","start"] Df (ah rp):=d5
def zN(K:Ye)(mg:Yh->Option Yd):Sp:=λvs H Q E=>∃(p:Yc),vs=[.ref p]/\∃S x z,mQ K mg H p S x z/\(∀y,z=Ya y->∀H' ea C,aG H H'->H ea=Yb->mg "IsIn"=Ya (.ref C)->H' ea=Ya (xD ea C Yb)->E (.ref ea) (Ya C) H')/\(z=Yb->∀H',mQ K mg H' p {S with wi:=true} x Yb->Off [p] H H'->Q .non H')
theorem IQ:aq ["self"] ay (ah sQ):=d5
def qM(K:Ye)(mg:Yh->Option Yd):Sp:=λvs H Q _=>∃(p:Yc),vs=[.ref p]/\(E3 λS x z=>A3 (mQ K mg H p S x z) ((z=Yb->Q .non H)) (∀y,z=Ya y->∀H' t,aG H H'->H' t=Ya (.tup [.int S.nu,.int y.S.ha])->Q (.ref t) H'))
theorem Az:aq ["self"] ay (ah kJ):=d5
def wF(K:Ye)(mg:Yh->Option Yd):Sp:=λvs H Q _=>∃(p:Yc),vs=[.ref p]/\(E3 λS x z=>A3 (mQ K mg H p S x z) ((∀y,z=Ya y->y.S.dn=[])) (∀H' d,aG H H'->H' d=Ya (.dK [])->Q (.ref d) H'))
theorem FR:aq ["self"] ay (ah qT):=d5
def zQ(K:Ye)(mg:Yh->Option Yd):Sp:=λvs H Q _=>∃(p:Yc),vs=[.ref p]/\(E2 λS x=>mQ K mg H p S x Yb/\∀H' l,aG H H'->H' l=Ya (.lst [])->Q (.ref l) H')
theorem HN:aq ["self"] ay (ah sW):=d5
def uj(K:Ye)(mg:Yh->Option Yd):Sp:=λvs H Q _=>∃(p:Yc),vs=[.ref p]/\(E2 λS x=>mQ K mg H p S x Yb/\∀H' l,aG H H'->H' l=Ya (.lst [])->Q (.ref l) H')
theorem EB:aq ["self"] ay (ah pN):=d5
def Bw(K:Ye):Sp:=λvs H Q _=>vs=[.non]/\Q .non H
theorem Ke:aq ["value"] qp (ah xQ):=d5
def nB(K:Ye)(mg:Yh->Option Yd):Sp:=λvs H Q _=>∃(p:Yc),vs=[.ref p]/\(E3 λme hd d=>ChF mg H p me hd d/\Q (.bl false) H)
theorem x8:aq ["self"] ay (ah jA):=d5
def nZ(K:Ye)(mg:Yh->Option Yd):Sp:=λvs H Q _=>E3 fun(p:Yc) (dd f:V)=>vs=[.ref p,dd,f]/\(E3 λme hd d=>ChF mg H p me hd d/\Q (.bl false) H)
abbrev Le:List Yh:=["self","doubts","make"]
theorem ym:aq ["self","doubts","make","yes","plan"] Le (ah jD):=d5
def oJ(K:Ye)(mg:Yh->Option Yd):Sp:=λvs H Q _=>∃(p:Yc),vs=[.ref p]/\(E3 λme hd d=>ChF mg H p me hd d/\Q .non H)
theorem yJ:aq ["self"] ay (ah jr):=d5
noncomputable abbrev yz:YY:=ad1 (ae5 (aO (dZ 71) 15) 3) 1
abbrev lG(Pt:Yc)(H:Hp):Prop:=aaU Pt (abB yz) "Hand.settle.<locals>.<lambda>" H
theorem j4(t:lG Pt H):∃ps,H Pt=Ya (.tbl ps):=by
 rcases t with t|⟨c,t,u⟩
 .show#[_,t]
 .show#[_,t]
theorem iB(t:lG Pt H)(k:∀u,H Pt=Ya u->H' Pt=Ya u)(f:qO H H'):lG Pt H':=by
 rcases t with t|⟨c,t,u⟩
 .show .inl (k _ t)
 .show .inr #[c,k _ t,f _ _ u (by intro z;show z)]
noncomputable abbrev aaW(c1 c2 c3:Yc):List (Yh×Yc):=[("wishes",c1),("self",c2),("hands",c3)]
theorem UL(xs:List V)(k:Int)(h:0<=k):EZ xs (Ya k) Yb=xs.drop k.toNat:=by
 obtain⟨n,rfl⟩:=ahD h;unfold EZ;have e1:HT.jn xs.length 0 (Ya (n:Int))=min n xs.length:=by
  change(if(n:Int)<0 then((n:Int)+ (xs.length:Nat)).toNat else min (n:Int).toNat xs.length)=_;rw[if_neg (by omega),YK]
 have e2:HT.jn xs.length xs.length Yb=xs.length:=rfl;rw[e1,e2,YK];rcases Nat.le_total n xs.length with z|z
 .rw[Nat.min_eq_left z,ahN (by rw[ahT];show Ym _)]
 .rw[Nat.min_eq_right z,ahO (Ym _),ahO z,List.take_nil]
theorem UX{v n:Int}(v0:0<=v)(n0:0<=n):acZ v n=((v.toNat ||| n.toNat:Nat):Int):=TU v0 n0
theorem ady{v n:Int}(v0:0<=v)(v1:v<9223372036854775808)(n0:0<=n)(n1:n<9223372036854775808):0<=acZ v n/\acZ v n<9223372036854775808:=by
 rw[UX v0 n0];have:v.toNat ||| n.toNat<2^63:=Nat.or_lt_two_pow (by have:(2:Nat)^63=9223372036854775808:=(by decide);omega) (by have:(2:Nat)^63=9223372036854775808:=(by decide);omega);have p:(2:Nat)^63=9223372036854775808:=by decide
 omega
theorem Vy(h0:0<=h)(h1:h<63):(0:Int)<=2^h.toNat/\(2:Int)^h.toNat<9223372036854775808:=by
 have p:(2:Nat)^h.toNat<2^63:=Nat.pow_lt_pow_right (by decide) (by omega);have q:(2:Nat)^63=9223372036854775808:=by decide
 show#[ae9 (am4 (by decide)),?_];rw[show(2:Int)^h.toNat=((2^h.toNat:Nat):Int)from(al0 2 h.toNat).symm];generalize 2^h.toNat=z at p;omega
theorem OJ:∀(i n m:Nat),(n-(n &&& m)).testBit i=(n.testBit i&& !m.testBit i)
 |0,n,m=>by
  have h1:(n &&& m)%2=(n%2)*(m%2):=by
   have:=ah6 n m 0;simp only[ajt]at this;rcases xg n with a|a<;>rcases xg m with b|b<;>rcases xg (n &&& m)with c|c<;>rw[a,b,c]at this⊢ <;>simp at this⊢
  have h2:n &&& m<=n:=aic;have h3:(n-(n &&& m))%2=(n%2)*(1-m%2):=by
   rcases xg n with a|a<;>rcases xg m with b|b<;>rw[a,b]at h1⊢ <;>omega
  simp only[ajt];rw[h3];rcases xg n with a|a<;>rcases xg m with b|b<;>rw[a,b]<;>decide
 |i+ 1,n,m=>by
  have h1:(n &&& m)%2<=n%2:=by
   have:=ah6 n m 0;simp only[ajt]at this;rcases xg n with a|a<;>rcases xg (n &&& m)with c|c<;>rw[a,c]at this⊢ <;>simp at this⊢
  have h2:n &&& m<=n:=aic;have h3:(n &&& m) / 2=n / 2 &&& m / 2:=Nat.and_div_two;have h4:(n-(n &&& m)) / 2=n / 2-(n / 2 &&& m / 2):=by omega
  rw[aju,aju,aju,h4,OJ i (n / 2) (m / 2)]
theorem Ls{n m:Int}(n0:0<=n)(m0:0<=m):abJ n (Y9 m)=((n.toNat-(n.toNat &&& m.toNat):Nat):Int):=by
 unfold abJ;rw[decide_eq_true n0,decide_eq_false (show ¬ (0:Int)<=Y9 m by unfold Y9;omega)];change n-((n.toNat &&& (Y9 (Y9 m)).toNat:Nat):Int)=_;rw[show Y9 (Y9 m)=m by unfold Y9;omega];have:n.toNat &&& m.toNat<=n.toNat:=aic;omega
theorem PJ{n m:Int}(n0:0<=n)(m0:0<=m):0<=abJ n (Y9 m)/\∀i,(abJ n (Y9 m)).toNat.testBit i=(n.toNat.testBit i&& !m.toNat.testBit i):=by
 rw[Ls n0 m0];show#[aiE _,λi=>by rw[YK];show OJ i _ _]
theorem Ju{n:Int}:abJ 0 (Y9 n)=0:=by
 unfold abJ;by_cases z:(0:Int)<=Y9 n
 .rw[decide_eq_true z];change((agP 0 &&& _:Nat):Int)=0;rw[show agP 0=0 from rfl,amU];rfl
 .rw[decide_eq_false z];change 0-((agP 0 &&& _:Nat):Int)=0;rw[show agP 0=0 from rfl,amU];rfl
noncomputable def V0.ft(x:V0)(p:Yc):Option HpX->List Yc
 |none=>[p,x.lg,x.lo]
 |some z=>[p,x.lg,x.lo,z.ch,z.rd]++z.y.ft z.pg
section
variable{p:Yc}{x:V0}{pv cv:V}
theorem Cq.off(h:Cq K mg H p S x pv cv)(o:Off F H H')(sm:pT H H')(n:∀a∈[p,x.lg,x.lo],a∉F):Cq K mg H' p S x pv cv:=
 #[h.mH,h.T,o _ _ h.ob (n _ (by simp)),sm _ _ h.pa,o _ _ h.lg (n _ (by simp)),tN sm h.ev,o _ _ h.lo (n _ (by simp)),h.nl,h.m0,h.m1,h.d0]
theorem IX(h:a∈[p,x.lg,x.lo]):a∈x.ft p z:=by
 cases z with
 |none=>show h
 |some z=>show pe _ (by simp only[Yq,YF,or_false]at h⊢;rcases h with y|y|y<;>simp[y])
theorem mQ.off(h:mQ K mg H p S x z)(o:Off F H H')(k:qO H H')(n:∀a∈x.ft p z,a∉F):mQ K mg H' p S x z:=by
 cases z with
 |none=>
  have h:Cq K mg H p S x .non .non:=h;show h.off o k.smh n
 |some z=>
  obtain⟨HA,P,⟨⟨C,dx,e,g⟩,g2⟩,np,en,em⟩:=h;have m5:∀{a},a∈[p,x.lg,x.lo,z.ch,z.rd]->a∉F:=λh=>n _ (pe _ h);show#[HA.off o k.smh λa ha=>n a (IX ha),P.off o k λa ha=>n a (YE _ ha),#[#[C,dx,e,o _ _ g (m5 (by simp))],o _ _ g2 (m5 (by simp))],np,en,em]
theorem mQ.same(h:mQ K mg H p S x z)(s:aG H H'):mQ K mg H' p S x z:=h.off (F:=[]) (Off.of s) (.same s) λ_ _ z=>nomatch z
end
def tQ(K:Ye)(mg:Yh->Option Yd)(P_mk:Yc):Sp:=λvs H Q _=>∃(p:Yc),vs=[.ref p]/\(E3 λS x z=>A4 (mQ K mg H p S x z) (lG P_mk H) (P_mk∉x.ft p z) (∀H',Off [P_mk] H H'->mQ K mg H' p S x z->lG P_mk H'->Q .non H'))
theorem jj:aq ["self","hands","wishes","plan"] ay (ah jS):=d5
theorem wW{α β:Type}{R:α->β->Prop}:∀{xs:List α} {ys:List β} {us:List α} {vs:List β},Aq R xs ys->Aq R us vs->Aq R (xs++us) (ys++vs):=by
 intro a b c d w h
 induction w with
 |nil=>show h
 |cons r _ ih=>show .cons r ih
theorem mQ.r2{p:Yc}{x:V0}(h:mQ K mg H p S x z):∃pv cv,Cq K mg H p S x pv cv/\∀H' S' x',Cq K mg H' p S' x' pv cv->S'.me=S.me->S'.nu=S.nu->x'.lg=x.lg->x'.lo=x.lo->(∃F,Off F H H'/\qO H H'/\∀a∈F,a=p∨a=x.lg)->mQ K mg H' p S' x' z:=by
 cases z with
 |none=>show#[_,_,h,λH' S' x' h' _ _ _ _ _=>h']
 |some z=>
  obtain⟨HA,P,⟨⟨C,dx,e,g⟩,g2⟩,np,en,em⟩:=h;show#[_,_,HA,λH' S' x' h' e1 e2 e3 e4 zz=>?_];obtain⟨F,o,k,sub⟩:=zz;have nF:∀{a},a∈z.y.ft z.pg->a∉F:=fun{a} h m=>by
   rcases sub a m with y|y
   .show np p (by simp) (y▸h)
   .show np x.lg (by simp) (y▸h)
  have nch:z.ch∉F:=λm=>by
   rcases sub _ m with y|y
   .have hp:=HA.ob;rw[←y,g]at hp;cases hp
   .have hl:=HA.lg;rw[←y,g]at hl;cases hl
  have nrd:z.rd∉F:=λm=>by
   rcases sub _ m with y|y
   .have hp:=HA.ob;rw[←y,g2]at hp;cases hp
   .have hl:=HA.lg;rw[←y,g2]at hl;cases hl
  show#[h',P.off o k λa ha=>nF ha,#[#[C,dx,by rw[e1]at*;show e,by rw[e1];show o _ _ g nch],o _ _ g2 nrd],by rw[e3,e4];show np,by rw[e2];show en,by rw[e1];show em]
theorem rX:aq ["self","hands","start"] vB (ah l8):=d5
theorem abw{x1 x2 x3 x4 x5 x6:V}(h:H a=Ya (.tup [x1,x2,x3,x4,x5,x6]))(q:∀p H',H p=Yb->aG H H'->H' p=Ya (.tup [x1,x2,x3])->Q (.ref p) H'):aa7 K (.ref a) Yb (Ya 3) H Q:=
 #[a,_,rfl,c8.of h,by change ¬ (HT.jn 6 0 Yb=0/\HT.jn 6 6 (Ya 3)=6);decide,λp hp=>q p _ hp (aE hp) aj]
def wD(K:Ye):Sp:=λvs H Q _=>E2 fun(v:V) (w:Yh)=>vs=[v,.str w]/\∃c,A3 (NN H v c) (w=Why c) (∀H' t,aG H H'->EhA H' (.ref t) (.tke c)->Q (.ref t) H')
abbrev LO:List Yh:=["told","why"]
theorem FX:aq ["told","why"] LO (ah rB):=d5
def mL(K:Ye)(mg:Yh->Option Yd):Sp:=λvs H Q _=>E2 fun(p l:Yc)=>vs=[.ref p,.ref l]/\(E5 λS x z ys rw=>A6 (mQ K mg H p S x z) (bZ K H l ys) (UC H ys rw) (S.lg.length<=900) (ys.length<=10) (∀H' us,mQ K mg H' p {S with lg:=S.lg++rw.map λq=>Eh.tke q.2} {x with xs:=x.xs++us} z->Off [x.lg] H H'->Q .non H'))
abbrev KC:List Yh:=["self","taken"]
theorem w9:aq ["self","taken"] KC (ah iU):=d5
theorem acp{S:Pg}(h:Wd S S' rw):S'.ha=S.ha:=by
 obtain⟨zs,rw1,m1,m2,od',ab',ta',j,pm,_,_,pl,r1,la,r2,lt,fl,rfl⟩:=h;rfl
theorem aby{nu ro:Int}{S:Pg}{n:Nat}{w:Int}(h:Ow me nu ro S n)(nw:NwC S "own" w c):c.kd="own"/\c.n=nu/\c.c=me/\c.k=(n:Int)+ 1:=by
 obtain⟨hs,_,_,rfl⟩:=nw;show#[rfl,h.en,h.em,by change S.ma+ 1=_;rw[h.ma]]
def afI(K:Ye)(mg:Yh->Option Yd)(H:Hp)(p:Yc)(kv wv:V)(Q:V->Hp->Prop)(E:XK):Prop:=(∃S x,mQ K mg H p S x Yb/\NiE mg H E)∨
 ∃S x y n kd w,kv=.str kd/\wv=.int w/\mQ K mg H p S x (Ya y)/\Ow S.me S.nu y.S.ro y.S n/\n<=10/\(kd="own"∨kd="heard"∨kd="one")/\(if w<0 then-w else w)<10^(60:Int).toNat/\S.lg.length<=800/\
  ((n:Int)<y.S.ro->kd="own"/\∀H' t x' y' c,Off (x.ft p (Ya y)) H H'->mQ K mg H' p {S with lg:=S.lg++[.tke c]} x' (Ya y')->Ow S.me S.nu y.S.ro y'.S (n+ 1)->y'.S.ro=y.S.ro->(∀a∈x'.ft p (Ya y'),a∈x.ft p (Ya y)∨H a=Yb)->Q (.ref t) H')/\
  (¬ (n:Int)<y.S.ro->∀H' ea C,aG H H'->mg "Held"=Ya (.ref C)->H ea=Yb->Vs H' ea C (.int n) (.int y.S.ro)->E (.ref ea) (Ya C) H')
def zM(K:Ye)(mg:Yh->Option Yd):Sp:=λvs H Q E=>∃(p:Yc) (kv wv:V),vs=[.ref p,kv,wv]/\afI K mg H p kv wv Q E
theorem Iz:aq ["self","kind","word"] wg (ah uO):=d5
def vM(K:Ye)(mg:Yh->Option Yd):Sp:=λvs H Q _=>E3 fun(p:Yc) (n:Int) (tp:Yc)=>vs=[.ref p,.int n,.ref tp]/\(E8 λS x pv cv o ha w te=>A7 (Cq K mg H p S x pv cv) (H tp=Ya (.tup [.int o,.int ha,.int w,.ref te])) (S.nu<=n) (0<=ha) (ha<9223372036854775808) (S.lg.length<=900) (∀H' x' y,Off [p,x.lg] H H'->mQ K mg H' p {S with nu:=n,wi:=false,lg:=S.lg++[.lst n ha o w]} x' (Ya y)->y.S=Pg.new S.me n ha S.ro->(∀a∈x'.ft p (Ya y),a∈[p,x.lg,x.lo]∨H a=Yb)->Q .non H'))
abbrev K6:List Yh:=["self","number","plan"]
theorem FT:aq ["self","number","plan"] K6 (ah rm):=d5
def zt(K:Ye)(v:V):Prop:=v=.int 62
def E9(K:Ye):Sp:=λvs H Q _=>∃(w:Int),vs=[.int w]/\Q (.bl (decide (0<=w/\w<=62))) H
theorem Mu:aq ["value"] qp (ah Ab):=d5
def Hv(K:Ye):Sp:=λvs H Q _=>∃(w:Int),vs=[.int w]/\Q (.bl (decide (0<=w/\w<9223372036854775808))) H
theorem Qo:aq ["value"] qp (ah Ds):=d5
def RaE(mg:Yh->Option Yd)(n:Yh)(H:Hp)(E:XK):Prop:=∀H' ea C,aG H H'->H ea=Yb->mg n=Ya (.ref C)->H' ea=Ya (xD ea C Yb)->E (.ref ea) (Ya C) H'
def jB(K:Ye)(mg:Yh->Option Yd):Sp:=λvs H Q E=>∃(p:Yc) (me ha nu ro:Int),vs=[.ref p,.int me,.int ha,.int nu,.int ro]/\∃C dx,mg "Hand"=Ya (.ref C)/\OX K C/\H p=Ya (.ins C dx [])/\(¬ (0<=me/\me<=62)->RaE mg "NoHand" H E)/\((0<=me/\me<=62)->¬ (0<ha/\ha<9223372036854775808)->RaE mg "NoHands" H E)/\((0<=me/\me<=62)->(0<ha/\ha<9223372036854775808)->ha.toNat.testBit me.toNat=true->∀H' x y,(∀b o,H b=Ya o->b≠p->H' b=Ya o)->mQ K mg H' p #[me,ro,nu,[.lst nu ha 0 ha],0,false] x (Ya y)->y.S=Pg.new me nu ha ro->(∀a∈x.ft p (Ya y),a=p∨H a=Yb)->Q .non H')/\((0<=me/\me<=62)->(0<ha/\ha<9223372036854775808)->ha.toNat.testBit me.toNat=false->∀H' x,(∀b o,H b=Ya o->b≠p->H' b=Ya o)->mQ K mg H' p #[me,ro,nu,[],0,false] x Yb->(∀a∈x.ft p Yb,a=p∨H a=Yb)->Q .non H')
abbrev sX:List Yh:=["self","me","hands","number","room"]
theorem AR:aq ["self","me","hands","number","room"] sX (ah ku):=d5
def rT(K:Ye):Sp:=λvs H Q _=>E2 fun(a:Yc) (k:Int)=>vs=[.ref a,.int k]/\∃ns:List Int,bZ K H a (ns.map V.int)/\0<=k/\∀c:Int,Q (.int c) H
abbrev JE:List Yh:=["_law_script","_law_k"]
theorem Cj:aq ["_law_script","_law_k"] JE (ah mR):=d5
theorem uE{u:V}(h1:Dz K H v d)(h2:Dz K H u d)(l:d.canLay0=true)(dp:d.depth<=60)(q:Q (.bl false) H):MD K v u H Q:=#[d,d,h1,h2,l,l,by omega,by rw[SeqAt.eqv_refl _ l];show q]
theorem zu{u:V}(h1:Dz K H v d)(h2:Dz K H u d)(l:d.canLay0=true)(dp:d.depth<=60)(q:Q (.bl true) H):Rx K v u H Q:=#[d,d,h1,h2,l,l,by omega,by rw[SeqAt.eqv_refl _ l];show q]
def B4(H:Hp)(l:Yc)(a b c d:Bool):Prop:=H l=Ya (.lst [.bl a,.bl b,.bl c,.bl d])
theorem B4.dz{l:Yc}{a b c d:Bool}(h:B4 H l a b c d):Dz K H (.ref l) (.list [.bool a,.bool b,.bool c,.bool d]):=.l (bZ.of h) (.cons (.p (.bool _)) (.cons (.p (.bool _)) (.cons (.p (.bool _)) (.cons (.p (.bool _)) .nil))))
theorem IZ{l m:Yc}{a b c d:Bool}(h:B4 H l a b c d)(g:B4 H m a b c d)(q:Q (.bl false) H):MD K (.ref l) (.ref m) H Q:=uE h.dz g.dz rfl (Rk rfl) q
theorem kR{ea:Yc}{c:V}{cv:Yd}{b:Bool}(r:∀u,RelV c u->u=cv)(g:H ea=Ya (xD ea C Yb))(F:FO K C)(k:cw K (.ref C) cv=Ya b)(q:Q (.bl b) H):adE K [.ref ea,c] H Q:=#[ea,C,c,cv,b,Yb,rfl,r,g,F,k,q]
def yy(K:Ye)(mg:Yh->Option Yd):Sp:=λvs H Q _=>E4 fun(me ha nu ro:Int)=>vs=[.int me,.int ha,.int nu,.int ro]/\((¬ (0<=me/\me<=62)/\∀H' l,aG H H'->B4 H' l true true false false->Q (.ref l) H')∨((0<=me/\me<=62)/\¬ (0<ha/\ha<9223372036854775808)/\∀H' l,aG H H'->B4 H' l true false true false->Q (.ref l) H'))
abbrev L0:List Yh:=["_law_me","_law_hands","_law_number","_law_room_here"]
theorem lD:aq ["_law_me","_law_hands","_law_number","_law_room_here","_law_found","e"] L0 (ah sN):=d5
theorem at4{a b c d:V}{n:Int}(h0:0<=n)(h1:n<4):∃v,Fx [a,b,c,d] n=Ya v:=by
 obtain rfl|rfl|rfl|rfl:n=0∨n=1∨n=2∨n=3:=by omega
 .show#[a,by kernel_rfl]
 .show#[b,by kernel_rfl]
 .show#[c,by kernel_rfl]
 .show#[d,by kernel_rfl]
theorem at3{a b c:V}{n:Int}(h0:0<=n)(h1:n<3):∃v,Fx [a,b,c] n=Ya v:=by
 obtain rfl|rfl|rfl:n=0∨n=1∨n=2:=by omega
 .show#[a,by kernel_rfl]
 .show#[b,by kernel_rfl]
 .show#[c,by kernel_rfl]
theorem Tt{Dc:Yc}{tb:(St->XK)->TS}{th:TS}{D:q8}(h:∀EE:St->XK,(∀σ' ea C H',vk K C Dc->th (Iv i D) (σ'.set i (Ya (.ref ea))) H'->EE σ' (.ref ea) (Ya C) H')->tb EE D σ H):NY K Dc i tb th D σ H:=PH (h _ λ_ ea C _ a b=>#[ea,C,rfl,rfl,a,b])
def RfS(K:Ye)(mg:Yh->Option Yd)(H:Hp)(p:Yc)(d:Int)(Q:V->Hp->Prop):Prop:=∃S x z,mQ K mg H p S x z/\((z=Yb/\(d=0∨d=1∨d=2)/\∀H' l,aG H H'->B4 H' l true true false false->Q (.ref l) H')∨
 (z=Yb/\d=3/\∀H' l,Off [p] H H'->mQ K mg H' p {S with wi:=true} x Yb->H' l=Ya (.lst [])->Q (.ref l) H')∨
 ((∃y,z=Ya y)/\d=3/\∀H' l,aG H H'->B4 H' l true false true false->Q (.ref l) H'))
def rS(K:Ye)(mg:Yh->Option Yd):Sp:=λvs H Q _=>E3 fun(p:Yc) (d c:Int)=>vs=[.ref p,.int d,.int c]/\RfS K mg H p d Q
abbrev Kt:List Yh:=["_law_hand","_law_deed","_law_cell"]
theorem iq:aq ["_law_hand","_law_deed","_law_cell","_law_found","e"] Kt (ah l9):=d5
theorem abG(x:Int):((2:Int)^x.toNat).toNat=2^x.toNat:=by rw[show(2:Int)^x.toNat=((2^x.toNat:Nat):Int)from(al0 2 x.toNat).symm,YK]
theorem HG(x:Int)(i:Nat):((2:Int)^x.toNat).toNat.testBit i=decide (x.toNat=i):=by rw[abG,akw]
theorem gor{x:Int}(g0:0<g)(g1:g<9223372036854775808)(x0:0<=x)(x1:x<63):0<acZ g (1*(2:Int)^x.toNat)/\acZ g (1*(2:Int)^x.toNat)<9223372036854775808/\∀i,(acZ g (1*(2:Int)^x.toNat)).toNat.testBit i=(g.toNat.testBit i||decide (x.toNat=i)):=by
 obtain⟨a0,a1⟩:=Vy x0 x1;rw[ahP];obtain⟨b0,b1⟩:=ady (ae9 g0) g1 a0 a1;have e:∀i,(acZ g ((2:Int)^x.toNat)).toNat.testBit i=(g.toNat.testBit i||decide (x.toNat=i)):=λi=>by
  rw[UX (ae9 g0) a0,YK,Nat.testBit_or,HG]
 show#[?_,b1,e];rcases Int.lt_or_eq_of_le b0 with z|z
 .show z
 .have:=e x.toNat
  rw[←z]at this;simp at this
theorem aaP{α:Type}[DecidableEq α]:∀{l m:List α},l.Nodup->(∀a∈l,a∈m)->l.length<=m.length
 |[],_,_,_=>Y1 _
 |a::l,m,nd,h=>by
  rw[xp]at nd;have ha:=h a Yy;have:=aaP (l:=l) (m:=m.erase a) nd.2 λb hb=>by
   show(ah8 λz:b=a=>nd.1 (z▸hb)).mpr (h b (Yx _ hb))
  rw[List.length_erase_of_mem ha]at this;have:=List.length_pos_of_mem ha;rw[cT];omega
theorem MS{n:Int}{l:List Int}(s:∀i:Nat,n.toNat.testBit i=true->i<63->(i:Int)∈l):(GB.hl n).length<=l.length:=aaP (aan n) λa h=>by
 have r:=(S4 n).rg a h;obtain⟨k,rfl⟩:=ahD r.1;show s k (GB.Ar.mp h).2 (GB.Ar.mp h).1
theorem Qg{x:Int}(g0:0<g)(g1:g<9223372036854775808)(x0:0<=x)(x1:x<63):(GB.hl (acZ g (1*(2:Int)^x.toNat))).length<=(GB.hl g).length+ 1:=by
 show MS (l:=x::GB.hl g) λi hi lt=>?_;rw[(gor g0 g1 x0 x1).2.2 i]at hi;rcases(Bool.or_eq_true _ _).mp hi with z|z
 .show Yx _ (GB.Ar.mpr #[lt,z])
 .have:=of_decide_eq_true z;rw[←this,show((x.toNat:Nat):Int)=x by omega];show Yy
theorem Pl{x:Int}(x0:0<=x):(GB.hl (1*(2:Int)^x.toNat)).length<=1:=by
 show MS (l:=[x]) λi hi lt=>?_;rw[ahP,HG]at hi;have:=of_decide_eq_true hi;rw[←this,show((x.toNat:Nat):Int)=x by omega];show Yy
theorem CL{x:Int}(x0:0<=x)(x1:x<63):0<1*(2:Int)^x.toNat/\1*(2:Int)^x.toNat<9223372036854775808:=by
 rw[ahP];show#[am4 (by decide),(Vy x0 x1).2]
structure GOk(g:Int)(n:Nat):Prop where
 p:0<g
 l:g<9223372036854775808
 n:(GB.hl g).length<=n
variable{n:Int}{l:Yc}
def vE(K:Ye):Sp:=λvs H Q _=>∃(c:Int),vs=[.int c]/\∀g,0<g->g<9223372036854775808->(GB.hl g).length<=6->Q (.int g) H
abbrev Kd:List Yh:=["_law_cell"]
theorem jM:aq ["_law_cell","_law_group_here","_law_k"] Kd (ah qY):=d5
theorem Ea(ha:H a=Ya (.lst []))(hb:H b=Ya (.lst []))(q:Q (.bl false) H):MD K (.ref a) (.ref b) H Q:=
 uE (d:=.list []) (.l (bZ.of ha) .nil) (.l (bZ.of hb) .nil) rfl (Rk rfl) q
theorem MR(ha:H a=Ya (.lst []))(hb:H b=Ya (.lst []))(q:Q (.bl true) H):Rx K (.ref a) (.ref b) H Q:=
 zu (d:=.list []) (.l (bZ.of ha) .nil) (.l (bZ.of hb) .nil) rfl (Rk rfl) q
theorem abt(ha:H a=Ya (.tup []))(hb:H b=Ya (.tup []))(q:Q (.bl false) H):MD K (.ref a) (.ref b) H Q:=
 uE (d:=.tuple []) (.t (c8.of ha) .nil) (.t (c8.of hb) .nil) rfl (Rk rfl) q
theorem ac1(ha:H a=Ya (.tup []))(hb:H b=Ya (.tup []))(q:Q (.bl true) H):Rx K (.ref a) (.ref b) H Q:=
 zu (d:=.tuple []) (.t (c8.of ha) .nil) (.t (c8.of hb) .nil) rfl (Rk rfl) q
abbrev Jw:List Yh:=["_law_hand","_law_cell"]
theorem sg:aq ["_law_hand","_law_cell","_law_deed"] Jw (ah l7):=d5
theorem mQ.fto{p:Yc}{x:V0}(h:mQ K mg H p S x z):∀a∈x.ft p z,∃o,H a=Ya o/\FtO o:=by
 intro a ha;cases z with
 |none=>
  have h:Cq K mg H p S x .non .non:=h;have ha:a∈[p,x.lg,x.lo]:=ha;simp only[Yq,YF,or_false]at ha;rcases ha with rfl|rfl|rfl
  .show#[_,h.ob,by change(14:Nat)≠5;decide]
  .show#[_,h.lg,trivial]
  .show#[_,h.lo,trivial]
 |some y=>
  obtain⟨HA,P,⟨⟨C,dx,e,g⟩,g2⟩,_⟩:=h;have ha:a∈[p,x.lg,x.lo,y.ch,y.rd]++y.y.ft y.pg:=ha;rcases YV.mp ha with z|z
  .simp only[Yq,YF,or_false]at z;rcases z with rfl|rfl|rfl|rfl|rfl
   .show#[_,HA.ob,by change(14:Nat)≠5;decide]
   .show#[_,HA.lg,trivial]
   .show#[_,HA.lo,trivial]
   .show#[_,g,by change(7:Nat)≠5;decide]
   .show#[_,g2,trivial]
  .show P.fto a z
def NA(H:Hp)(l:Yc)(n h o w:Int):Prop:=∃t,H l=Ya (.lst [.ref t])/\H t=Ya (.tup [.str "list",.int n,.int h,.int o,.int w])
theorem acq:(PyData.list [.tuple [.str "list",.int 0,.int 0,.int 0,.int 0]]).canLay0=true:=by decide +kernel
theorem NA.dz{w:Int}(e:NA H l n h o w):Dz K H (.ref l) (.list [.tuple [.str "list",.int n,.int h,.int o,.int w]]):=by
 obtain⟨t,g1,g2⟩:=e;show .l (bZ.of g1) (.cons (.p (.tup (c8.of g2) (.cons (.str _) (.cons (.int _) (.cons (.int _) (.cons (.int _) (.cons (.int _) .nil))))))) .nil)
theorem NA.same{w:Int}(e:NA H l n h o w)(s:aG H H'):NA H' l n h o w:=by
 obtain⟨t,g1,g2⟩:=e;show#[t,s _ _ g1,s _ _ g2]
theorem Sh(n h o w:Int):(PyData.list [.tuple [.str "list",.int n,.int h,.int o,.int w]]).canLay0=true:=acq
theorem ac2{w:Int}(e:NA H a n h o w)(f:NA H b n h o w)(q:Q (.bl false) H):MD K (.ref a) (.ref b) H Q:=uE e.dz f.dz (Sh n h o w) (Rk rfl) q
theorem aco{w:Int}(e:NA H a n h o w)(f:NA H b n h o w)(q:Q (.bl true) H):Rx K (.ref a) (.ref b) H Q:=zu e.dz f.dz (Sh n h o w) (Rk rfl) q
theorem UY{xs:List V}{w:Int}(g:H l=Ya (.lst xs))(e:Q2 H xs [.lst n h o w]):NA H l n h o w:=by
 cases e with
 |cons e t=>
  cases t;obtain⟨t,rfl,ht⟩:=e;show#[t,g,ht]
theorem abI{i j:Int}(ha:H a=Ya (.tup [.int i,.int j]))(hb:H b=Ya (.tup [.int i,.int j]))(q:Q (.bl false) H):MD K (.ref a) (.ref b) H Q:=
 uE (d:=.tuple [.int i,.int j]) (.p (.tup (c8.of ha) (.cons (.int _) (.cons (.int _) .nil)))) (.p (.tup (c8.of hb) (.cons (.int _) (.cons (.int _) .nil)))) rfl (Rk rfl) q
abbrev Kr:List Yh:=["_law_hand","_law_number","_law_hands"]
theorem mF:aq ["_law_hand","_law_number","_law_hands","_law_due","_law_events"] Kr (ah pB):=d5
theorem ID{sp:Sp}{dvs:List V}{t:TA}(h:t σ H λvs H1=>∀x dx H',H1 x=Yb->aG H1 H'->H' x=Ya (.ins C dx [])->sp (.ref x::(vs++dvs)) H' (λv H2=>v=.non/\Q (.ref x) H2) E0)(mono:∀{P Q':List V->Hp->Prop},(∀vs H,P vs H->Q' vs H)->t σ H P->t σ H Q'):UZ C sp dvs E0 t σ H Q:=
 mono (λvs H1 k x dx hx hd ne=>k x dx _ hx (λb o z=>by rw[ak (au z hx),ak (au z hd)];show z) aj) h
theorem abH{i j:Int}(ha:H a=Ya (.lst [.int i,.int j]))(hb:H b=Ya (.lst [.int i,.int j]))(q:Q (.bl true) H):Rx K (.ref a) (.ref b) H Q:=
 zu (d:=.list [.int i,.int j]) (.l (bZ.of ha) (.cons (.p (.int _)) (.cons (.p (.int _)) .nil))) (.l (bZ.of hb) (.cons (.p (.int _)) (.cons (.p (.int _)) .nil))) rfl (Rk rfl) q
abbrev LN:List Yh:=["_law_me","_law_hands","_law_number"]
theorem gZ:aq ["_law_me","_law_hands","_law_number","_law_hand","_law_k","_law_fields","e"] LN (ah uI):=d5
theorem ack{w:Int}(w0:0<w)(w1:w<9223372036854775808):∃i:Nat,i<63/\w.toNat.testBit i=true:=by
 obtain⟨i,hi⟩:=Nat.exists_testBit_of_ne_zero (x:=w.toNat) (by omega);show#[i,?_,hi];rcases agZ i 63 with z|z
 .show z
 .have p:(2:Nat)^63<=2^i:=aki (by decide) z;have q:(2:Nat)^63=9223372036854775808:=by decide
  rw[ajO (show w.toNat<2^i by omega)]at hi;cases hi
theorem XB(g0:0<g)(g1:g<9223372036854775808)(gl:(GB.hl g).length<=6)(m0:0<=me)(m1:me<63):let w:=abJ g (Y9 (1*(2:Int)^me.toNat));0<=w/\w<9223372036854775808/\w.toNat.testBit me.toNat=false/\(GB.hl w).length<=6:=by
 have n0:0<=1*(2:Int)^me.toNat:=ae9 (CL m0 m1).1;have e:=PJ (ae9 g0) n0;have v:=Ls (ae9 g0) n0;show#[e.1,?_,?_,?_]
 .rw[v];have:g.toNat &&& (1*(2:Int)^me.toNat).toNat<=g.toNat:=aic;omega
 .rw[e.2,ahP,HG];simp
 .show oh (MS (l:=GB.hl g) λi hi lt=>GB.Ar.mpr #[lt,?_]) gl;rw[e.2]at hi;show(ag9 _ _▸hi:_/\_).1
theorem jz:aq ["_law_script","_law_me","_law_group_here","_law_number","_law_room_here","_law_cell","_law_far","_law_bad","_law_hands","_law_there","_law_away"] ["_law_script"] (ah Hb):=d5
theorem ln2(h:us.length=2):∃a b,us=[a,b]:=match us,h with|[a,b],_=>#[a,b,rfl]
theorem ln4(h:us.length=4):∃a b c d,us=[a,b,c,d]:=match us,h with|[a,b,c,d],_=>#[a,b,c,d,rfl]
theorem ln5(h:us.length=5):∃a b c d e,us=[a,b,c,d,e]:=match us,h with|[a,b,c,d,e],_=>#[a,b,c,d,e,rfl]
variable(eV:Tg P w mg base)
include eV in
theorem JV(F:bx K "count_of" "count_of" wM f fd):∅ 1 f fd Rl (uo K):=by
 show F.oj Lz ?_;rintro _ _ _ _ H _ Q _ _ _ _ hu ⟨d,m,h,rfl,h⟩;show#[_,(ai (aF (SN hu (pv 0) (pv 1) ax #[rfl,rfl,rfl,rfl]))),?_];obtain⟨hd,k⟩:=h;show#[_,rfl,d,rfl,.inl #[_,hd],_,rfl,_,.inl #[_,YG h,hd,rfl,rfl],?_];change Q ((hX (dI m) (YG h:cj)).getD (.int 0)) H;rw[XE];show k
variable(hG:mg "list"=Yb)(Oh:mg "set"=Yb)(ke:mg "sorted"=Yb)
include eV hG Oh ke in
theorem CS(F:bx K "hands_among" "hands_among" pL f fd):∅ 1 f fd Em (lZ K):=by
 show F.oj mM ?_;rintro _ _ _ _ H _ _ _ _ _ _ _ ⟨a,xs,ms,rfl,h⟩;show#[_,(af (bh (i:=1) mM.nd rfl (Or.inl rfl) (bS ae))
   (af (pO BP rfl (cJ (K:=K) rfl (pv 0)) (bR (i:=2) mM.nd rfl (Or.inl rfl))
   (ai (bV (KD adv ajv ajw Gp (pv 1) (aa (dh (Nd rfl) (by rfl) hG aaK (aa (pv 2) ae)) ae)))))
   (ai (aF (bF (yi rfl) (by rfl) ke agA (aa (dh (G9 rfl) (by rfl) Oh (show afm "set"=Ya (.type "set") by decide +kernel) (aa (pv 1) ae)) ae)))))),?_]
 show xl3 ?_;intro _;obtain⟨hS,dc,ck,l10,k⟩:=h;show#[Y1 _,λhl hhl=>?_];have lx:xs.length=ms.length:=Y2 dc;show#[_,rfl,a,rfl,#[_,(aE hhl).seq hS],j0 (K:=K) (a:=a) (xs:=xs) (λi σ H'=>E2 λv ns=>A5 (σ=[Ya (.ref a),Ya (.ref hl),v]) (aG H H') (H' hl=Ya (.lst (ns.map V.int))) (ns.length<=63*i) (∀k,k∈ns↔∃m∈ms.take i,k∈m.map (·.1)))
  #[Yb,[],rfl,aE hhl,aj,Y1 _,λk=>by simp] (λi σ H' _ ⟨_,_,_,sm,_,_,_⟩=>sm.seq hS) ?_ ?_]
 .rintro i x σ H' hx ⟨v,ns,rfl,sm,hH,hlen,hm⟩;obtain⟨m,hmi,d,rfl,hd⟩:=VW.get dc hx;have hi:=(Yp.mp hmi).1;have cm:=ck m (Y0 hmi);have lm:=cm.len;show#[_,rfl,.inl #[rfl,_,bZ.of hH],_,rfl,d,m,rfl,dE sm hd,by omega,λl hl2=>?_];have nl:hl≠l:=au hH hl2;show#[hl,l,_,_,rfl,rfl,by rw[ak nl];show hH,aj,?_,Ya (.ref d),ns++m.map (·.1),rfl,λb o e=>?_,?_,?_,λk=>?_]
  .rw[Yj,Yj,Yj];show tm (aN (by omega))
  .rw[ak (au e hhl),ak (au (sm b o e) hl2)];show sm b o e
  .rw[aj,YD]
  .rw[Yz,Yj];omega
  .rw[bI hmi,YV,hm k];constructor
   .rintro(⟨m',q1,q2⟩|q)
    .show#[m',pe _ q1,q2]
    .show#[m,YE _ (by simp),q]
   .rintro⟨m',q1,q2⟩;rcases YV.mp q1 with z|z
    .show .inl #[m',z,q2]
    .rw[Yo.mp z]at q2;show .inr q2
 rintro σ H' ⟨v,ns,rfl,sm,hH,hlen,hm⟩;rw[lx,Y6]at hm;show#[_,rfl,hl,ns,rfl,bZ.of hH,by omega,λq ks hq nd mem=>?_];have rg:∀k∈ks,0<=k/\k<63:=λk hk=>by
  obtain⟨m,h1,h2⟩:=(hm k).mp ((mem k).mp hk);show(ck m h1).keys k h2
 show#[q,ks,rfl,aj,nd,qR nd rg,λl S hl3 pm so=>?_];show k _ l S (sm.trans ((aE hq).trans (aE hl3))) aj (pm.nodup_iff.mpr nd) λj=>?_;rw[pm.mem_iff,mem j,hm j]
variable{xR:Yc}{pd:Yc}{uR:Yr}{lX:Yr}(dy:∅ 1 xR uR Rl (uo K))(cu:fH K mg "count_of" xR uR Rl)(jN:∅ 1 pd lX Em (lZ K))(fZ:fH K mg "hands_among" pd lX Em)(aaA:mg "all"=Yb)
include eV dy cu jN fZ aaA in
theorem RQ(F:bx K "covers" "covers" EL f fd):∅ 2 f fd EA (Ao K):=by
 show F.oj Qp ?_;rintro _ _ _ _ _ _ _ _ hr _ _ _ ⟨d,e,m,n,rfl,h⟩;show#[_,(ai (aF (bF (Um rfl) (by rfl) aaA anf (aa (el ["one","other","hand"] [Ya 0,Ya 1,Yb] rfl rfl (by kernel_rfl) (cJ (K:=K) rfl (bg jN fZ hr (aa (bS (aa (pv 0) (aa (pv 1) ae))) ae))) (λ_ _ _ _ _ nd=>bR (i:=2) nd rfl (Or.inl rfl)) (λ_ _ _ _ _=>kY) (λ_ _ _ _ _=>(eT K2 (bg dy cu hr (aa (pv 0) (aa (pv 2) ae))) (bg dy cu hr (aa (pv 1) (aa (pv 2) ae))) (aP _)))) ae)))),?_];obtain⟨hd,he,cm,cn,k⟩:=h;show#[_,rfl,_,rfl,by change 2<=Yu;decide,λl0 hl0=>?_];have s0:=aE (o:=.lst [V.ref d,.ref e]) hl0;show#[l0,_,[m,n],rfl,bZ.of aj,.cons #[d,rfl,dE s0 hd] (.cons #[e,rfl,dE s0 he] .nil),λx hx=>?_,by change 2<=10;decide,λH1 l S sm hl nd mem=>?_]
 .rcases Yq.mp hx with z|z
  .rw[z];show cm
  .rw[Yo.mp z];show cn
 have s1:=s0.trans sm;have rg:∀j∈S,0<=j/\j<63:=λj hj=>by
  rcases two.mp ((mem j).mp hj)with z|z
  .show cm.keys j z
  .show cn.keys j z
 have lS:=qR nd rg;show#[l,rfl,#[_,bZ.of hl],λD hD=>?_];show dg (K:=K) (a:=l) (xs:=S.map V.int) (λi σ H'=>∃v,A3 (σ=[Ya (.ref d),Ya (.ref e),v]) (aG H1 H') (H' D=Ya (.lst (((S.take i).map λj=>decide (ct n j<=ct m j)).map V.bl)))) #[Yb,rfl,aE hD,aj] ?_ ?_ ?_
 .rintro i σ H' _ ⟨_,_,q,_⟩;show bZ.of (q _ _ hl)
 .rintro i x σ H' hx ⟨v,rfl,q,hDx⟩;obtain⟨j,hj,rfl⟩:=ot hx;have hil:=(Yp.mp hj).1;have s2:=s1.trans q;show HQ #[_,rfl,_,rfl,d,m,j,rfl,dE s2 hd,_,rfl,_,rfl,e,n,j,rfl,dE s2 he,_,_,rfl,rfl,_,hDx,?_,Ya (.int j),rfl,λb o z=>?_,?_]
  .rw[Yj,Yj,CA];show aN (by omega)
  .rw[ak (au z hD)];show q b o z
  .rw[aj,bI hj,YD,YD];rfl
 rintro σ H' ⟨v,rfl,q,hDx⟩;rw[show S.take (S.map V.int).length=S by rw[Yj,Y6]]at hDx;show#[D,_,rfl,bZ.of hDx,?_];have ev:((S.map λj=>decide (ct n j<=ct m j)).all λb=>b)=cov m n:=by
  rw[agL,W9 cm cn,alv];constructor
  .intro h j;by_cases hj:j∈S
   .show of_decide_eq_true (h _ (xj (f:=λj=>decide (ct n j<=ct m j)) hj))
   .rw[xU (λz=>hj ((mem j).mpr (two.mpr (.inr z))))];show cm.ct j
  .intro h b hb;obtain⟨j,_,rfl⟩:=YX.mp hb;show decide_eq_true (h j)
 rw[ev];show k _ (s1.trans q)
variable(kL:mg "dict"=Yb)
include eV kL in
theorem JZ(F:bx K "unpacked" "unpacked" wV f fd):∅ 1 f fd RS (uu K):=by
 show F.oj KA ?_;rintro _ _ _ _ H _ Q _ _ _ _ _ ⟨a,xs,ps,rfl,h⟩;show#[_,(ai (aF (dh (Mx rfl) (by rfl) kL afc (aa (el ["hand","count"] [Yb,Yb] rfl rfl (by kernel_rfl) (Oi (K:=K) rfl (pv 0)) (λ_ _ _ _ _ nd=>IS (K:=K) (n:=2) rfl rfl (qK (bR (i:=0) nd rfl (Or.inl rfl)) (qK (bR (i:=1) nd rfl (Or.inl rfl)) HU))) (λ_ _ _ _ _=>(oz (aW aak (pv 1) ax (aP _)))) (λ_ _ _ _ _=>(cY (aa (pv 0) (aa (pv 1) ae))))) ae)))),?_];obtain⟨hS,hp,hlen,nd,k⟩:=h;have lx:=hp.len
 -- one turn
 have turn:∀(D:Yc) (_:H D=Yb) (i:Nat) (x:V) (σ:St) (H':Hp),xs[i]?=Ya x->(∃v v2 ys,σ=[v,v2]/\aG H H'/\H' D=Ya (.lst ys)/\ys.length<=i/\qP H' ys (iN (ps.take i)))->
   j8 (Xc K 2 (N9 (Gx 0) (N9 (Gx 1) acr))) (Sq (tOp (RV λi j=>.bl (decide (j<i))) (Rm 1) (tC (.int 0)))) (acS (Fs (Rm 0) (Fs (Rm 1) KZ))) D
    (λσ H'=>∃v v2 ys,σ=[v,v2]/\aG H H'/\H' D=Ya (.lst ys)/\ys.length<=i+ 1/\qP H' ys (iN (ps.take (i+ 1)))) x σ H':=by
  rintro D hD i x σ H' hx ⟨v,v2,ys,rfl,sm,hDx,ly,pr⟩;obtain⟨p,hpi,b,rfl,hb⟩:=hp.get hx;have hil:=(Yp.mp hpi).1;show#[b,_,rfl,c8.of (sm _ _ hb),rfl,_,_,rfl,_,_,rfl,rfl,_,rfl,_,_,rfl,rfl,_,rfl,fy (λh=>?_) λh=>?_]
  .have h':0<p.2:=of_decide_eq_true h;show#[_,rfl,_,rfl,by change 2<=Yu;decide,λq hq=>?_];have nDq:D≠q:=au hDx hq;show#[ys,by rw[ak nDq];show hDx,aN (by omega),Ya (.int p.1),Ya (.int p.2),_,rfl,λb o e=>?_,aj,by rw[Yz];show afX ly,?_]
   .rw[ak (au e hD),ak (au (sm b o e) hq)];show sm b o e
   .rw[bI hpi,XS h'];show qP.snoc (pr.mono λa ys e=>?_) #[q,rfl,?_]
    .rw[ak (cG e hDx (by intro z;cases z)),ak (au e hq)];show e
    .rw[ak (Ne.symm nDq),aj]
  .have h':¬ 0<p.2:=λz=>h (decide_eq_true z);show#[Ya (.int p.1),Ya (.int p.2),ys,rfl,sm,hDx,ahJ ly,?_];rw[bI hpi,abX h'];show pr
 have fin:∀(D:Yc) (_:H D=Yb) (σ:St) (H':Hp),(∃v v2 ys,σ=[v,v2]/\aG H H'/\H' D=Ya (.lst ys)/\ys.length<=xs.length/\qP H' ys (iN (ps.take xs.length)))->
   ∃(a:Yc) (ys:List V) (qs:List (Int×Int)),[V.ref D]=[.ref a]/\H' a=Ya (.lst ys)/\qP H' ys qs/\(qs.map (·.1)).Nodup/\qs.length<=1000/\∀p,H' p=Yb->Q (.ref p) (upd H' p (.dK (dI qs))):=by
  rintro D hD σ H' ⟨v,v2,ys,rfl,sm,hDx,ly,pr⟩;rw[lx,Y6]at pr;show#[D,ys,iN ps,rfl,hDx,pr,HH nd,oh (Wu ps) hlen,λp hp'=>?_];show k _ p (sm.trans (aE hp')) (sm.free hp') aj
 rcases hS with hS|hS
 .show#[_,rfl,a,rfl,.inl #[#[_,hS],λD hD=>?_]];show dg (K:=K) (a:=a) (xs:=xs) (λi σ H'=>∃v v2 ys,σ=[v,v2]/\aG H H'/\H' D=Ya (.lst ys)/\ys.length<=i/\qP H' ys (iN (ps.take i))) #[Yb,Yb,[],rfl,aE hD,aj,Ym _,.nil]
   (λi σ H' _ ⟨_,_,_,_,sm,_⟩=>sm.seq hS) (turn D hD) (fin D hD)
 .show#[_,rfl,a,rfl,.inr #[#[_,hS],λD hD=>?_]];show UD (K:=K) (a:=a) (xs:=xs) (λi σ H'=>∃v v2 ys,σ=[v,v2]/\aG H H'/\H' D=Ya (.lst ys)/\ys.length<=i/\qP H' ys (iN (ps.take i))) #[Yb,Yb,[],rfl,aE hD,aj,Ym _,.nil]
   (λi σ H' _ ⟨_,_,_,_,sm,_⟩=>TF sm hS) (turn D hD) (fin D hD)
variable{wX:Yc}{tR:Yr}(DM:∅ 1 wX tR RS (uu K))(jt:fH K mg "unpacked" wX tR RS)(PL:mg "max"=Yb)
include eV dy cu jN fZ DM jt PL in
theorem QD(F:bx K "joined" "joined" Ej f fd):∅ 2 f fd EA (AS K):=by
 show F.oj QN ?_;rintro _ _ _ _ _ _ _ _ hr _ _ _ ⟨d,e,m,n,rfl,h⟩;show#[_,(ai (aF (bg DM jt hr (aa (el ["one","other","hand"] [Ya 0,Ya 1,Yb] rfl rfl (by kernel_rfl) (cJ (K:=K) rfl (bg jN fZ hr (aa (bS (aa (pv 0) (aa (pv 1) ae))) ae))) (λ_ _ _ _ _ nd=>bR (i:=2) nd rfl (Or.inl rfl)) (λ_ _ _ _ _=>kY) (λ_ _ _ _ _=>(cY (aa (pv 2) (aa (bF (Ha rfl) (by rfl) PL aj9 (aa (bg dy cu hr (aa (pv 0) (aa (pv 2) ae))) (aa (bg dy cu hr (aa (pv 1) (aa (pv 2) ae))) ae))) ae))))) ae)))),?_];obtain⟨hd,he,cm,cn,k⟩:=h;show#[_,rfl,_,rfl,by change 2<=Yu;decide,λl0 hl0=>?_];have s0:=aE (o:=.lst [V.ref d,.ref e]) hl0;show#[l0,_,[m,n],rfl,bZ.of aj,.cons #[d,rfl,dE s0 hd] (.cons #[e,rfl,dE s0 he] .nil),λx hx=>?_,by change 2<=10;decide,λH1 l S sm hl nd mem=>?_]
 .rcases Yq.mp hx with z|z
  .rw[z];show cm
  .rw[Yo.mp z];show cn
 have s1:=s0.trans sm;have rg:∀j∈S,0<=j/\j<63:=λj hj=>by
  rcases two.mp ((mem j).mp hj)with z|z
  .show cm.keys j z
  .show cn.keys j z
 have lS:=qR nd rg;show#[l,rfl,#[_,bZ.of hl],λD hD=>?_];show dg (K:=K) (a:=l) (xs:=S.map V.int) (λi σ H'=>E2 λv ys=>A5 (σ=[Ya (.ref d),Ya (.ref e),v]) (aG H1 H') (H' D=Ya (.lst ys)) (ys.length<=i) (qP H' ys (UU (S.take i) λj=>if ct n j>ct m j then ct n j else ct m j))) #[Yb,[],rfl,aE hD,aj,Ym _,.nil] ?_ ?_ ?_
 .rintro i σ H' _ ⟨_,_,_,q,_⟩;show bZ.of (q _ _ hl)
 .rintro i x σ H' hx ⟨v,ys,rfl,q,hDx,ly,pr⟩;obtain⟨j,hj,rfl⟩:=ot hx;have hil:=(Yp.mp hj).1;have s2:=s1.trans q;show HQ #[_,rfl,_,rfl,_,rfl,d,m,j,rfl,dE s2 hd,_,rfl,_,rfl,e,n,j,rfl,dE s2 he,_,_,rfl,by change 2<=Yu;decide,λp hp=>?_];have nDp:D≠p:=au hDx hp;show#[ys,by rw[ak nDp];show hDx,aN (by omega),Ya (.int j),_,rfl,λb o z=>?_,aj,by rw[Yz];show afX ly,?_]
  .rw[ak (au z hD),ak (au (q b o z) hp)];show q b o z
  .rw[bI hj];change qP _ _ (alB _ (_++[j]));rw[YD];show qP.snoc (pr.mono λa ys z=>?_) #[p,rfl,?_]
   .rw[ak (cG z hDx (by intro z;cases z)),ak (au z hp)];show z
   .rw[ak (Ne.symm nDp),aj]
 rintro σ H' ⟨v,ys,rfl,q,hDx,ly,pr⟩;rw[show S.take (S.map V.int).length=S by rw[Yj,Y6]]at pr;show#[D,ys,_,rfl,.inl (bZ.of hDx),pr,?_,by rw[qt];show nd,λH2 p sm2 hp0 hp=>?_]
 .change(alB _ S).length<=1000;rw[Yj];omega
 show k _ p _ ((s1.trans q).trans sm2) ((s1.trans q).free hp0) hp (U5 nd rg) λj=>?_;have mx:Uu [m,n] j (if ct n j>ct m j then ct n j else ct m j):=by
  by_cases z:ct n j>ct m j
  .rw[if_pos z];show#[#[n,by simp,rfl],λx hx=>?_];rcases Yq.mp hx with y|y
   .rw[y];omega
   .rw[Yo.mp y];omega
  .rw[if_neg z];show#[#[m,by simp,rfl],λx hx=>?_];rcases Yq.mp hx with y|y
   .rw[y];omega
   .rw[Yo.mp y];omega
 by_cases hj:j∈S
 .rw[Us nd j hj (by have:=cm.ct j;have:=cn.ct j;split<;>omega)];show mx
 .have z1:ct m j=0:=xU λz=>hj ((mem j).mpr (two.mpr (.inl z)));have z2:ct n j=0:=xU λz=>hj ((mem j).mpr (two.mpr (.inr z)));rw[O6 hj];rw[z1,z2]at mx;show mx
include eV dy cu in
theorem Fj(F:bx K "covers_name" "covers_name" pF f fd):∅ 2 f fd RL (my K):=by
 show F.oj DA ?_;rintro _ _ _ _ _ _ _ _ hr _ _ _ ⟨d,a,rfl,h⟩;show#[_,(ai (aF (eT K2 (bg dy cu hr (aa (pv 0) (aa (fJ (dw (K:=K) rfl) (pv 1) ax (λ_ _=>rfl)) ae))) (fJ (dw (K:=K) rfl) (pv 1) ax (λ_ _=>rfl)) (aP _)))),?_];obtain⟨m,n,h,c,hd,ha,k⟩:=h;cbv;show#[d,m,h,rfl,hd,?_];cbv;show k
include eV in
theorem z8(F:bx K "__init__" "Call.__init__" kO f fd):∅ 1 f fd Fl (jv K):=by
 show F.oj An ?_;rintro _ _ _ _ _ _ _ _ _ _ _ _ ⟨p,n,c,k,w,cs,rfl,h⟩;show#[_,(af (aR (K:=K) rfl (pv 0) (pv 1) rfl)
   (af (aR (K:=K) rfl (pv 0) (pv 2) rfl)
   (af (aR (K:=K) rfl (pv 0) (pv 3) rfl)
   (af (aR (K:=K) rfl (pv 0) (pv 4) rfl)
   (ai (aR (K:=K) rfl (pv 0) (pv 5) rfl)))))),?_]
 show xl5 ?_;intro _ _ _;obtain⟨C,dx,⟨cl,n1,n2,n3,n4,n5⟩,hp,q⟩:=h;cbv;intro H1 b1 g1;cbv;intro H2 b2 g2;cbv;intro H3 b3 g3;cbv;intro H4 b4 g4;cbv;intro H5 b5 g5;rw[Xg]at g5;show q _ (λb h=>(b5 b h).trans ((b4 b h).trans ((b3 b h).trans ((b2 b h).trans (b1 b h))))) g5
variable{fU:Yc}{uk:Yc}{jo:Yr}(sD:∅ 1 fU jo Fl (jv K))(fM:Binds K jo Fl [])(Ih:kT K uk)(HK:mg "Call"=Ya (.ref uk))(eZ:UB K uk "__init__" fU)
include eV sD fM Ih HK eZ in
theorem vi(F:bx K "__init__" "OwnCall.__init__" iE f fd):∅ 2 f fd Fl (kU K):=by
 show F.oj vj ?_;rintro _ _ _ _ _ _ _ _ hr _ _ _ ⟨p,n,c,k,w,cs,rfl,h⟩;show#[_,(ai (bV (Uz rfl HK eZ sD fM hr (aa (pv 0) (aa (pv 1) (aa (pv 2) (aa (pv 3) (aa (pv 4) (aa (cY ae) ae))))))))),?_];obtain⟨C,dx,T,hp,q⟩:=h;cbv;intro t H1 ht s1 g1;cbv;show#[p,n,c,k,w,_,rfl,C,dx,T,s1 _ _ hp,λH2 b2 g2=>?_];cbv;show q _ t (λb o e hb=>b2.at hb (s1 _ _ e)) (b2.of (s1 _ _ hp) g1 (by intro z;cases z)) g2
variable(S8:mg "bool"=Yb)(X6:mg "int"=Yb)(br:mg "isinstance"=Yb)
include eV S8 X6 br in
theorem Lq(F:bx K "is_whole" "is_whole" xX f fd):∅ 1 f fd qp (Bs K):=by
 show F.oj LS ?_;rintro _ _ _ _ _ _ _ _ _ _ _ _ ⟨w,rfl,h⟩;show#[_,(ai (aF (iJ (bF (lJ (K:=K) rfl) (by rfl) br YW (aa (pv 0) (aa (ou X6 ang) ae))) (kE (U7 (bF (lJ (K:=K) rfl) (by rfl) br YW (aa (pv 0) (aa (ou S8 am5) ae)))))))),?_];cbv;show#[_,_,_,true,rfl,.int _,(by kernel_rfl),?_];cbv;show#[_,_,_,false,rfl,.int _,(by kernel_rfl),?_];cbv;show h
variable{EF:Yc}{Bt:Yr}(jK:∅ 1 EF Bt qp (Bs K))(jE:fH K mg "is_whole" EF Bt qp)(aaN:mg "abs"=Yb)
include eV jK jE aaN in
theorem MN(F:bx K "is_word" "is_word" AK f fd):∅ 2 f fd ["word"] (Fd K):=by
 show F.oj MW ?_;rintro _ _ _ _ _ _ _ _ hr _ _ _ ⟨w,rfl,h⟩;show#[_,(ai (aF (iJ (bg jK jE hr (aa (pv 0) ae)) (kE (eT GS (bF SA (by rfl) aaN anh (aa (pv 0) ae)) (bw Ja ax ax) (aP _)))))),?_];cbv;show#[w,rfl,?_];cbv;show#[_,rfl,?_];cbv;show h
variable{mi:Yc}{G2:Yc}{bj:Yc}{bJ:Yc}{bK:Yc}{kQ:Yr}{DL:Yr}{KJ:V}{Kw:Yd}(iG:∅ 2 fU jo Fl (jv K))(mS:∅ 2 mi kQ Fl (kU K))(mW:Binds K kQ Fl [])(He:∅ 3 G2 DL ["word"] (Fd K))(GU:fH K mg "is_word" G2 DL ["word"])(av:kT K bj)(aB:kT K bJ)(aC:kT K bK)(az:mg "HeardCall"=Ya (.ref bj))(aD:mg "OneCall"=Ya (.ref bJ))(aH:mg "OwnCall"=Ya (.ref bK))(j7:Mk K bj fU)(qe:Mk K bJ fU)(qf:Mk K bK mi)(yP:mg "KINDS"=Ya Kw)(zF:RelV KJ Kw)(zd:JU K KJ)
include eV iG fM mS mW He GU av aB aC az aD aH j7 qe qf yP zF zd in
theorem Jd(F:bx K "make_call" "make_call" uF f fd):∅ 4 f fd SV (yH K mg):=by
 show F.oj IL ?_;rintro _ _ _ _ H _ _ _ hr hu64 _ _ ⟨n,c,k,kd,w,t,rfl,h⟩;show#[_,(af (cW (aW (XC (K:=K) rfl hu64) (pv 3) (jT rfl yP zF) (by rfl)) (ai cS) bC)
   (af (cW (oW (cK K rfl (bg He GU hr (aa (pv 4) ae)))) (ai cS) bC)
   (af (cW (aW tJ (pv 3) eW (aP _)) (ai (aF (iA qf mS hr rfl aH mW .nil rJ (aa (pv 0) (aa (pv 1) (aa (pv 2) (aa (pv 4) (aa (pv 5) ae)))))))) bC)
   (af (cW (aW tJ (pv 3) eW (aP _)) (ai (aF (iA j7 iG hr rfl az fM .nil rJ (aa (pv 0) (aa (pv 1) (aa (pv 2) (aa (pv 4) (aa (pv 5) ae)))))))) bC)
   (ai (aF (iA qe iG hr rfl aD fM .nil rJ (aa (pv 0) (aa (pv 1) (aa (pv 2) (aa (pv 4) (aa (pv 5) ae)))))))))))),?_]
 show xl5 ?_;intro _ _ _;obtain⟨xs,hkd,hw,ht,q⟩:=h;obtain⟨aK,rfl,hK⟩:=zd;have hKH:=hK H;cbv;show Xl hkd hKH ?_;cbv;show#[w,rfl,?_];cbv;rw[decide_eq_true hw];cbv;rcases hkd with rfl|rfl|rfl
 .rw[aef];cbv;intro p dx H1 hp s1 g1;show#[p,_,_,_,_,_,rfl,_,dx,aC,g1,λH2 t' k2 g2 g3=>#[rfl,?_]];show q _ p _ dx t' (λb o e=>k2 _ _ (s1 _ _ e) (au e hp)) hp (.inl #[rfl,aH]) aC g3 ?_;rw[if_pos rfl];show g2
 .rw[adQ];cbv;rw[aep];cbv;intro p dx H1 hp s1 g1;show#[p,_,_,_,_,_,rfl,_,dx,av,g1,λH2 b2 g2=>#[rfl,?_]];have s2:aG H H2:=λb o e=>b2.at (au e hp) (s1 _ _ e);show q _ p _ dx t s2 hp (.inr (.inl #[rfl,az])) av g2 ?_;rw[if_neg (by decide +kernel)];show s2 _ _ ht
 .rw[aeU];cbv;rw[aeQ];cbv;intro p dx H1 hp s1 g1;show#[p,_,_,_,_,_,rfl,_,dx,aB,g1,λH2 b2 g2=>#[rfl,?_]];have s2:aG H H2:=λb o e=>b2.at (au e hp) (s1 _ _ e);show q _ p _ dx t s2 hp (.inr (.inr #[rfl,aD])) aB g2 ?_;rw[if_neg (by decide +kernel)];show s2 _ _ ht
include eV dy cu in
theorem BN(F:bx K "in_turn" "Call.in_turn" lU f fd):∅ 2 f fd xS (kM K):=by
 show F.oj BS ?_;rintro _ _ _ _ _ _ _ _ hr _ _ _ ⟨p,d,rfl,h⟩;show#[_,(ai (aF (eT tJ (bg dy cu hr (aa (pv 1) (aa (ao (K:=K) rfl (pv 0) rfl) ae))) (bw NF (ao (K:=K) rfl (pv 0) rfl) ax) (aP _)))),?_];obtain⟨C,dx,m,n,c,k,w,cs,⟨cl,n1,n2,n3,n4,n5⟩,hp,hd,q⟩:=h;cbv;show#[d,m,c,rfl,hd,?_];cbv;show q
variable{i7:Yc}{rP:Yr}(gJ:∅ 2 i7 rP xS (kM K))(gF:Binds K rP xS [])(dR:aX K bK "in_turn" i7)
include eV gJ gF aC aH dR in
theorem Ii(F:bx K "free" "Call.free" tU f fd):∅ 3 f fd xS (yu K mg):=by
 show F.oj Ir ?_;rintro _ _ _ _ _ _ _ _ hr _ _ _ ⟨p,d,rfl,h⟩;show#[_,(ai (aF (eJ (cC.cons aC.cl dR gJ gF cC.nil) (pv 0) hr (aa (pv 1) ae)))),?_];obtain⟨C,dx,m,n,c,k,w,cs,e,hp,hd,q⟩:=h;rw[aH]at e;cases e;cbv;show#[p,d,rfl,_,dx,m,n,c,k,w,cs,aC,hp,hd,q]
variable{Ka:Yc}{Hk:Yr}(Lg:∅ 2 Ka Hk EA (Ao K))(K8:fH K mg "covers" Ka Hk EA)(jL:∅ 2 wX tR RS (uu K))(cX:aX K bj "in_turn" i7)(dX:aX K bJ "in_turn" i7)
include eV Lg K8 jL jt gJ gF av aB az aD cX dX in
theorem yj(F:bx K "free" "HeardCall.free" jq f fd):∅ 3 f fd xS (oK K mg):=by
 show F.oj yT ?_;rintro _ _ _ _ H _ _ _ hr _ _ _ ⟨p,d,rfl,h⟩;show#[_,(ai (aF (iJ (eJ (cC.cons av.cl cX gJ gF (cC.cons aB.cl dX gJ gF cC.nil)) (pv 0) hr (aa (pv 1) ae)) (kE (bg Lg K8 hr (aa (pv 1) (aa (bg jL jt hr (aa (ao (K:=K) rfl (pv 0) rfl) ae)) ae))))))),?_];obtain⟨C,dx,m,n,c,k,w,t,xs,ps,e,hp,hd,ht,hx,cm,cp,q⟩:=h;have T:kT K C:=by
  rcases e with e|e
  .rw[az]at e;cases e;show av
  .rw[aD]at e;cases e;show aB
 have go:∀{Q':VK},(Q' (.bl (decide (ct m c=k-1))) H)->kM K [.ref p,.ref d] H Q' E0:=λz=>#[p,d,rfl,_,dx,m,n,c,k,w,_,T,hp,hd,z];obtain⟨cl,n1,n2,n3,n4,n5⟩:=id T;have tail:∀{Q':VK},(∀H',aG H H'->Q' (.bl (cov m (iN ps))) H')->∀e H1,aG H H1->H1 e=Ya (.dK (dI (iN ps)))->Ao K [.ref d,.ref e] H1 Q' E0:=λz e H1 s1 g1=>#[d,e,m,iN ps,rfl,dE s1 hd,.inl g1,cm,abV cp,λH2 s2=>z _ (s1.trans s2)];rcases e with e|e
 .rw[az]at e;cases e;cbv;show go ?_;cbv;show fy (λh1=>?_) λh1=>?_
  .cbv;show#[t,xs,ps,rfl,.inr (c8.of ht),hx,by have:=cp.len;omega,cp.nd,λH1 e1 s1 he1 g1=>?_];cbv;show tail (λH2 s2=>?_) _ _ s1 g1;have:=q _ s2;rw[h1,aiM]at this;show this
  .have h1:=aeu.mpr h1;have:=q _ (aG.refl H);rw[h1,agr]at this;show this
 .rw[aD]at e;cases e;cbv;show go ?_;cbv;show fy (λh1=>?_) λh1=>?_
  .cbv;show#[t,xs,ps,rfl,.inr (c8.of ht),hx,by have:=cp.len;omega,cp.nd,λH1 e1 s1 he1 g1=>?_];cbv;show tail (λH2 s2=>?_) _ _ s1 g1;have:=q _ s2;rw[h1,aiM]at this;show this
  .have h1:=aeu.mpr h1;have:=q _ (aG.refl H);rw[h1,agr]at this;show this
variable{pM:Yc}{md:Yr}(jO:∅ 2 pM md RL (my K))(fX:fH K mg "covers_name" pM md RL)(nA:mg "len"=Yb)
include eV jO fX nA in
theorem FA(F:bx K "first_open" "first_open" qX f fd):∅ 3 f fd Rz (pP K):=by
 show F.oj oX ?_;rintro _ _ _ _ H _ _ _ hr _ _ _ ⟨a,d,i,rfl,h⟩;show#[_,(af (bh (i:=3) oX.nd rfl (Or.inl rfl) (pv 2))
   (af (Ez BP (PW.pt (MJ (aW GS (pv 3) (bF (lK (K:=K) rfl) (by rfl) nA ags (aa (pv 0) ae)) (aP _)) (IJ (cK K rfl (bg jO fX hr (aa (pv 1) (aa (fJ (OW (K:=K) rfl) (pv 0) (pv 3) (λ_ _=>rfl)) ae)))))))
   (ai (bh (i:=3) oX.nd rfl (Or.inl rfl) (bw iV (pv 3) ax))))
   (ai (aF (pv 3))))),?_]
 show xl3 ?_;intro _;obtain⟨xs,m,ns,hS,hd,hn,hi,hc0,k⟩:=h;cbv;have hl:=hn.len;let jJ1:Nat->St->Hp->Prop:=λM σ H'=>∃j:Nat,M=ns.length-j/\j<=ns.length/\σ=[Ya (.ref a),Ya (.ref d),Ya (.int i),Ya (.int j)]/\H'=H/\(∀k (hk:k<ns.length),k<j->JF m ns[k]);show#[jJ1,#[_,i,rfl,hi,rfl,rfl,hc0],?_];rintro M σ H' ⟨j,rfl,hj,rfl,rfl,hc⟩;cbv;show fy (λh1=>?_) λh1=>?_
 .have h1:(j:Int)<(xs.length:Nat):=of_decide_eq_true h1;have hj2:j<ns.length:=by omega
  obtain⟨x,hx,b,rfl,hb⟩:=hn.at hj2;have hat:Fx xs (j:Int)=Ya (.ref b):=m6 hx;cbv;show#[d,b,rfl,m,_,_,_,hd,c8.of hb,?_];cbv;show fy (λh2=>?_) λh2=>?_
  .have h2:JF m ns[j]:=of_decide_eq_true h2;show#[_,λ_ _ z=>z,?_];cbv;show#[ns.length-(j+ 1),by omega,j+ 1,rfl,hj2,rfl,rfl,λk hk h=>?_];rcases agZ k j with z|z
   .show hc k hk z
   .obtain rfl:k=j:=by omega
    show h2
  .have h2:¬ JF m ns[j]:=λz=>h2 (decide_eq_true z);cbv;show k j hj hc λ_=>h2
 .have h1:¬ (j:Int)<(xs.length:Nat):=λz=>h1 (decide_eq_true z);cbv;show k j hj hc λz=>absurd z (by omega)
include eV nA in
theorem Nl(F:bx K "name_at" "name_at" AO f fd):∅ 1 f fd JB (xO K):=by
 show F.oj MY ?_;rintro _ _ _ _ _ _ _ _ _ _ _ _ ⟨a,i,rfl,h⟩;show#[_,(ai (aF (j6 (aW GS (pv 1) (bF (lK (K:=K) rfl) (by rfl) nA ags (aa (pv 0) ae)) (aP _)) (fJ (OW (K:=K) rfl) (pv 0) (pv 1) (λ_ _=>rfl)) cE))),?_];obtain⟨xs,hS,hi,k1,k2⟩:=h;cbv;show fy (λh1=>?_) λh1=>?_
 .have h1:i<(xs.length:Nat):=of_decide_eq_true h1;have hx:i.toNat<xs.length:=by omega
  have hat:Fx xs i=Ya xs[i.toNat]:=Ox hi (Yw hx);cbv;show k1 _ (Yw hx)
 .have h1:¬ i<(xs.length:Nat):=λz=>h1 (decide_eq_true z);cbv;show k2 (by omega)
include eV in
theorem HD(F:bx K "name" "Call.name" t8 f fd):∅ 1 f fd ay (lj K):=by
 show F.oj IC ?_;rintro _ _ _ _ _ _ _ _ _ _ _ _ ⟨p,rfl,h⟩;show#[_,(ai (aF (cY (aa (ao (K:=K) rfl (pv 0) rfl) (aa (ao (K:=K) rfl (pv 0) rfl) (aa (ao (K:=K) rfl (pv 0) rfl) ae)))))),?_];obtain⟨C,dx,n,c,k,w,cs,⟨cl,n1,n2,n3,n4,n5⟩,hp,q⟩:=h;cbv;intro t H1 ht s1 g1;show q H1 t s1 ht g1
include eV in
theorem HZ(F:bx K "rank" "Call.rank" uA f fd):∅ 1 f fd ay (yO K):=by
 show F.oj Ia ?_;rintro _ _ _ _ _ _ _ _ _ _ _ _ ⟨p,rfl,h⟩;show#[_,(ai (aF (cY (aa (ao (K:=K) rfl (pv 0) rfl) (aa (ao (K:=K) rfl (pv 0) rfl) ae))))),?_];obtain⟨C,dx,n,c,k,w,cs,⟨cl,n1,n2,n3,n4,n5⟩,hp,q⟩:=h;cbv;intro t H1 ht s1 g1;show q H1 t s1 ht g1
include eV in
theorem wL(F:bx K "asks_place" "Call.asks_place" iQ f fd):∅ 1 f fd ay (iF K):=by
 show F.oj xJ ?_;rintro _ _ _ _ _ _ _ _ _ _ _ _ ⟨p,rfl,h⟩;show#[_,(ai (aF dB)),?_];cbv;show h
include eV in
theorem sH(F:bx K "asks_place" "OneCall.asks_place" gN f fd):∅ 1 f fd ay (f6 K):=by
 show F.oj sG ?_;rintro _ _ _ _ _ _ _ _ _ _ _ _ ⟨p,rfl,h⟩;show#[_,(ai (aF dB)),?_];cbv;show h
variable{oQ:Yc}{x9:Yr}(m8:∅ 1 oQ x9 ay (yO K))(m7:Binds K x9 ay [])(eu:aX K bj "rank" oQ)(fP:aX K bJ "rank" oQ)(fS:aX K bK "rank" oQ)
include eV m8 m7 av aB aC az aD aH eu fP fS in
theorem MA(F:bx K "rank_of" "rank_of" AF f fd):∅ 2 f fd uS (xV K mg):=by
 show F.oj M3 ?_;rintro _ _ _ _ _ _ _ _ hr _ _ _ ⟨v,rfl,h⟩;show#[_,(ai (aF (aQ (cC.cons aC.cl fS m8 m7 (cC.cons av.cl eu m8 m7 (cC.cons aB.cl fP m8 m7 cC.nil))) (pv 0) hr))),?_];obtain⟨x,⟨p,C,dx,t,xs,rfl,hk,hT,hp,ht,hx,hc⟩,kk⟩:=h;rcases hk with⟨_,e⟩|⟨_,e⟩|⟨_,e⟩
 .rw[aH]at e;cases e;cbv;show#[p,rfl,_,dx,_,_,_,_,_,hT,hp,kk]
 .rw[az]at e;cases e;cbv;show#[p,rfl,_,dx,_,_,_,_,_,hT,hp,kk]
 .rw[aD]at e;cases e;cbv;show#[p,rfl,_,dx,_,_,_,_,_,hT,hp,kk]
variable{Bu:Yc}{jy:Yc}{iL:Yc}{gw:Yc}{gQ:Yc}{zG:Yr}{nY:Yr}{lE:Yr}{iC:Yr}{f7:Yr}(oH:∅ 3 Bu zG xS (yu K mg))(og:Binds K zG xS [])(dJ:∅ 3 jy nY xS (oK K mg))(dM:Binds K nY xS [])(nr:∅ 3 iL lE ay (lj K))(cM:Binds K lE ay [])(dj:∅ 3 gw iC ay (iF K))(bT:Binds K iC ay [])(d8:∅ 3 gQ f7 ay (f6 K))(cL:Binds K f7 ay [])(aT:aX K bj "asks_place" gw)(cz:aX K bj "free" jy)(bE:aX K bj "name" iL)(bf:aX K bJ "asks_place" gQ)(cP:aX K bJ "free" jy)(bP:aX K bJ "name" iL)(bc:aX K bK "asks_place" gw)(cQ:aX K bK "free" Bu)(bN:aX K bK "name" iL)
include eV oH og dJ dM nr cM dj bT d8 cL av aB aC az aD aH aT cz bE bf cP bP bc cQ bN in
theorem BZ(F:bx K "can_be_taken" "can_be_taken" mO f fd):∅ 4 f fd Ll (rW K mg):=by
 show F.oj Ca ?_;rintro _ _ _ _ H _ _ _ hr hu64 _ _ ⟨v,d,y,rfl,h⟩;show#[_,(ai (aF (iJ (eJ (cC.cons aC.cl cQ oH og (cC.cons av.cl cz dJ dM (cC.cons aB.cl cP dJ dM cC.nil))) (pv 0) hr (aa (pv 1) ae)) (kE (aeF (U7 (aQ (cC.cons aC.cl bc dj bT (cC.cons av.cl aT dj bT (cC.cons aB.cl bf d8 cL cC.nil))) (pv 0) hr)) (kE (eT (acf (K:=K) rfl hu64) (aQ (cC.cons aC.cl bN nr cM (cC.cons av.cl bE nr cM (cC.cons aB.cl bP nr cM cC.nil))) (pv 0) hr) (pv 2) (aP _)))))))),?_];obtain⟨x,m,o,⟨p,C,dx,t,xs,rfl,hk,hT,hp,ht,hx,hc⟩,hd,cm,hy,kk⟩:=h;obtain⟨kd,n,c,k,w,cs⟩:=x;have hk:KdC mg kd C:=hk;have hp:H p=Ya (.ins C dx (z5 (.int n) (.int c) (.int k) (.int w) (.ref t))):=hp;have hx:qP H xs cs:=hx;have hc:Ck cs:=hc;rcases hk with⟨rfl,e⟩|⟨rfl,e⟩|⟨rfl,e⟩
 .have ev:Jt m #["own",n,c,k,w,cs] o=decide (ct m c=k-1):=by
   unfold Jt Xq;rw[aeH,aaa];simp
  rw[ev]at kk;rw[aH]at e;cases e;cbv;show#[p,d,rfl,_,dx,m,_,c,k,_,_,aH,hp,hd,?_];cbv;show fy (λh1=>?_) λh1=>?_
  .cbv;show#[p,rfl,?_];cbv;have:=kk H (.refl _);rw[h1]at this;show this
  .have h1:=aeu.mpr h1;have:=kk H (.refl _);rw[h1]at this;show this
 .have ev:Jt m #["heard",n,c,k,w,cs] o=(decide (ct m c=k-1)&&cov m (iN cs)):=by
   unfold Jt Xq;rw[adu,aai];simp
  rw[ev]at kk;rw[az]at e;cases e;cbv;show#[p,d,rfl,_,dx,m,_,c,k,_,t,xs,cs,.inl az,hp,hd,ht,hx,cm,hc,λH1 s1=>?_];have hp1:=s1 _ _ hp;cbv;show fy (λh1=>?_) λh1=>?_
  .cbv;show#[p,rfl,?_];cbv;have:=kk H1 s1;rw[h1]at this;show this
  .have h1:=aeu.mpr h1;have:=kk H1 s1;rw[h1]at this;show this
 .have ev:Jt m #["one",n,c,k,w,cs] o=((decide (ct m c=k-1)&&cov m (iN cs))&&decide (o=Ya (n,c,k))):=by
   unfold Jt Xq;rw[VD,aaH];simp
  rw[ev]at kk;rw[aD]at e;cases e;cbv;show#[p,d,rfl,_,dx,m,_,c,k,_,t,xs,cs,.inr aD,hp,hd,ht,hx,cm,hc,λH1 s1=>?_];have hp1:=s1 _ _ hp;cbv;show fy (λh1=>?_) λh1=>?_
  .cbv;show#[p,rfl,?_];cbv;show#[p,rfl,_,dx,_,_,_,_,_,hT,hp1,λH2 u s2 hu2 g2=>?_];cbv;show#[Sv (n,c,k),naD o,.inl (BM.dp #[u,rfl,g2]),ad9 (hy.up (.same (s1.trans s2))),UJ _,ada _,by have:=aa5 o;omega,?_];rw[aej];have:=kk H2 (s1.trans s2);rw[h1,aiM]at this;show this
  .have h1:=aeu.mpr h1;have:=kk H1 s1;rw[h1,agr]at this;show this
variable{uK:Yc}{sd:Yr}(jX:∅ 4 xR uR Rl (uo K))(tD:∅ 4 uK sd Ll (rW K mg))(uv:fH K mg "can_be_taken" uK sd Ll)
include eV jX cu tD uv av aB aC az aD aH in
theorem Ah(F:bx K "first_to_take" "first_to_take" kN f fd):∅ 5 f fd Mj (qj K mg):=by
 show F.oj jG ?_;rintro _ A _ _ H _ _ _ hr _ _ hu ⟨a,D,d,y,rfl,h⟩;show#[_,(af (pO BP rfl (cJ (K:=K) rfl (pv 0)) (bR (i:=4) jG.nd rfl (Or.inl rfl))
   (af (bh (i:=5) jG.nd rfl (Or.inl rfl) (TX hu (pv 1) (cY (aa (pv 4) (aa (bw iV (bg jX cu hr (aa (pv 2) (aa (pv 4) ae))) ax) ae))) #[rfl,rfl,rfl,rfl]))
   (ai (cW (PW.pt (MJ (aW jY (pv 5) cE (aP _)) (IJ (cK K rfl (bg tD uv hr (aa (pv 5) (aa (pv 2) (aa (pv 3) ae)))))))) (ai (aF (pv 5))) bC))))
   (ai (aF cE))),?_]
 obtain⟨hs,L,m,o,hS,R,hd,cm,hy,kk⟩:=h;show eQ ?_;cbv;let jJ2:Nat->St->Hp->Prop:=λi σ A=>E2 λv4 v5=>A3 (σ=[Ya (.ref a),Ya (.ref D),Ya (.ref d),Ya y,v4,v5]) (aG H A) ((hs.take i).findSome? (Js L m o)=Yb);show j0 (xs:=hs.map V.int) jJ2 #[Yb,Yb,rfl,.refl _,rfl] (λi σ A _ z=>by obtain⟨_,_,_,z,_⟩:=z;show z.seq hS) ?_ ?_
 .rintro i x σ A hx ⟨v4,v5,rfl,sA,hn⟩;obtain⟨h,hh,rfl⟩:=ot hx;have RA:=R.same sA;have hdA:=dE sA hd;obtain⟨⟨kvs,gD,gv⟩,gc⟩:=id RA;have ff:fst hs L m o=((Js L m o h).or ((hs.drop (i+ 1)).findSome? (Js L m o))):=by
   unfold fst;have hi:=(Yp.mp hh).1;have e:hs=hs.take i++(h::hs.drop (i+ 1)):=by
    conv=>lhs;rw[←List.take_append_drop i hs,List.drop_eq_getElem_cons hi,(Yp.mp hh).2]
   conv=>lhs;rw[e,ah0,hn,ahB,aim]
   cases Js L m o h<;>rfl
  show eQ ?_;cbv;show XF ?_;cbv;show#[D,rfl,.inr #[kvs,.inl gD],?_];cbv;show#[d,m,h,rfl,hdA,?_];cbv;intro t Aq1 ht s1 g1;have gD1:=s1 _ _ gD;show#[_,ud.t (k:=[YG h,YG (ct m h+ 1)]) gD1 g1,?_];rw[gv];cases z:L h (ct m h+ 1)with
  |none=>
   have tn:Js L m o h=none:=by unfold Js;rw[z];rfl
   rw[Option.map_none,aje];cbv;rw[show decide (V.non=V.non)=true from decide_eq_true rfl];cbv;show#[_,_,rfl,sA.trans s1,?_];rw[bI hh,ah0,hn,ahB,aim,tn];rfl
  |some q=>
   obtain⟨v,x⟩:=q;have cx:=(gc _ _ _ _ z).1;obtain⟨p,C,dx,t',xs',ev,_⟩:=id cx;have cx1:=cx.up (.same s1);subst ev;rw[age,alp];cbv;rw[show decide (V.ref p=V.non)=false from decide_eq_false (by intro z;cases z)];cbv;show#[.ref p,d,y,rfl,x,m,o,cx1,dE s1 hdA,cm,hy.up (.same (sA.trans s1)),λAq2 s2=>?_];cbv;show fy (λh2=>?_) λh2=>?_
   .have ts:Js L m o h=Ya (.ref p,x):=by unfold Js;rw[z];change(if Jt m x o=true then _ else _)=_;rw[if_pos h2]
    cbv;have:=kk Aq2 (sA.trans (s1.trans s2));rw[ff,ts]at this;show this
   .have tn:Js L m o h=none:=by unfold Js;rw[z];change(if Jt m x o=true then _ else _)=_;rw[if_neg h2]
    show#[_,_,rfl,sA.trans (s1.trans s2),?_];rw[bI hh,ah0,hn,ahB,aim,tn];rfl
 rintro σ A ⟨v4,v5,rfl,sA,hn⟩;rw[show hs.take (hs.map V.int).length=hs by rw[Yj,Y6]]at hn;cbv;have:=kk A sA;unfold fst at this;rw[hn]at this;show this
include eV in
theorem Cr(F:bx K "callers_from" "callers_from" mj f fd):∅ 1 f fd KH (rG K):=by
 show F.oj BX ?_;rintro _ A _ _ H _ _ _ _ _ _ _ ⟨a,l,rfl,h⟩;show#[_,(ai (aF (bw MZ (el ["last","caller"] [Ya 1,Yb] rfl rfl (by kernel_rfl) (cJ (K:=K) rfl (pv 0)) (λ_ _ _ _ _ nd=>bR (i:=1) nd rfl (Or.inl rfl)) (λ_ _ _ _ _=>(oz (aW K2 (pv 1) (pv 0) (aP _)))) (λ_ _ _ _ _=>(pv 1))) (el ["last","caller"] [Ya 1,Yb] rfl rfl (by kernel_rfl) (cJ (K:=K) rfl (pv 0)) (λ_ _ _ _ _ nd=>bR (i:=1) nd rfl (Or.inl rfl)) (λ_ _ _ _ _=>(oz (aW GS (pv 1) (pv 0) (aP _)))) (λ_ _ _ _ _=>(pv 1)))))),?_];obtain⟨hs,hS,lh,kk⟩:=h;cbv;intro D hD;show dg (K:=K) (a:=a) (xs:=hs.map V.int) (λi σ A=>∃v,A3 (σ=[Ya (.int l),v]) (aG H A) (A D=Ya (.lst (((hs.take i).filter λh=>decide (l<=h)).map V.int)))) #[Yb,rfl,aE hD,aj] ?_ ?_ ?_
 .rintro i σ A _ ⟨_,_,z,_⟩;show z.seq hS
 .rintro i x σ A hx ⟨v,rfl,sA,gA⟩;obtain⟨h,hh,rfl⟩:=ot hx;have hi:=(Yp.mp hh).1;have lf:=km (λh=>decide (l<=h)) (hs.take i);have lt:=agD i hs;cbv;show fy (λh1=>?_) λh1=>?_
  .cbv;show#[_,gA,by rw[Yj];show aN (by omega),_,rfl,λb o z=>?_,?_]
   .rw[ak (au z hD)];show sA b o z
   .rw[aj,bI hh,gf,YD];congr 2;simp at h1;simp[h1]
  .show#[_,rfl,sA,?_];rw[gA,bI hh,gf,YD];congr 1;simp at h1;simp[h1]
 rintro σ A ⟨v,rfl,sA,gA⟩;rw[show hs.take (hs.map V.int).length=hs by rw[Yj,Y6]]at gA;have hS1:=sA.seq hS;cbv;intro D2 hD2;show dg (K:=K) (a:=a) (xs:=hs.map V.int) (λi σ B=>∃v,A3 (σ=[Ya (.int l),v]) (aG A B) (B D2=Ya (.lst (((hs.take i).filter λh=>decide (h<l)).map V.int)))) #[Yb,rfl,aE hD2,aj] ?_ ?_ ?_
 .rintro i σ B _ ⟨_,_,z,_⟩;show z.seq hS1
 .rintro i x σ B hx ⟨v,rfl,sB,gB⟩;obtain⟨h,hh,rfl⟩:=ot hx;have hi:=(Yp.mp hh).1;have lf:=km (λh=>decide (h<l)) (hs.take i);have lt:=agD i hs;cbv;show fy (λh1=>?_) λh1=>?_
  .cbv;show#[_,gB,by rw[Yj];show aN (by omega),_,rfl,λb o z=>?_,?_]
   .rw[ak (au z hD2)];show sB b o z
   .rw[aj,bI hh,gf,YD];congr 2;simp at h1;simp[h1]
  .show#[_,rfl,sB,?_];rw[gB,bI hh,gf,YD];congr 1;simp at h1;simp[h1]
 rintro σ B ⟨v,rfl,sB,gB⟩;rw[show hs.take (hs.map V.int).length=hs by rw[Yj,Y6]]at gB;have l1:=km (λh=>decide (l<=h)) hs;have l2:=km (λh=>decide (h<l)) hs;show UO (sB _ _ gA) gB (by rw[Yj,Yj];omega) λq B1 hq s1 g1=>?_;rw[←YD]at g1;show kk B1 q (sA.trans (sB.trans s1)) ((sA.trans sB).free hq) g1
variable{DY:Yc}{qQ:Yc}{G4:Yc}{Am:Yc}{sj:Yc}{uh:Yc}{As:Yr}{ph:Yr}{DJ:Yr}{wZ:Yr}{pX:Yr}{rM:Yr}(K3:∅ 5 DY As EA (AS K))(zj:fH K mg "joined" DY As EA)(q9:∅ 5 qQ ph Rz (pP K))(iW:fH K mg "first_open" qQ ph Rz)(Ap:∅ 5 G4 DJ JB (xO K))(Ai:fH K mg "name_at" G4 DJ JB)(Gv:∅ 5 Am wZ uS (xV K mg))(iK:fH K mg "rank_of" Am wZ uS)(kD:∅ 5 sj pX Mj (qj K mg))(kC:fH K mg "first_to_take" sj pX Mj)(sU:∅ 5 uh rM KH (rG K))(sO:fH K mg "callers_from" uh rM KH)
include eV K3 zj q9 iW Ap Ai Gv iK kD kC sU sO kL Oh ke av aB aC az aD aH in
theorem acn(F:bx K "run" "run" Vo f fd):∅ 6 f fd ug (Ng K mg):=by
 show F.oj rf ?_;rintro _ A _ _ H _ _ E hr hu64 _ hu ⟨d,a,b,rfl,h⟩;show#[_,(af (bh (i:=3) rf.nd rfl (Or.inl rfl) (bg K3 zj hr (aa (pv 0) (aa mT ae))))
   (af (bh (i:=4) rf.nd rfl (Or.inl rfl) (dh (AY rfl (af8 (ahg (by decide) _) hu64)) (by rfl) kL afc (aa (el ["call"] [Yb] rfl rfl (by kernel_rfl) (cJ (K:=K) rfl (pv 1)) (λ_ _ _ _ _ nd=>bR (i:=0) nd rfl (Or.inl rfl)) (λ_ _ _ _ _=>kY) (λ_ _ _ _ _=>(cY (aa (bg Gv iK hr (aa (pv 0) ae)) (aa (pv 0) ae))))) ae)))
   (af (bh (i:=5) rf.nd rfl (Or.inl rfl) (bF (yi rfl) (by rfl) ke agA (aa (dh (G9 rfl) (by rfl) Oh (show afm "set"=Ya (.type "set") by decide +kernel) (aa (el ["call"] [Yb] rfl rfl (by kernel_rfl) (cJ (K:=K) rfl (pv 1)) (λ_ _ _ _ _ nd=>bR (i:=0) nd rfl (Or.inl rfl)) (λ_ _ _ _ _=>kY) (λ_ _ _ _ _=>(ao (K:=K) rfl (pv 0) rfl))) ae)) ae)))
   (af (bh (i:=6) rf.nd rfl (Or.inl rfl) (bS ae))
   (af (bh (i:=7) rf.nd rfl (Or.inl rfl) (bg q9 iW hr (aa (pv 2) (aa (pv 3) (aa ax ae)))))
   (af (bh (i:=8) rf.nd rfl (Or.inl rfl) (bg kD kC hr (aa (pv 5) (aa (pv 4) (aa (pv 3) (aa (bg Ap Ai hr (aa (pv 2) (aa (pv 7) ae))) ae))))))
   (af (Ez BP (aW jY (pv 8) cE (aP _))
   (af (bV (xP (K:=K) rfl (KD adv ahv ahw ve (pv 6) (aa (pv 8) ae))))
   (af (CG hu (pv 3) (ao (K:=K) rfl (pv 8) rfl) (ao (K:=K) rfl (pv 8) rfl) rfl)
   (af (bh (i:=7) rf.nd rfl (Or.inl rfl) (bg q9 iW hr (aa (pv 2) (aa (pv 3) (aa (pv 7) ae)))))
   (ai (bh (i:=8) rf.nd rfl (Or.inl rfl) (bg kD kC hr (aa (bg sU sO hr (aa (pv 5) (aa (ao (K:=K) rfl (pv 8) rfl) ae))) (aa (pv 4) (aa (pv 3) (aa (bg Ap Ai hr (aa (pv 2) (aa (pv 7) ae))) ae)))))))))))
   (ai (aF (cY (aa (pv 6) (aa (pv 3) ae)))))))))))),?_]
 show xl8 ?_;intro _ _ _ _ _ _;obtain⟨m,ws,cs,xs,ns,hd,cm,hS,hc,lc,rg,hP,hn,kk⟩:=h;have lw:ws.length=cs.length:=Y2 hc;have lx:=hn.len;cbv;intro e0 H1 he0 s1 g1;cbv;show#[d,e0,m,[],rfl,dE s1 hd,.inl g1,cm,Ck.nil,λH2 r m0 s2 hr g2 tm0 mx=>?_];have ctm0:∀k,ct m0 k=ct m k:=λk=>by
  have:=Qy (mx k);have c0:=cm.ct k;have e:ct [] k=0:=rfl;rw[e]at this;omega
 have s02:=s1.trans s2;have hS2:=s02.seq hS;have hc2:=ub (.same s02) hc;cbv;intro E hE;show dg (K:=K) (a:=a) (xs:=ws) (λi σ A=>E2 λv ys=>A5 (σ=[v]) (aG H2 A) (A E=Ya (.lst ys)) (ys.length=i) (JA A ys (((ws.zip cs).take i).map rkp))) #[Yb,[],rfl,aE hE,aj,rfl,.nil] ?_ ?_ ?_
 .rintro i σ A _ ⟨_,_,_,z,_⟩;show z.seq hS2
 .rintro i x σ A hx ⟨v,ys,rfl,sA,gE,ly,pr⟩;obtain⟨y,hy,cy⟩:=jF hc2 hx;have hi:=(Yp.mp hy).1;cbv;show#[x,rfl,y,cy.up (.same sA),λAq1 t t1 ht g1'=>?_];cbv;intro u Aq2 hu2 t2 g2';have gE2:=t2 _ _ (t1 _ _ gE);have kp:pT Aq2 (upd Aq2 E (.lst (ys++[V.ref u]))):=pT.lst gE2;show#[ys,gE2,aN (by omega),_,ys++[.ref u],rfl,λb' o z=>?_,aj,by rw[Yz,ly];rfl,?_]
  .rw[ak (au z hE)];show t2 _ _ (t1 _ _ (sA b' o z))
  .rw[LV ws cs i hx hy,YD];show GD (HS (λa xs z=>kp _ _ (t2 _ _ (t1 _ _ z))) pr) #[u,t,rfl,kp _ _ g2',kp _ _ (t2 _ _ g1')]
 rintro σ H3 ⟨v,ys,rfl,s3,gE,ly,pr⟩;rw[show(ws.zip cs).take ws.length=ws.zip cs by rw[ahN];rw[al1];omega]at pr;show#[E,ys,_,rfl,gE,pr,by have:=Y2 pr;omega,λD hD=>?_];have s4:=aE (o:=.dT (lP ((ws.zip cs).map rkp))) hD;have gD:(upd H3 D (.dT (lP ((ws.zip cs).map rkp)))) D=Ya (.dT (lP ((ws.zip cs).map rkp))):=aj;generalize upd H3 D (.dT (lP ((ws.zip cs).map rkp)))=H4 at s4 gD⊢;have s24:aG H2 H4:=s3.trans s4;have hc4:=ub (.same s24) hc2;have RK:RkA K mg H4 D (CU (ws.zip cs)):=#[#[_,gD,Xk _],λa b v x e=>by
  obtain⟨e1,e2,e3⟩:=qZ e;show#[CH hc4 e1,e2,e3]]
 have hS4:=s24.seq hS2;cbv;intro Eq2 hE2;show dg (K:=K) (a:=a) (xs:=ws) (λi σ A=>∃v,A3 (σ=[v]) (aG H4 A) (A Eq2=Ya (.lst (((cs.take i).map (·.c)).map V.int)))) #[Yb,rfl,aE hE2,aj] ?_ ?_ ?_
 .rintro i σ A _ ⟨_,_,z,_⟩;show z.seq hS4
 .rintro i x σ A hx ⟨v,rfl,sA,gA⟩;obtain⟨y,hy,cy⟩:=jF hc4 hx;have hi:=(Yp.mp hy).1;obtain⟨p,C,dx,t,xs',rfl,hk,hT,hp,_⟩:=cy.up (.same sA);obtain⟨cl,n1,n2,n3,n4,n5⟩:=id hT;cbv;show#[_,gA,?_,_,rfl,λb o z=>?_,?_]
  .rw[Yj,Yj,CA];show aN (by omega)
  .rw[ak (au z hE2)];show sA b o z
  .rw[aj,bI hy,YD,YD];rfl
 rintro σ H5 ⟨v,rfl,s5,gE2⟩;rw[lw,Y6]at gE2;show#[Eq2,cs.map (·.c),rfl,bZ.of gE2,by rw[Yj];omega,λq ks hq ndk mk=>?_];show#[q,ks,rfl,aj,ndk,?_,λcl hs hcl pm so=>?_]
 .show qR ndk λk hk=>by
   obtain⟨x,hx,e⟩:=YX.mp ((mk k).mp hk);rw[←e];show rg x hx
 generalize Sk _ _ q ks=so' at hcl⊢;have s56:=aE (o:=so') hq;have s6:=aE (o:=.lst (hs.map V.int)) hcl;have g6:(upd (upd H5 q so') cl (.lst (hs.map V.int))) cl=Ya (.lst (hs.map V.int)):=aj;generalize upd (upd H5 q so') cl (.lst (hs.map V.int))=H6 at s6 g6⊢;generalize upd H5 q so'=H5' at s56 s6 hcl;have s46:aG H4 H6:=s5.trans (s56.trans s6);have hsl:hs.Pairwise (·<·):=by
  have:=List.pairwise_and_iff.mpr #[so,pm.nodup_iff.mpr ndk];show this.imp λh=>by omega
 have hsm:∀h,h∈hs↔∃x∈cs,x.c=h:=λh=>by
  rw[pm.mem_iff,mk h];show YX
 have lhs:hs.length<=400:=by
  have:hs.length<64:=qR (pm.nodup_iff.mpr ndk) λk hk=>by
   obtain⟨x,hx,e⟩:=(hsm k).mp hk;rw[←e];show rg x hx
  omega
 cbv;intro l H7 hl s7 g7;have s27:aG H2 H7:=s24.trans (s46.trans s7);have s07:=s02.trans s27;have gr7:=s27 _ _ g2;have hP7:bZ K H7 b xs∨c8 K H7 b xs:=Kl (λo e=>s07 _ _ e) hP;have hn7:xZ H7 xs ns:=hn.up (.same s07);have gc7:=s7 _ _ g6;have RK7:=RK.same (s46.trans s7);have nlr:l≠r:=λz=>by rw[z,(s24.trans s46) _ _ g2]at hl;cases hl
 have ncl:cl≠l:=λz=>by rw[←z,g6]at hl;cases hl
 cbv;show#[b,r,0,rfl,xs,m0,ns,hP7,.inl gr7,hn7,Y1 _,λk _ h=>absurd h (ah9 _),λj j1 j2 j3=>?_];cbv;show JH hP7 hn7 j1 j2 j3 λy hy=>?_;cbv;show#[cl,D,r,y,rfl,hs,_,m0,Md ns m0,bZ.of gc7,RK7,.inl gr7,tm0.toCk,hy,λH8 s8=>?_];have hl8:=s8 _ _ g7;have gr8:=s8 _ _ gr7;have gc8:=s8 _ _ gc7;have RK8:=RK7.same s8;have hP8:bZ K H8 b xs∨c8 K H8 b xs:=Kl (λo e=>s8 _ _ e) hP7;have hn8:xZ H8 xs ns:=hn7.up (.same s8);have s08:=s07.trans s8;have frl:H l=none:=(s02.trans (s24.trans s46)).free hl;have frr:H r=none:=s1.free hr;have bl:∀o,H8 b=Ya o->(bZ K H b xs∨c8 K H b xs)->True:=λ_ _ _=>trivial;cbv;show#[λM σ A=>E4 λrw last mm j=>A10 (M=mz cs mm) (σ=[Ya (.ref d),Ya (.ref a),Ya (.ref b),Ya (.ref r),Ya (.ref D),Ya (.ref cl),Ya (.ref l),Ya (.int (j:Nat)),Ya (fsv (fst (frm hs last) (CU (ws.zip cs)) mm (Md ns mm)))]) ((∀x o,H8 x=Ya o->x≠l->x≠r->A x=Ya o)) (A l=Ya (.lst ((rw:List (V×fu)).map (·.1)))) (A r=Ya (.dK (dI mm))) (Td mm) (Fw hs (CU (ws.zip cs)) ns m0 rw last mm) (j<=ns.length) ((∀k (hk:k<ns.length),k<j->JF mm ns[k])) (rw.length+ mz cs mm<=60),#[_,[],Yb,m0,j,rfl,rfl,λx o e _ _=>e,hl8,gr8,tm0,.start,j1,j2,?_],?_]
 .have:=km (λq:fu=>decide (ct m0 q.c<q.k)) cs;unfold mz;rw[afo];omega
 rintro M σ A ⟨rw',last,mm,j',rfl,rfl,kA,gl,gr,tmm,fw,q1,q2,q3⟩;have nbl:∀{x:Yc} {o:HO},H8 x=Ya o->(∀ys,o≠.lst ys)->(∀kvs,o≠.dK kvs)->A x=Ya o:=λe n1 n2=>kA _ _ e (λz=>by rw[z,hl8]at e;cases e;show n1 _ rfl) (λz=>by rw[z,gr8]at e;cases e;show n2 _ rfl);have kpc:KpC H8 A:=#[λp C dx fs e=>nbl e (by intro _ z;cases z) (by intro _ z;cases z),λa xs e=>nbl e (by intro _ z;cases z) (by intro _ z;cases z)];have hPA:bZ K A b xs∨c8 K A b xs:=by
  show Kl (λo e=>?_) hP;show kA _ _ (s08 _ _ e) (λz=>by rw[z,frl]at e;cases e) (λz=>by rw[z,frr]at e;cases e)
 have hnA:xZ A xs ns:=hn8.up kpc.2;have gcA:=kA _ _ gc8 ncl (λz=>by rw[z,gr8]at gc8;cases gc8);have RKA:RkA K mg A D (CU (ws.zip cs)):=by
  obtain⟨⟨kvs,e1,e2⟩,e3⟩:=RK8;show#[#[kvs,nbl e1 (by intro _ z;cases z) (by intro _ z;cases z),e2],λa b v x e=>#[(e3 a b v x e).1.up kpc,(e3 a b v x e).2]]
 cases z:fst (frm hs last) (CU (ws.zip cs)) mm (Md ns mm)with
 |none=>
  cbv;rw[show decide (fsv Yb=V.non)=true from decide_eq_true rfl];cbv;intro t Aq1 ht s9 g9;show kk Aq1 t l r hs m0 rw' last mm (λx o e=>s9 _ _ (kA _ _ (s08 _ _ e) (λz=>by rw[z,frl]at e;cases e) (λz=>by rw[z,frr]at e;cases e))) frl frr g9 (s9 _ _ gl) (s9 _ _ gr) tmm hsl hsm tm0 ctm0 fw z
 |some q=>
  obtain⟨v,x⟩:=q;obtain⟨hh,hhm,eL,tk⟩:=Ct z;obtain⟨cx,ec,ek⟩:=RKA.cl _ _ _ _ eL;obtain⟨p,C,dx,t,xs',rfl,hk,hT,hp,ht,hpx,hcs⟩:=id cx;obtain⟨cl',n1,n2,n3,n4,n5⟩:=id hT;have xm:x∈cs:=by
   have:=(qZ eL).1;show(agc this).2
  have xr:=rg x xm;have ek':x.k=ct mm x.c+ 1:=by rw[ek,ec]
  have kp0:0<x.k:=by have:=tmm.toCk.ct x.c;omega
  have ml:=X9 xm ek';rw[show fsv (Ya (V.ref p,x))=V.ref p from rfl];cbv;rw[show decide (V.ref p=V.non)=false from decide_eq_false (by intro z;cases z)];show fy (λ_=>?_) λz=>absurd rfl z;show#[_,λ_ _ z=>z,?_];have ls:(rw'.map (·.1)).length<Yu:=aN (by rw[Yj];omega);cbv;intro Aq1 b1 g1';have hp1:=b1.of gl hp (by intro z;cases z);have gr1:=b1.at nlr.symm gr;have nd:=tmm.nd;have lm:=tmm.toCk.len;cbv;intro Aq2 b2 g2';have fr2:∀x o,H8 x=Ya o->x≠l->x≠r->Aq2 x=Ya o:=λx o e n1 n2=>b2.at n2 (b1.at n1 (kA x o e n1 n2));have nbl2:∀{x:Yc} {o:HO},A x=Ya o->(∀ys,o≠.lst ys)->(∀kvs,o≠.dK kvs)->Aq2 x=Ya o:=λe n1 n2=>b2.at (λz=>by rw[z,gr]at e;cases e;show n2 _ rfl) (b1.at (λz=>by rw[z,gl]at e;cases e;show n1 _ rfl) e);have kpc2:KpC A Aq2:=#[λp C dx fs e=>nbl2 e (by intro _ z;cases z) (by intro _ z;cases z),λa xs e=>nbl2 e (by intro _ z;cases z) (by intro _ z;cases z)];have hPA2:bZ K Aq2 b xs∨c8 K Aq2 b xs:=by
   show Kl (λo e=>?_) hP;show fr2 _ _ (s08 _ _ e) (λz=>by rw[z,frl]at e;cases e) (λz=>by rw[z,frr]at e;cases e)
  have hnA2:xZ Aq2 xs ns:=hnA.up kpc2.2;have gcA2:=fr2 _ _ gc8 ncl (λz=>by rw[z,gr8]at gc8;cases gc8);have hp2:=kpc2.1 _ _ _ _ hp;have RKA2:RkA K mg Aq2 D (CU (ws.zip cs)):=by
   obtain⟨⟨kvs,e1,e2⟩,e3⟩:=RKA;show#[#[kvs,nbl2 e1 (by intro _ z;cases z) (by intro _ z;cases z),e2],λa b v x e=>#[(e3 a b v x e).1.up kpc2,(e3 a b v x e).2]]
  have tm2:=VU tmm xr.1 xr.2 kp0;have mono:∀k,ct mm k<=ct (gC mm x.c x.k) k:=λk=>by
   rw[AI];by_cases w:k=x.c
   .rw[if_pos w,w];omega
   .rw[if_neg w];show aeZ _
  cbv;show#[b,r,j',rfl,xs,gC mm x.c x.k,ns,hPA2,.inl g2',hnA2,q1,λk hk h=>akK (q2 k hk h) (mono _),λj2 a1 a2 a3=>?_];cbv;show#[cl,x.c,rfl,hs,bZ.of gcA2,lhs,λAq3 cf s3' hcf g3'=>?_];cbv;show JH (Kl (λo e=>s3' _ _ e) hPA2) (hnA2.up (.same s3')) a1 a2 a3 λy hy=>?_;cbv;show#[cf,D,r,y,rfl,_,_,gC mm x.c x.k,Md ns (gC mm x.c x.k),bZ.of g3',RKA2.same s3',.inl (s3' _ _ g2'),tm2.toCk,hy,λAq4 s4'=>?_];show#[mz cs (gC mm x.c x.k),ml,rw'++[(.ref p,x)],Ya x.c,gC mm x.c x.k,j2,rfl,rfl,λx o e n1 n2=>s4' _ _ (s3' _ _ (fr2 x o e n1 n2)),?_,s4' _ _ (s3' _ _ g2'),tm2,.step fw z,a1,a2,?_]
  .rw[YD];show s4' _ _ (s3' _ _ (b2.at nlr g1'))
  .rw[Yz];change rw'.length+ 1+ _<=60;omega
variable(lu:∅ 2 Am wZ uS (xV K mg))(Hi:mg "min"=Yb)
include eV oH og dJ dM dj bT d8 cL lu iK Hi av aB aC az aD aH aT cz bf cP bc cQ in
theorem BY(F:bx K "least_asking" "least_asking" mE f fd):∅ 4 f fd LX (rN K mg):=by
 show F.oj Cg ?_;rintro _ A _ _ H _ _ E hr hu64 _ _ ⟨a,d,rfl,h⟩;show#[_,(ai (aF (QW (K:=K) rfl rfl (af8 (ahg (by decide) _) hu64) (aa (el ["counts","call"] [Ya 1,Yb] rfl rfl (by kernel_rfl) (cJ (K:=K) rfl (pv 0)) (λ_ _ _ _ _ nd=>bR (i:=1) nd rfl (Or.inl rfl)) (λ_ _ _ _ _=>(oz (PW.pt (MJ (cK K rfl (aQ (cC.cons aC.cl bc dj bT (cC.cons av.cl aT dj bT (cC.cons aB.cl bf d8 cL cC.nil))) (pv 1) hr)) (IJ (cK K rfl (eJ (cC.cons aC.cl cQ oH og (cC.cons av.cl cz dJ dM (cC.cons aB.cl cP dJ dM cC.nil))) (pv 1) hr (aa (pv 0) ae)))))))) (λ_ _ _ _ _=>(pv 1))) ae) cE (by rfl) Hi lu iK.mg iK.bd (by rfl) hr))),?_];obtain⟨ws,cs,m,hS,hc,lc,hd,cm,kk⟩:=h;have lw:ws.length=cs.length:=Y2 hc;cbv;intro E hE;show dg (K:=K) (a:=a) (xs:=ws) (λi σ A=>E2 λv zs=>A4 (σ=[Ya (.ref d),v]) (aG H A) (A E=Ya (.lst ((zs:List (V×fu)).map (·.1)))) (zs=((ws.zip cs).take i).filter λq=>mZ m q.2)) #[Yb,[],rfl,aE hE,aj,rfl] ?_ ?_ ?_
 .rintro i σ A _ ⟨_,_,_,z,_⟩;show z.seq hS
 .rintro i v σ A hx ⟨v0,zs,rfl,sA,gE,ez⟩;obtain⟨x,hy,cy⟩:=jF hc hx;have hi:=(Yp.mp hy).1;have tk:=LV ws cs i hx hy;have lz:zs.length<=i:=by
   rw[ez];show oh (km _ _) (agD _ _)
  have hdA:=dE sA hd;have yes:mZ m x=true->zs++[(v,x)]=((ws.zip cs).take (i+ 1)).filter λq=>mZ m q.2:=λw=>by
   rw[tk,gf,←ez];simp[w]
  have no:mZ m x=false->zs=((ws.zip cs).take (i+ 1)).filter λq=>mZ m q.2:=λw=>by
   rw[tk,gf,←ez];simp[w]
  obtain⟨p,C,dx,t,xs',rfl,hk,hT,hp,ht,hpx,hcs⟩:=cy.up (.same sA);obtain⟨kd,n,c,k,w,css⟩:=x;have hk:KdC mg kd C:=hk;have hp:A p=Ya (.ins C dx (z5 (.int n) (.int c) (.int k) (.int w) (.ref t))):=hp;have hpx:qP A xs' css:=hpx;have hcs:Ck css:=hcs;rcases hk with⟨rfl,e⟩|⟨rfl,e⟩|⟨rfl,e⟩
  .rw[aH]at e;cases e;cbv;show#[p,rfl,?_];cbv;show#[_,zs,rfl,sA,gE,no (by unfold mZ;rw[aaa];rfl)]
  .rw[az]at e;cases e;cbv;show#[p,rfl,?_];cbv;show#[_,zs,rfl,sA,gE,no (by unfold mZ;rw[aai];rfl)]
  .have ev:mZ m #["one",n,c,k,w,css]=(decide (ct m c=k-1)&&cov m (iN css)):=by
    unfold mZ Xq;rw[VD,aaH];simp
   rw[aD]at e;cases e;cbv;show#[p,rfl,?_];cbv;show#[p,d,rfl,_,dx,m,_,c,k,_,t,xs',css,.inr aD,hp,hdA,ht,hpx,cm,hcs,λAq1 s1=>?_];cbv;show fy (λh1=>?_) λh1=>?_
   .have gE1:=s1 _ _ gE;cbv;show#[_,gE1,by rw[Yj];show aN (by omega),_,zs++[(.ref p,#["one",n,c,k,w,css])],rfl,λb o z=>?_,by rw[aj,YD];rfl,yes (by rw[ev];show h1)];rw[ak (au z hE)];show s1 _ _ (sA b o z)
   .show#[_,zs,rfl,sA.trans s1,s1 _ _ gE,no (by rw[ev];show aeu.mpr h1)]
 rintro σ A ⟨v,zs,rfl,sA,gE,ez⟩;rw[show(ws.zip cs).take ws.length=ws.zip cs by rw[ahN];rw[al1];omega]at ez;have hcA:=ub (.same sA) hc;have zin:∀q∈zs,q∈ws.zip cs/\mZ m q.2=true:=λq hq=>by
  rw[ez]at hq;show aab.mp hq
 have zat:∀{i:Nat} {v:V},(zs.map (·.1))[i]?=Ya v->∃q,zs[i]?=Ya q/\q.1=v:=fun{i v} h=>by
  rw[YJ]at h;cases w:zs[i]? with
  |none=>rw[w]at h;cases h
  |some q=>rw[w]at h;show#[q,rfl,YM h]
 cbv;show#[E,zs.map (·.1),zs.map (λq=>[q.2.c,q.2.k]),rfl,bZ.of gE,by rw[Yj,Yj],λv hv=>?_,λi v k H3 Q' hv hk s3 hq=>?_,λe=>?_,λi v kb H' hv hkb best s'=>?_]
 .obtain⟨q,hq,rfl⟩:=YX.mp hv;obtain⟨p,_,_,_,_,e,_⟩:=CH hcA (zin q hq).1;show#[p,e]
 .obtain⟨q,hq2,rfl⟩:=zat hv;rw[YJ,hq2]at hk;cases hk;have cq:=(CH hcA (zin q (Y0 hq2)).1).up (.same s3);show#[q.1,rfl,q.2,cq,λH4 t s4 _ g4=>hq H4 t s4 (c8.of g4)]
 .show kk A Yb sA λq hq=>?_;have e0:zs=[]:=ahi.mp e;rw[ez]at e0;have:=List.filter_eq_nil_iff.mp e0 q hq;show aeu.mpr this
 .obtain⟨q,hq2,rfl⟩:=zat hv;rw[YJ,hq2]at hkb;cases hkb;obtain⟨z1,z2⟩:=zin q (Y0 hq2);show kk H' (Ya q) (sA.trans s') #[z1,z2,λq' hq' ha=>?_];have:q'∈zs:=by rw[ez];show aab.mpr #[hq',ha]
  obtain⟨j',hj'⟩:=jJ this;show(best j' [q'.2.c,q'.2.k] (by rw[YJ,hj'];rfl)).1
variable{UP:Yc}{ua:Yc}{Nv:Yr}{sr:Yr}(rO:∅ 6 qQ ph Rz (pP K))(iS:∅ 6 iL lE ay (lj K))(S2:∅ 6 UP Nv ug (Ng K mg))(Ga:fH K mg "run" UP Nv ug)(mq:∅ 6 ua sr LX (rN K mg))(mf:fH K mg "least_asking" ua sr LX)
include eV rO iW iS cM S2 Ga mq mf hG av aB aC az aD aH bE bP bN in
theorem Rv(F:bx K "placed" "placed" DE f fd):∅ 7 f fd ug (F2 K mg):=by
 show F.oj gY ?_;rintro _ A _ _ H _ _ _ hr _ _ _ ⟨d,a,b,rfl,h⟩;show#[_,(af (bh (i:=3) gY.nd rfl (Or.inl rfl) (dh (xT (K:=K) rfl) (by rfl) hG aaK (aa (pv 2) ae)))
   (af (bh (i:=4) gY.nd rfl (Or.inl rfl) (bg S2 Ga hr (aa (pv 0) (aa (pv 1) (aa (pv 3) ae)))))
   (af (bh (i:=5) gY.nd rfl (Or.inl rfl) (fJ (dw (K:=K) rfl) (pv 4) ax (λ_ _=>rfl)))
   (af (bh (i:=6) gY.nd rfl (Or.inl rfl) (bg mq mf hr (aa (pv 1) (aa (fJ (dw (K:=K) rfl) (pv 4) ax (λ_ _=>rfl)) ae))))
   (af (Ez BP (aW jY (pv 6) cE (aP _))
   (af (bh (i:=3) gY.nd rfl (Or.inl rfl) (bw MZ (yE (Ew (K:=K) rfl) (pv 3) Cy (Cv (bg rO iW hr (aa (pv 3) (aa (fJ (dw (K:=K) rfl) (pv 4) ax (λ_ _=>rfl)) (aa ax ae)))))) (bS (aa (aQ (cC.cons aC.cl bN iS cM (cC.cons av.cl bE iS cM (cC.cons aB.cl bP iS cM cC.nil))) (pv 6) hr) ae))))
   (af (bh (i:=4) gY.nd rfl (Or.inl rfl) (bg S2 Ga hr (aa (fJ (dw (K:=K) rfl) (pv 4) ax (λ_ _=>rfl)) (aa (pv 1) (aa (pv 3) ae)))))
   (af (bh (i:=5) gY.nd rfl (Or.inl rfl) (bw MZ (pv 5) (fJ (dw (K:=K) rfl) (pv 4) ax (λ_ _=>rfl))))
   (ai (bh (i:=6) gY.nd rfl (Or.inl rfl) (bg mq mf hr (aa (pv 1) (aa (fJ (dw (K:=K) rfl) (pv 4) ax (λ_ _=>rfl)) ae)))))))))
   (ai (aF (cY (aa (pv 5) (aa (pv 3) ae)))))))))),?_]
 show xl6 ?_;intro _ _ _ _;obtain⟨m,ws,cs,xs,ns,hd,cm,hS,hc,lc,u,rg,hP,hn,ln,kk⟩:=h;have lw:ws.length=cs.length:=Y2 hc;have lx:=hn.len;cbv;show#[b,xs,rfl,hP,λg0 hg0=>?_];have s1:=aE (o:=.lst xs) hg0;have g1:(upd H g0 (.lst xs)) g0=Ya (.lst xs):=aj;generalize upd H g0 (.lst xs)=H1 at s1 g1⊢;cbv;show#[d,a,g0,rfl,m,ws,cs,xs,ns,dE s1 hd,cm,s1.seq hS,ub (.same s1) hc,lc,rg,.inl (bZ.of g1),hn.up (.same s1),λH2 t l r hs m0 rw last m' s2 hl hr gt gl gr tm' hp1 hp2 tm0 e0 fw fe=>?_];have rn:Rn ws cs m ns rw m':=#[hs,m0,last,#[hp1,hp2],tm0,e0,fw,fe];have gT:c8 K H2 t [.ref l,.ref r]:=c8.of gt;have s02:=s1.trans s2;cbv;show#[a,r,rfl,ws,cs,m',s02.seq hS,ub (.same s02) hc,lc,.inl gr,tm'.toCk,λH3 o s3 la=>?_];have m60:mz cs m<=60:=oh (km _ _) lc;cbv;show#[λM σ A=>E10 λt l ll r g row ys gs mm o=>A5 (M=mz cs mm) (σ=[Ya (.ref d),Ya (.ref a),Ya (.ref b),Ya (.ref g),Ya (.ref t),Ya (.ref l),Ya (fsv o)]) (aG H A) (H l=Yb) (A11 (H g=Yb) (A t=Ya (.tup [.ref ll,.ref r])) (A l=Ya (.lst ((row:List (V×fu)).map (·.1)))) (A r=Ya (.dK (dI mm))) (Td mm) (A g=Ya (.lst ys)) (xZ A ys gs) (Pw ws cs m ns row gs mm) (LaR (ws.zip cs) mm o) (row.length+ mz cs mm<=60) (gs.length<=ns.length+ row.length)),#[_,t,l,l,r,g0,rw,xs,ns,m',o,rfl,rfl,s02.trans s3,s1.free hl,hg0,s3 _ _ gt,s3 _ _ gl,s3 _ _ gr,tm',s3 _ _ (s2 _ _ g1),hn.up (.same (s02.trans s3)),.start rn,la,by have:=Mh rn;omega,by omega],?_];clear la gT gt gl gr g1 hl hr hg0 rn fw fe;rintro M σ A ⟨t,l,ll,r,g,row,ys,gs,mm,o,rfl,rfl,sA,hl,hg,gt,gl,gr,tmm,gg,nm,pw,la,q1,q2⟩;have ly:=nm.len;cases o with
 |none=>
  cbv;rw[show decide (fsv Yb=V.non)=true from decide_eq_true rfl];cbv;intro t' Aq1 ht' s9 g9;show kk Aq1 t' l g row ys gs mm (sA.trans s9) hl hg g9 (s9 _ _ gl) (s9 _ _ gg) (nm.up (.same s9)) pw la
 |some q=>
  obtain⟨v,n,kk2⟩:=id la;obtain⟨vq,x⟩:=q;have cx:kh K mg A vq x:=CH (ub (.same sA) hc) v;obtain⟨p,C,dx,tt,xs',rfl,hk,hT,hp,ht,hpx,hcs⟩:=id cx;have ek:=(NO n).1;obtain⟨kd,nn,c,k,w,css⟩:=x;have ek:kd="one":=ek;subst ek;have hp:A p=Ya (.ins C dx (z5 (.int nn) (.int c) (.int k) (.int w) (.ref tt))):=hp;have hk:KdC mg "one" C:=hk;rcases hk with⟨z,_⟩|⟨z,_⟩|⟨_,e⟩
  .show absurd z (of_decide_eq_false VD)
  .show absurd z (of_decide_eq_false aeh)
  rw[aD]at e;cases e;rw[show fsv (Ya (V.ref p,(#["one",nn,c,k,w,css]:fu)))=V.ref p from rfl];cbv;rw[show decide (V.ref p=V.non)=false from decide_eq_false (by intro z;cases z)];show fy (λ_=>?_) λz=>absurd rfl z;show#[_,λ_ _ z=>z,?_];have gTA:c8 K A t [.ref ll,.ref r]:=c8.of gt;cbv;show#[g,r,0,rfl,ys,mm,gs,.inl (bZ.of gg),.inl gr,nm,Y1 _,λk _ h=>absurd h (ah9 _),λj j1 j2 j3=>?_];have hSg:bZ K A g ys:=bZ.of gg;cbv;intro c1 Aq1 hc1 t1 gc1;rw[Kh _ _ (by omega)]at gc1;have hp1:=t1 _ _ hp;cbv;show#[p,rfl,_,dx,_,_,_,_,_,hT,hp1,λAq2 u2 t2 hu2 g2=>?_];cbv;intro e1 Aq3 he1 t3 g3;have gc3:=t3 _ _ (t2 _ _ gc1);have lt:=agD j ys;show UO gc3 g3 (by rw[abS];omega) λg' Aq4 hg' t4 g4=>?_;have tA4:aG A Aq4:=t1.trans (t2.trans (t3.trans t4));have nm4:xZ Aq4 (ys.take j++[.ref u2]) (gs.take j++[(nn,c,k)]):=xZ.snoc (Ep j (nm.up (.same tA4))) #[u2,rfl,t4 _ _ (t3 _ _ g2)];have gT4:c8 K Aq4 t [.ref ll,.ref r]:=c8.of (tA4 _ _ gt);have s04:=sA.trans tA4;cbv;show#[r,a,g',rfl,mm,ws,cs,_,_,.inl (tA4 _ _ gr),tmm.toCk,s04.seq hS,ub (.same s04) hc,lc,rg,.inl (bZ.of g4),nm4,λAq5 t5' l5 r5 hs5 m5 rw5 last5 mm5 s5 hl5 hr5 gt5 gl5 gr5 tm5 hp5 hp6 tm6 e5 fw5 fe5=>?_];have rn5:Rn ws cs mm (gs.take j++[(nn,c,k)]) rw5 mm5:=#[hs5,m5,last5,#[hp5,hp6],tm6,e5,fw5,fe5];have fo:Fo gs mm j:=#[j1,j2,j3];have pos:=O0 u la fo rn5;have mz5:=Mh rn5;have gT5:c8 K Aq5 t5' [.ref l5,.ref r5]:=c8.of gt5;have gl05:=s5 _ _ (tA4 _ _ gl);cbv;show UO gl05 gl5 (by rw[Yj,Yj];omega) λl6 Aq6 hl6 t6 g6=>?_;rw[←YD]at g6;have gT6:c8 K Aq6 t5' [.ref l5,.ref r5]:=c8.of (t6 _ _ gt5);have s06:=s04.trans (s5.trans t6);cbv;show#[a,r5,rfl,ws,cs,mm5,s06.seq hS,ub (.same s06) hc,lc,.inl (t6 _ _ gr5),tm5.toCk,λAq7 o7 s7 la7=>?_];show#[mz cs mm5,by omega,t5',l6,l5,r5,g',row++rw5,ys.take j++[.ref u2],gs.take j++[(nn,c,k)],mm5,o7,rfl,rfl,s06.trans s7,(s04.trans s5).free hl6,(sA.trans (t1.trans (t2.trans t3))).free hg',s7 _ _ (t6 _ _ gt5),s7 _ _ g6,s7 _ _ (t6 _ _ gr5),tm5,s7 _ _ (t6 _ _ (s5 _ _ g4)),nm4.up (.same (s5.trans (t6.trans s7))),.step pw la fo rn5,la7,?_,?_]
  .rw[Yz];omega
  .rw[Yz,Yz,abS];have:=agD j gs;omega
include eV dy cu Hi in
theorem CZ(F:bx K "least_count" "least_count" oV f fd):∅ 2 f fd Lm (ti K):=by
 show F.oj DN ?_;rintro _ _ _ _ H _ _ _ hr _ _ _ ⟨a,h,xs,ms,rfl,h⟩;show#[_,(ai (aF (bF (RC rfl) (by rfl) Hi ahY (aa (el ["hand","counts"] [Ya 1,Yb] rfl rfl (by kernel_rfl) (cJ (K:=K) rfl (pv 0)) (λ_ _ _ _ _ nd=>bR (i:=1) nd rfl (Or.inl rfl)) (λ_ _ _ _ _=>kY) (λ_ _ _ _ _=>(bg dy cu hr (aa (pv 1) (aa (pv 0) ae))))) ae)))),?_];obtain⟨hS,dc,ne,l10,k⟩:=h;have lx:xs.length=ms.length:=Y2 dc;show#[_,rfl,a,rfl,#[_,hS],λD hD=>?_];show dg (K:=K) (a:=a) (xs:=xs) (λi σ H'=>∃v,A3 (σ=[Ya (.int h),v]) (aG H H') (H' D=Ya (.lst (((ms.take i).map λm=>ct m h).map V.int)))) #[Yb,rfl,aE hD,aj] ?_ ?_ ?_
 .rintro i σ H' _ ⟨_,_,q,_⟩;show q.seq hS
 .rintro i x σ H' hx ⟨v,rfl,q,hDx⟩;obtain⟨m,hm,d,rfl,hd⟩:=VW.get dc hx;have hil:=(Yp.mp hm).1;show HQ #[_,rfl,_,rfl,d,m,h,rfl,dE q hd,_,hDx,?_,Ya (.ref d),rfl,λb o z=>?_,?_]
  .rw[Yj,Yj,CA];show aN (by omega)
  .rw[ak (au z hD)];show q b o z
  .rw[aj,bI hm,YD,YD];rfl
 rintro σ H' ⟨v,rfl,q,hDx⟩;rw[lx,Y6]at hDx;show#[D,_,rfl,bZ.of hDx,λz=>ne (ahi.mp z),λb hb lo=>k _ b q ?_];obtain⟨m,hm,e⟩:=YX.mp hb;show#[#[m,hm,e],λm' hm'=>lo _ (xj (f:=λm=>ct m h) hm')]
variable{vK:Yc}{tT:Yr}(pU:∅ 2 pd lX Em (lZ K))(vt:∅ 2 vK tT Lm (ti K))(wC:fH K mg "least_count" vK tT Lm)
include eV pU fZ jL jt vt wC in
theorem Qz(F:bx K "common" "common" Dm f fd):∅ 3 f fd Em (GH K):=by
 show F.oj Qq ?_;rintro _ _ _ _ _ _ _ _ hr _ _ _ ⟨a,xs,ms,rfl,h⟩;show#[_,(ai (aF (bg jL jt hr (aa (el ["some","hand"] [Ya 0,Yb] rfl rfl (by kernel_rfl) (cJ (K:=K) rfl (bg pU fZ hr (aa (pv 0) ae))) (λ_ _ _ _ _ nd=>bR (i:=1) nd rfl (Or.inl rfl)) (λ_ _ _ _ _=>kY) (λ_ _ _ _ _=>(cY (aa (pv 1) (aa (bg vt wC hr (aa (pv 0) (aa (pv 1) ae))) ae))))) ae)))),?_];obtain⟨hS,dc,ck,l10,k⟩:=h;show#[_,rfl,a,xs,ms,rfl,hS,dc,ck,l10,λH1 l S sm hl nd mem=>?_];have rg:∀j∈S,0<=j/\j<63:=λj hj=>by
  obtain⟨m,h1,h2⟩:=(mem j).mp hj;show(ck m h1).keys j h2
 have lS:=qR nd rg;show#[l,rfl,#[_,bZ.of hl],λD hD=>?_];show dg (K:=K) (a:=l) (xs:=S.map V.int) (λi σ H'=>E3 λv ys f=>A6 (σ=[Ya (.ref a),v]) (aG H1 H') (H' D=Ya (.lst ys)) (ys.length<=i) (qP H' ys (UU (S.take i) f)) (∀j∈S.take i,NU ms j (f j))) #[Yb,[],λ_=>0,rfl,aE hD,aj,Ym _,.nil,λj hj=>by simp at hj] ?_ ?_ ?_
 .rintro i σ H' _ ⟨_,_,_,_,q,_⟩;show bZ.of (q _ _ hl)
 .rintro i x σ H' hx ⟨v,ys,f,rfl,q,hDx,ly,pr,mn⟩;obtain⟨j,hj,rfl⟩:=ot hx;have hil:=(Yp.mp hj).1;have s2:=sm.trans q;have ne:ms≠[]:=λz=>by
   obtain⟨m,h1,_⟩:=(mem j).mp (Y0 hj);rw[z]at h1;cases h1
  show HQ #[_,rfl,_,rfl,_,rfl,a,j,xs,ms,rfl,s2.seq hS,Ux s2 dc,ne,l10,λH2 b sm2 hb=>#[by change 2<=Yu;decide,λp hp=>?_]];have hDx2:=sm2 _ _ hDx;have nDp:D≠p:=au hDx2 hp;have nj:j∉S.take i:=by
   have:=nd.sublist (aiX (i+ 1) S);rw[bI hj,aec]at this;show λz=>this.2.2 _ z _ (by simp) rfl
  show#[ys,by rw[ak nDp];show hDx2,aN (by omega),Ya (.int j),_,λy=>if y=j then b else f y,rfl,λc o z=>?_,aj,by rw[Yz];show afX ly,?_,λy hy=>?_]
  .rw[ak (au z hD),ak (au (sm2 _ _ (q c o z)) hp)];show sm2 _ _ (q c o z)
  .rw[bI hj];change qP _ _ (alB _ (_++[j]));rw[YD];have e:(S.take i).map (λy=>(y,if y=j then b else f y))=UU (S.take i) f:=aeA λy hy=>by rw[if_neg (λz:y=j=>nj (z▸hy))]
   rw[e];show qP.snoc (pr.mono λa ys z=>?_) #[p,rfl,?_]
   .have z2:=sm2 _ _ z;rw[ak (cG z2 hDx2 (by intro z;cases z)),ak (au z2 hp)];show z2
   .rw[ak (Ne.symm nDp),aj];change _=Ya (HO.tup [V.int j,V.int (if j=j then b else f j)]);rw[if_pos rfl]
  .rw[bI hj]at hy;rcases YV.mp hy with z|z
   .change NU ms y (if y=j then b else f y);rw[if_neg (λy2:y=j=>nj (y2▸z))];show mn y z
   .have z':=Yo.mp z;change NU ms y (if y=j then b else f y);rw[if_pos z',z'];show hb
 rintro σ H' ⟨v,ys,f,rfl,q,hDx,ly,pr,mn⟩;rw[show S.take (S.map V.int).length=S by rw[Yj,Y6]]at pr mn;show#[D,ys,_,rfl,.inl (bZ.of hDx),pr,?_,by rw[qt];show nd,λH2 p sm2 hp0 hp=>?_]
 .change(alB _ S).length<=1000;rw[Yj];omega
 have nn:∀j∈S,0<=f j:=λj hj=>by
  obtain⟨⟨m,hm,e⟩,_⟩:=mn j hj;rw[←e];show(ck m hm).ct j
 show k _ p _ ((sm.trans q).trans sm2) ((sm.trans q).free hp0) hp (U5 nd rg) (λz=>?_) λne j=>?_
 .have:S=[]:=by
   cases S with
   |nil=>rfl
   |cons j S=>
    obtain⟨m,h1,_⟩:=(mem j).mp Yy;rw[z]at h1;cases h1
  rw[this];rfl
 .by_cases hj:j∈S
  .rw[Us nd j hj (nn j hj)];show mn j hj
  .rw[O6 hj];have z:∀m∈ms,ct m j=0:=λm hm=>xU λz=>hj ((mem j).mpr #[m,hm,z]);cases ms with
   |nil=>show absurd rfl ne
   |cons m ms=>show#[#[m,Yy,z m Yy],λm' hm'=>by rw[z m' hm'];show aeZ _]
variable(CM:mg "tuple"=Yb)
include eV ke CM in
theorem Qu(F:bx K "packed" "packed" EM f fd):∅ 1 f fd LL (Gk K):=by
 show F.oj Ri ?_;rintro _ _ _ _ H _ _ _ _ _ _ hu ⟨d,m,rfl,h⟩;show#[_,(ai (aF (dh (LH (K:=K) rfl) (by rfl) CM ajD (aa (el ["counts","hand"] [Ya 0,Yb] rfl rfl (by kernel_rfl) (cJ (K:=K) rfl (bF (HR rfl) (by rfl) ke agA (aa (pv 0) ae))) (λ_ _ _ _ _ nd=>bR (i:=1) nd rfl (Or.inl rfl)) (λ_ _ _ _ _=>(oz (aW aak (Ic hu (pv 0) (pv 1) (λ_ _=>rfl)) ax (aP _)))) (λ_ _ _ _ _=>(cY (aa (pv 1) (aa (Ic hu (pv 0) (pv 1) (λ_ _=>rfl)) ae))))) ae)))),?_];obtain⟨hd,hlen,k⟩:=h;show#[_,rfl,d,m,rfl,hd,hlen,λl S hl pm so=>?_];have sm0:aG H (upd H l (.lst (S.map V.int))):=aE hl;have g0:(upd H l (.lst (S.map V.int))) l=Ya (.lst (S.map V.int)):=aj;generalize upd H l (.lst (S.map V.int))=H0 at sm0 g0⊢;have lS:S.length<64:=by rw[pm.length_eq,Yj];show hlen
 show#[l,rfl,#[_,bZ.of g0],λD hD=>?_];show dg (K:=K) (a:=l) (xs:=S.map V.int) (λi σ H'=>E2 λv xs=>A5 (σ=[Ya (.ref d),v]) (aG H0 H') (H' D=Ya (.lst xs)) (xs.length<=i) (qP H' xs (Gs m (S.take i)))) #[Yb,[],rfl,aE hD,aj,Ym _,.nil] ?_ ?_ ?_
 .rintro i σ H' _ ⟨_,_,_,sm,_⟩;show bZ.of (sm _ _ g0)
 .rintro i x σ H' hx ⟨v,xs,rfl,sm,hDx,lx,pr⟩;obtain⟨n,hn,rfl⟩:=ot hx;have hil:=(Yp.mp hn).1;have hmem:n∈m.map (·.1):=pm.mem_iff.mp (Y0 hn);have hd':Rd H' d (.dK (dI m)):=dE sm (dE sm0 hd);have hv:Ya (V.int (ct m n))=hX (dI m) (YG n:cj):=by rw[Iw,ae3 hmem];rfl
  show#[_,rfl,_,rfl,d,V.int (ct m n),rfl,.inl #[_,YG n,hd',rfl,hv],_,_,rfl,rfl,_,rfl,fy (λh=>?_) λh=>?_]
  .have h':0<ct m n:=of_decide_eq_true h;show#[_,rfl,_,rfl,_,rfl,d,V.int (ct m n),rfl,.inl #[_,YG n,hd',rfl,hv],by change 2<=Yu;decide,λp hp=>?_];have nDp:D≠p:=au hDx hp;show#[xs,by rw[ak nDp];show hDx,aN (by omega),Ya (.int n),_,rfl,λb o e=>?_,aj,by rw[Yz];show afX lx,?_]
   .rw[ak (au e hD),ak (au (sm b o e) hp)];show sm b o e
   .rw[bI hn,WL h'];show qP.snoc (pr.mono λa ys e=>?_) #[p,rfl,?_]
    .rw[ak (cG e hDx (by intro z;cases z)),ak (au e hp)];show e
    .rw[ak (Ne.symm nDp),aj]
  .have h':¬ 0<ct m n:=λz=>h (decide_eq_true z);show#[Ya (.int n),xs,rfl,sm,hDx,ahJ lx,?_];rw[bI hn,abZ h'];show pr
 rintro σ H' ⟨v,xs,rfl,sm,hDx,lx,pr⟩;rw[show S.take (S.map V.int).length=S by rw[Yj,Y6]]at pr;show#[D,xs,rfl,.inl #[bZ.of hDx,λt ht=>?_]];show k _ t xs S (sm0.trans (sm.trans (aE ht))) (sm0.free (sm.free ht)) pm so aj (Lf (aE ht) pr)
include eV in
theorem QU(F:bx K "bit_of" "bit_of" CP f fd):∅ 1 f fd ["hand"] (AH K):=by
 show F.oj RO ?_;rintro _ _ _ _ H _ Q _ _ _ _ _ ⟨x,rfl,h⟩;show#[_,(ai (aF (j6 (aW K2 (pv 0) ax (aP _)) (bw oY ax (pv 0)) ax))),?_];obtain⟨h0,h1,k⟩:=h;show#[_,rfl,_,_,rfl,rfl,_,rfl,?_];rw[decide_eq_true (show(0:Int)<=x from h0)];show abY #[_,rfl,_,_,rfl,rfl,#[h0,by omega,by decide],?_];change Q (.int (1*2^x.toNat)) H;rw[ahP];show k
variable{ES:Yc}{Aa:Yr}(Ld:∅ 1 ES Aa ["hand"] (AH K))(yr:fH K mg "bit_of" ES Aa ["hand"])
include eV Ld yr in
theorem abu(F:bx K "has" "has" TH f fd):∅ 2 f fd G7 (M0 K):=by
 show F.oj abk ?_;rintro _ _ _ _ H _ Q _ hr _ _ _ ⟨n,x,rfl,h⟩;show#[_,(ai (aF (eT aei (bw Dh (pv 0) (bg Ld yr hr (aa (pv 1) ae))) ax (aP _)))),?_];obtain⟨hn,h0,h1,k⟩:=h;show#[_,rfl,_,rfl,x,rfl,h0,h1,_,_,rfl,rfl,rfl,?_];change Q (.bl (!decide (V.int (abJ n (2^x.toNat))=V.int 0))) H;rw[UI hn h0];show k
variable{Vb:Yc}{MK:Yr}(aag:∅ 2 Vb MK G7 (M0 K))(O8:fH K mg "has" Vb MK G7)(vd:mg "range"=Yb)
include eV aag O8 vd in
theorem LK(F:bx K "hands_of" "hands_of" xh f fd):∅ 3 f fd vp (Bv K):=by
 show F.oj JG ?_;rintro _ _ _ _ H _ _ _ hr _ _ _ ⟨n,rfl,h⟩;show#[_,(ai (aF (el ["hands","hand"] [Ya 0,Yb] rfl rfl (by kernel_rfl) (AD rfl vd (aa (Ik PySem.F.plainAttrs_int PySem.F.slot_int_bit_length PySem.F.type_int_bit_length QH (pv 0)) ae)) (λ_ _ _ _ _ nd=>bR (i:=1) nd rfl (Or.inl rfl)) (λ_ _ _ _ _=>(oz (cK K rfl (bg aag O8 hr (aa (pv 0) (aa (pv 1) ae)))))) (λ_ _ _ _ _=>(pv 1))))),?_];obtain⟨h0,h1,k⟩:=h;obtain⟨b1,b2⟩:=Qt h0 h1;show#[_,rfl,rfl,n,rfl,rfl,_,rfl,by omega,by omega,λD hD=>?_];show MH (λi σ H'=>∃v,σ=[Ya (.int n),v]/\H'=upd H D (.lst ((Ex n i).map V.int))) #[Yb,rfl,rfl] ?_ ?_
 .rintro i σ H' hi ⟨v,rfl,rfl⟩;have hi':i<aa9 n:=by simpa using hi
  show#[_,rfl,_,rfl,n,_,rfl,h0,(by omega),(by omega),_,rfl,?_];have ei:(0+ (i:Int)).toNat=i:=by omega
  rw[ei];cases e:n.toNat.testBit i with
  |true=>
   show abY #[_,rfl,_,aj,?_,_,rfl,?_]
   .rw[Yj];have:=Vk n i;show aN (by omega)
   .rw[Wa,U2 e,YD,Int.zero_add];rfl
  |false=>
   show adM #[_,rfl,?_];rw[Wv e]
 .rintro σ H' ⟨v,rfl,rfl⟩;have e:((aa9 n:Nat):Int).toNat=aa9 n:=YK _;rw[e,b2];show k _ D hD (aE hD) aj
variable{Eb:Yc}{Bm:Yr}(rE:∅ 3 Eb Bm vp (Bv K))(qU:fH K mg "hands_of" Eb Bm vp)
include eV rE qU kL in
theorem y7(F:bx K "__init__" "Known.__init__" jI f fd):∅ 4 f fd vB (nv K):=by
 show F.oj yF ?_;rintro _ _ _ _ H _ _ _ hr _ _ _ ⟨p,n,rfl,h⟩;show#[_,(ai (aR (K:=K) rfl (pv 0) (dh (M4 rfl) (by rfl) kL afc (aa (el ["hand"] [Yb] rfl rfl (by kernel_rfl) (cJ (K:=K) rfl (bg rE qU hr (aa (pv 1) ae))) (λ_ _ _ _ _ nd=>bR (i:=0) nd rfl (Or.inl rfl)) (λ_ _ _ _ _=>kY) (λ_ _ _ _ _=>(cY (aa (pv 0) (aa mT ae))))) ae)) rfl)),?_];obtain⟨C,dx,⟨cl,n1⟩,hp,h0,h1,k⟩:=h;cbv;show#[n,rfl,h0,h1,λH1 l hl s1 g1=>?_];cbv;intro D hD;have ln:=GB.acV n;show dg (K:=K) (a:=l) (xs:=(GB.hl n).map V.int) (λi σ H'=>E3 λv ys rs=>A7 (σ=[v]) (aG H1 H') (H' D=Ya (.lst ys)) (Ma H' ys rs) (rs.map (·.1)=(GB.hl n).take i) (wQ H' rs (((GB.hl n).take i).map λh=>(h,[]))) (∀q∈rs,∀r,q.2=V.ref r->H1 r=Yb)) #[Yb,[],[],rfl,aE hD,aj,.nil,rfl,.nil,λq hq=>nomatch hq] ?_ ?_ ?_
 .rintro i σ H' _ ⟨_,_,_,_,z,_⟩;show bZ.of (z _ _ g1)
 .rintro i x σ H' hx ⟨v,ys,rs,rfl,sm,hDx,hpr,hk,hrw,hfr⟩;obtain⟨h,hh,rfl⟩:=ot hx;have hi:=(Yp.mp hh).1;have ly:ys.length<=i:=by
   rw[So hpr,←Yj (f:=(·.1)),hk,CA];omega
  cbv;intro r H2 hr s2 g2;cbv;intro t H3 ht s3 g3;have hD3:=s3 _ _ (s2 _ _ hDx);show#[ys,hD3,aN (by omega),Ya (.int h),_,rs++[(h,.ref r)],rfl,λb o z=>?_,aj,?_,?_,?_,λq hq r' e=>?_]
  .rw[ak (au z hD)];show s3 _ _ (s2 _ _ (sm b o z))
  .show Rr (WG ((pT.same (s2.trans s3)).trans (pT.lst hD3)) hpr) #[t,rfl,pT.lst hD3 _ _ g3]
  .rw[YD,hk,bI hh];rfl
  .rw[bI hh,YD];have kp:∀r m,H' r=Ya (.dK (dI m))->(upd H3 D (.lst (ys++[V.ref t]))) r=Ya (.dK (dI m)):=λr m e=>by rw[ak (cG (s3 _ _ (s2 _ _ e)) hD3 (by intro z;cases z))];show s3 _ _ (s2 _ _ e)
   show S5 (jf kp hrw) #[rfl,r,rfl,by rw[ak (cG (s3 _ _ g2) hD3 (by intro z;cases z))];show s3 _ _ g2]
  .rcases YV.mp hq with z|z
   .show hfr q z r' e
   .rw[Yo.mp z]at e;cases e;show sm.free hr
 rintro σ H2 ⟨v,ys,rs,rfl,s2,hD2,hpr,hk,hrw,hfr⟩;rw[show(GB.hl n).take ((GB.hl n).map V.int).length=GB.hl n by rw[Yj,Y6]]at hk hrw;show#[D,ys,rs,rfl,hD2,hpr,by rw[hk];show aan n,by rw[←Yj (f:=(·.1)),hk];omega,λd hd=>?_];have s3:=aE (o:=.dK (dG rs)) hd;have g3:(upd H2 d (.dK (dG rs))) d=Ya (.dK (dG rs)):=aj;generalize upd H2 d (.dK (dG rs))=H3 at s3 g3⊢;have s4:aG H H3:=s1.trans (s2.trans s3);have hp4:=s4 _ _ hp;cbv;intro H5 b5 g5;show k H5 d rs (λb o e hb=>b5.at hb (s4 _ _ e)) g5 (b5.of hp4 g3 (by intro z;cases z)) (jf (λr m e=>b5.of hp4 e (by intro z;cases z)) (jf (λr m e=>s3 _ _ e) hrw)) (ac4 hrw hd) ((s1.trans s2).free hd) (λq hq r e=>s1.free (hfr q hq r e))
variable{eR:Yc}(A1:∅ 2 DY As EA (AS K))(bz:NI K eR)(bM:mg "Known"=Ya (.ref eR))
include eV A1 zj bz bM in
theorem Fi(F:bx K "learn" "Known.learn" pq f fd):∅ 3 f fd KU (tV K mg):=by
 show F.oj Fu ?_;rintro _ _ _ _ H _ _ _ hr _ _ hu ⟨p,x,c,rfl,h⟩;show#[_,(ai (cW (acP (aca hu (pv 1) (ao (K:=K) rfl (pv 0) rfl))) (ai (CG hu (ao (K:=K) rfl (pv 0) rfl) (pv 1) (bg A1 zj hr (aa (Ic hu (ao (K:=K) rfl (pv 0) rfl) (pv 1) (λ_ _=>rfl)) (aa (pv 2) ae))) rfl)) bC)),?_];obtain⟨d,rs,tb,m,S,hc,cm,k⟩:=h;obtain⟨⟨C,dx,eC,hp⟩,hd,hrw,hhs,htd,hap⟩:=id S;rw[bM]at eC;cases eC;obtain⟨cl,n1⟩:=id bz;have hks:=hrw.keys;have nd:(rs.map (·.1)).Nodup:=by rw[hks];show hhs.up.imp λh=>by omega
 have lrs:rs.length<Yu:=aN (by
  have:=qR (by rw[←hks];show nd) hhs.rg;rw[Yj]at this;have e:rs.length=tb.length:=Y2 hrw;omega)
 cbv;rcases hrw.lk x with⟨e1,e2⟩|⟨r,m0,e1,e2,e3⟩
 .rw[e1];show fy (λz=>absurd z (by decide)) λ_=>?_;show k H rs tb (.refl _ _) S (λ_=>rfl) (λm0 z=>by rw[e2]at z;cases z) λq hq=>.inl hq
 .have hd':=hd;rw[e1];show fy (λ_=>?_) λz=>absurd rfl z;cbv;have t0:=htd _ (Po e2);show#[r,c,m0,m,rfl,.inl e3,hc,t0.toCk,cm,λH1 q j s1 hq g1 tj mx=>?_];have hp1:=s1 _ _ hp;have hd1:=s1 _ _ hd;cbv;intro H2 b2 g2;have key:x∈tb.map (·.1):=Oe.mp (by rw[e2];rfl);have nq:q≠d:=λz=>by rw[z]at hq;rw[hq]at hd;cases hd
  have hrw2:wQ H2 rs tb:=Xs hrw hap λr o n e=>b2.at n (s1 _ _ e);show k H2 _ (C6 tb x j) (λb o n e=>b2.at n (s1 _ _ e)) #[#[_,dx,bM,b2.of hd1 hp1 (by intro z;cases z)],g2,WR (b2.at nq g1) (by rw[←hks];show nd) key hrw2,by rw[Gu];show hhs,λe he=>?_,λw hw=>?_] (λz=>by rw[e2]at z;cases z) (λm1 z=>#[j,tj,?_,rfl]) λw hw=>?_
  .obtain⟨e0,h0,rfl⟩:=YX.mp he;by_cases w:e0.1=x
   .rw[if_pos w];show tj
   .rw[if_neg w];show htd e0 h0
  .rcases Ay _ _ _ _ hw with z|z
   .rw[z];intro w;cases w;show nq rfl
   .show hap w z
  .rw[e2]at z;cases z;show mx
  .rcases Ay _ _ _ _ hw with z|z
   .rw[z];show .inr #[q,rfl,hq]
   .show .inl z
include eV jO fX nA bz bM in
theorem Dt(F:bx K "reach" "Known.reach" pJ f fd):∅ 3 f fd LQ (sV K mg):=by
 show F.oj Dk ?_;rintro _ A _ _ _ _ _ _ hr _ _ _ ⟨p,t,rfl,h⟩;show#[_,(ai (Wi (aF (bF (lK (K:=K) rfl) (by rfl) nA ags (aa (el ["name","row"] [Ya 1,Yb] rfl rfl (by kernel_rfl) (Xp (ao (K:=K) rfl (pv 0) rfl)) (λ_ _ _ _ _ nd=>bR (i:=1) nd rfl (Or.inl rfl)) (λ_ _ _ _ _=>(oz (cK K rfl (bg jO fX hr (aa (pv 1) (aa (pv 0) ae)))))) (λ_ _ _ _ _=>(pv 1))) ae))))),?_];obtain⟨d,rs,tb,n,x,c,S,ht,k⟩:=h;obtain⟨⟨C,dx,eC,hp⟩,hd,hrw,hhs,htd,hap⟩:=id S;rw[bM]at eC;cases eC;obtain⟨cl,n1⟩:=id bz;have lrs:rs.length=tb.length:=Y2 hrw;have ltb:tb.length<64:=by
  have:=qR (hhs.up.imp λh=>by omega) hhs.rg;rw[Yj]at this;show this
 show acj (d:=d) hd ?_;cbv;show afv hd λo A hA sA=>?_;intro D hD;have nDd:D≠d:=λz=>by rw[z,hA]at hD;cases hD
 show RE (λi σ H'=>E2 λv ys=>A5 (σ=[Ya (.ref t),v]) (aG A H') (H' D=Ya (.lst ys)) (ys.length=JJ (tb.take i) x c) (ys.length<=i)) #[Yb,[],rfl,aE hD,aj,by simp[JJ],Ym _] ?_ ?_ ?_
 .rintro i σ H' _ ⟨_,_,_,z,_⟩;show z _ _ hA
 .rintro i ky v σ H' hkv ⟨v1,ys,rfl,sm,hDx,hy,hyi⟩;obtain⟨q,hq,rfl,rfl⟩:=acW hkv;obtain⟨e,r,he,e1,e2,e3⟩:=rA hrw hq;have hi:=(Yp.mp he).1;have nrd:r≠d:=λz=>hap q (Y0 hq) (by rw[e2,z]);have hr':=sm _ _ (sA _ _ nrd e3);have ht':=sm _ _ (sA _ _ (cG ht hd (by intro z;cases z)) ht);rw[e2];cbv;show#[r,t,rfl,_,_,_,_,.inl hr',c8.of ht',?_];cbv;show fy (λh1=>?_) λh1=>?_
  .have h1:c<=ct e.2 x:=of_decide_eq_true h1;cbv;show#[_,hDx,aN (by omega),_,_,rfl,λb o z=>?_,aj,?_,?_]
   .rw[ak (au z hD)];show sm b o z
   .rw[Yz,hy,KI he,if_pos h1];rfl
   .rw[Yz];show afX hyi
  .have h1:¬ c<=ct e.2 x:=λz=>h1 (decide_eq_true z);show#[_,ys,rfl,sm,hDx,by rw[hy,KI he,if_neg h1];rfl,by omega]
 rintro σ H' ⟨v1,ys,rfl,sm,hDx,hy,hyi⟩;rw[DS,lrs,Y6]at hy;cbv;show#[#[o,sm _ _ hA],?_];rw[hy];show k _ (QX (λb u n e=>sm _ _ (sA b u n e)) hd)
variable{vY:Yc}{uC:Yr}(vx:∅ 3 vY uC LQ (sV K mg))(wk:Binds K uC LQ [])(gG:aX K eR "reach" vY)
include eV vx wk nA bz bM gG in
theorem FK(F:bx K "sure" "Known.sure" rh f fd):∅ 4 f fd Kc (wc K mg):=by
 show F.oj jW ?_;rintro _ _ _ _ H _ _ _ hr _ _ _ ⟨p,a,rfl,h⟩;show#[_,(af (bh (i:=2) jW.nd rfl (Or.inl rfl) ax)
   (af (pO BP rfl (Oi (K:=K) rfl (pv 1)) (bR (i:=3) jW.nd rfl (Or.inl rfl))
   (af (cW (aW Pe (bw VL ax (eJ (cC.cons bz.cl gG vx wk cC.nil) (pv 0) hr (aa (pv 3) ae))) (bF Mp (by rfl) nA ags (aa (ao (K:=K) rfl (pv 0) rfl) ae)) (aP _)) (ai To) bC)
   (ai (bh (i:=2) jW.nd rfl (Or.inl rfl) (bw iV (pv 2) ax)))))
   (ai (aF (pv 2))))),?_]
 show xl3 ?_;intro _;obtain⟨d,rs,tb,xs,ns,S,hS,hn,ln,k⟩:=h;have hl:=hn.len;have m2:∀z:Int,UA 2 z:=λz=>.inl #[by decide,by decide];cbv;let jJ3:Nat->St->Hp->Prop:=λi σ H'=>∃v,A3 (σ=[Ya (.ref p),Ya (.ref a),Ya (.int i),v]) (aG H H') (∀k (hk:k<ns.length),k<i->¬ 2*JJ tb ns[k].2.1 ns[k].2.2<=tb.length);show US hS jJ3 #[Yb,rfl,aG.refl _,λ_ _ z=>absurd z (ah9 _)] (λi σ' H' _ z=>by obtain⟨_,_,z,_⟩:=z;show z) ?_ ?_
 .rintro i x σ H' hx ⟨v,rfl,sm,hi⟩;obtain⟨q,hq,t,rfl,ht⟩:=hn.get hx;obtain⟨hil,rfl⟩:=Yp.mp hq;have S':=af2 sm S;obtain⟨⟨C,dx,eC,hp⟩,hd,hrw,hhs,htd,hap⟩:=id S';rw[bM]at eC;cases eC;obtain⟨cl,n1⟩:=id bz;have lrs:rs.length=tb.length:=Y2 hrw;cbv;show Sd (λσ' H3=>A3 (σ'=[Ya (.ref p),Ya (.ref a),Ya (.int i),Ya (.ref t)]) (aG H H3) (¬ 2*JJ tb ns[i].2.1 ns[i].2.2<=tb.length)) ?_ λN rest=>?_
  .rintro σ' H3 ⟨rfl,sm3,hno⟩;cbv;show#[_,rfl,sm3,λk hk h=>?_];rcases agZ k i with z|z
   .show hi k hk z
   .obtain rfl:k=i:=by omega
    show hno
  .have mm:=m2 (JJ tb ns[i].2.1 ns[i].2.2);cbv;show#[p,t,rfl,d,rs,tb,_,_,_,S',sm _ _ ht,λH2 s2=>?_];have hd2:=s2 _ _ hd;have hp2:=s2 _ _ hp;cbv;rw[DS,lrs];show fy (λh1=>?_) λh1=>?_
   .have h1:2*((JJ tb ns[i].2.1 ns[i].2.2:Nat):Int)<=((tb.length:Nat):Int):=of_decide_eq_true h1;have h1:2*JJ tb ns[i].2.1 ns[i].2.2<=tb.length:=by omega
    cbv;have:=Nh (tb:=tb) (ns:=ns) hi (by omega) λ_=>h1;rw[←this];show k _ (sm.trans s2)
   .have h1:¬ 2*((JJ tb ns[i].2.1 ns[i].2.2:Nat):Int)<=((tb.length:Nat):Int):=λz=>h1 (decide_eq_true z);show rest _ _ #[rfl,sm.trans s2,by omega]
 rintro σ H' ⟨v,rfl,sm,hi⟩;cbv;rw[hl]at hi⊢;have:=Nh (tb:=tb) (ns:=ns) hi (Ym _) λz=>absurd z (Y7 _);rw[←this];show k _ sm
variable{Kf:Yc}{F6:Yr}(K0:∅ 3 Kf F6 Em (GH K))(K1:fH K mg "common" Kf F6 Em)
include eV K0 K1 hG bz bM in
theorem Fh(F:bx K "floor" "Known.floor" oU f fd):∅ 4 f fd ay (uL K mg):=by
 show F.oj EI ?_;rintro _ _ _ _ H _ _ _ hr _ _ _ ⟨p,rfl,h⟩;show#[_,(ai (aF (bg K0 K1 hr (aa (dh (NS rfl) (by rfl) hG aaK (aa (Ik ads aft ahu Nw (ao (K:=K) rfl (pv 0) rfl)) ae)) ae)))),?_];obtain⟨d,rs,tb,S,hne,h10,k⟩:=h;obtain⟨⟨C,dx,eC,hp⟩,hd,hrw,hhs,htd,hap⟩:=id S;rw[bM]at eC;cases eC;obtain⟨cl,n1⟩:=id bz;have lrs:rs.length=tb.length:=Y2 hrw;cbv;show#[d,_,rfl,rfl,hd,λv hv=>?_];have s1:=aE (o:=OL v d) hv;have g1:(upd H v (OL v d)) v=Ya (OL v d):=aj;generalize upd H v (OL v d)=H1 at s1 g1⊢;cbv;show#[v,d,_,rfl,g1,.inl (s1 _ _ hd),by rw[DS];omega,λl hl=>?_];have s2:=aE (o:=.lst ((dG rs).map (·.2))) hl;have g2:(upd H1 l (.lst ((dG rs).map (·.2)))) l=Ya (.lst ((dG rs).map (·.2))):=aj;generalize upd H1 l (.lst ((dG rs).map (·.2)))=H2 at s2 g2⊢;cbv;have hne':tb.map (·.2)≠[]:=λz=>hne (ahi.mp z);show#[l,_,_,rfl,bZ.of g2,WH (jf (λ_ _ q=>s2 _ _ (s1 _ _ q)) hrw),λm hm=>?_,by rw[Yj];show h10,λH3 q j s3 hq g3 tj _ mn=>?_]
 .obtain⟨e,he,rfl⟩:=YX.mp hm;show(htd e he).toCk
 .show k H3 q j (s1.trans (s2.trans s3)) (s1.free (s2.free hq)) g3 tj (mn hne')
include eV in
theorem BW(F:bx K "kind" "OwnCall.kind" mJ f fd):∅ 1 f fd ay (si K):=by
 show F.oj Cf ?_;rintro _ _ _ _ _ _ _ _ _ _ _ _ ⟨p,rfl,h⟩;show#[_,(ai (aF eW)),?_];cbv;show h
include eV in
theorem yd(F:bx K "kind" "HeardCall.kind" jH f fd):∅ 1 f fd ay (nD K):=by
 show F.oj zf ?_;rintro _ _ _ _ _ _ _ _ _ _ _ _ ⟨p,rfl,h⟩;show#[_,(ai (aF eW)),?_];cbv;show h
include eV in
theorem BQ(F:bx K "kind" "OneCall.kind" mw f fd):∅ 1 f fd ay (sy K):=by
 show F.oj Cd ?_;rintro _ _ _ _ _ _ _ _ _ _ _ _ ⟨p,rfl,h⟩;show#[_,(ai (aF eW)),?_];cbv;show h
variable{uw:Yc}{qu:Yc}{tO:Yc}{rZ:Yr}{oC:Yr}{sF:Yr}(uz:∅ 1 uw rZ ay (si K))(tG:Binds K rZ ay [])(qD:∅ 1 qu oC ay (nD K))(qm:Binds K oC ay [])(uB:∅ 1 tO sF ay (sy K))(sM:Binds K sF ay [])(eA:aX K bj "kind" qu)(fT:aX K bJ "kind" tO)(fO:aX K bK "kind" uw)
include eV uz tG qD qm uB sM av aB aC az aD aH eA fT fO in
theorem Iq(F:bx K "told" "Call.told" ux f fd):∅ 2 f fd ay (zb K mg):=by
 show F.oj HM ?_;rintro _ _ _ _ H _ _ _ hr _ _ _ ⟨v,rfl,h⟩;show#[_,(ai (aF (cY (aa (ao (K:=K) rfl (pv 0) rfl) (aa (ao (K:=K) rfl (pv 0) rfl) (aa (ao (K:=K) rfl (pv 0) rfl) (aa (aQ (cC.cons aC.cl fO uz tG (cC.cons av.cl eA qD qm (cC.cons aB.cl fT uB sM cC.nil))) (pv 0) hr) (aa (ao (K:=K) rfl (pv 0) rfl) (aa (ao (K:=K) rfl (pv 0) rfl) ae))))))))),?_];obtain⟨x,⟨p,C,dx,t,xs,rfl,hk,hT,hp,ht,hx,hc⟩,kk⟩:=h;obtain⟨kd,n,c,k,w,cs⟩:=x;have hk:KdC mg kd C:=hk;have hp:H p=Ya (.ins C dx (z5 (.int n) (.int c) (.int k) (.int w) (.ref t))):=hp;have hx:qP H xs cs:=hx;obtain⟨cl,n1,n2,n3,n4,n5⟩:=id hT;rcases hk with⟨rfl,e⟩|⟨rfl,e⟩|⟨rfl,e⟩
 .rw[aH]at e;cases e;cbv;show#[p,rfl,?_];cbv;intro u H1 hu1 s1 g1;show kk H1 u s1 hu1 #[u,t,xs,rfl,g1,s1 _ _ ht,hx.mono (pT.same s1)]
 .rw[az]at e;cases e;cbv;show#[p,rfl,?_];cbv;intro u H1 hu1 s1 g1;show kk H1 u s1 hu1 #[u,t,xs,rfl,g1,s1 _ _ ht,hx.mono (pT.same s1)]
 .rw[aD]at e;cases e;cbv;show#[p,rfl,?_];cbv;intro u H1 hu1 s1 g1;show kk H1 u s1 hu1 #[u,t,xs,rfl,g1,s1 _ _ ht,hx.mono (pT.same s1)]
variable(gH:∅ 1 gw iC ay (iF K))(iM:∅ 1 gQ f7 ay (f6 K))
include eV gH bT iM cL av aB aC az aD aH aT bf bc in
theorem Qx(F:bx K "why_of" "why_of" Ek f fd):∅ 2 f fd uS (G8 K mg):=by
 show F.oj Ro ?_;rintro _ _ _ _ H _ Q _ hr _ _ _ ⟨v,rfl,h⟩;show#[_,(ai (aF (j6 (cK K rfl (aQ (cC.cons aC.cl bc gH bT (cC.cons av.cl aT gH bT (cC.cons aB.cl bf iM cL cC.nil))) (pv 0) hr)) eW eW))),?_];obtain⟨x,⟨p,C,dx,t,xs,rfl,hk,hT,hp,ht,hpx,hcs⟩,kk⟩:=h;obtain⟨kd,n,c,k,w,cs⟩:=x;have hk:KdC mg kd C:=hk;have hp:H p=Ya (.ins C dx (z5 (.int n) (.int c) (.int k) (.int w) (.ref t))):=hp;have kk:Q (.str (if kd="one"then "sure"else "ready")) H:=kk;rcases hk with⟨rfl,e⟩|⟨rfl,e⟩|⟨rfl,e⟩
 .rw[aH]at e;cases e;rw[if_neg (by decide +kernel)]at kk;cbv;show#[p,rfl,?_];cbv;show kk
 .rw[az]at e;cases e;rw[if_neg (by decide +kernel)]at kk;cbv;show#[p,rfl,?_];cbv;show kk
 .rw[aD]at e;cases e;rw[if_pos rfl]at kk;cbv;show#[p,rfl,?_];cbv;show kk
include eV lu iK ke av aB aC az aD aH in
theorem Mw(F:bx K "by_rank" "by_rank" AN f fd):∅ 4 f fd ["calls"] (EU K mg):=by
 show F.oj MT ?_;rintro _ _ _ _ _ _ _ _ hr _ _ _ ⟨a,rfl,h⟩;show#[_,(ai (aF (LZ (K:=K) rfl (aa (pv 0) ae) (by rfl) ke lu iK.mg iK.bd (by rfl) hr))),?_];obtain⟨ws,cs,hS,hc,hl,kk⟩:=h;have lw:ws.length=cs.length:=Y2 hc;cbv;show#[a,ws,cs.map λx=>[x.c,x.k],rfl,hS,hl,by rw[Yj];show lw,λk hk=>?_,λi v k H3 Q' hv hk s3 hq=>?_,λD ws' H' hD pm od s' g'=>?_]
 .obtain⟨x,_,rfl⟩:=YX.mp hk;intro z;cases z
 .obtain⟨x,hx,cx⟩:=jF hc hv;rw[YJ,hx]at hk;cases hk;show#[v,rfl,x,cx.up (.same s3),λH4 t s4 _ g4=>hq H4 t s4 (c8.of g4)]
 .show kk H' D ws' s' hD pm od g'
include eV rE qU Hi in
theorem Th(F:bx K "least" "least" Il f fd):∅ 4 f fd vp (K7 K):=by
 show F.oj TN ?_;rintro _ _ _ _ _ _ _ _ hr _ _ _ ⟨n,rfl,h⟩;show#[_,(ai (aF (RJ (Ql rfl) (by rfl) Hi ahY (aa (bg rE qU hr (aa (pv 0) ae)) ae) (Xi cE acB)))),?_];obtain⟨h0,h1,kk⟩:=h;cbv;show adT ?_;cbv;show#[n,rfl,h0,h1,λH1 l hl s1 g1=>?_];cbv;show#[l,GB.hl n,_,rfl,rfl,bZ.of g1,λe=>?_,λb hb hm=>?_]
 .have:=kk H1 s1;unfold FV at this;rw[e]at this;show this
 .have:=kk H1 s1;unfold FV at this;cases e:GB.hl n with
  |nil=>rw[e]at hb;cases hb
  |cons a r=>
   rw[e]at this;have q1:=GB.T9 e b hb;have q2:=hm a (by rw[e];show Yy);have:b=a:=by omega
   subst this;assumption
variable{qy:Yc}{oa:Yr}(jC:∅ 4 qy oa vB (nv K))(jw:Binds K oa vB [])(va:Mk K eR qy)
include eV jC jw bz bM va in
theorem AA(F:bx K "__init__" "Page.__init__" kj f fd):∅ 6 f fd KS (qw K mg):=by
 show F.oj Ag ?_;rintro _ A _ s H _ _ _ hr _ _ _ ⟨p,me,nu,ha,ro,rfl,h⟩;show#[_,(af (aR (K:=K) rfl (pv 0) (pv 1) rfl)
   (af (aR (K:=K) rfl (pv 0) (pv 2) rfl)
   (af (aR (K:=K) rfl (pv 0) (pv 3) rfl)
   (af (aR (K:=K) rfl (pv 0) (pv 4) rfl)
   (af (aR (K:=K) rfl (pv 0) ax rfl)
   (af (aR (K:=K) rfl (pv 0) mT rfl)
   (af (aR (K:=K) rfl (pv 0) (bS ae) rfl)
   (af (aR (K:=K) rfl (pv 0) UW rfl)
   (af (aR (K:=K) rfl (pv 0) (bS ae) rfl)
   (af (aR (K:=K) rfl (pv 0) (iA va jC hr rfl bM jw .nil rJ (aa (pv 3) ae)) rfl)
   (ai (aR (K:=K) rfl (pv 0) (iA va jC hr rfl bM jw .nil rJ (aa (pv 3) ae)) rfl)))))))))))),?_]
 show afN ?_;intro _ _ _ _ _ _ _ _ _;obtain⟨C,dx,mP,T,hp,h0,h1,m0,m1,kk⟩:=h;obtain⟨cl,n1,n2,n3,n4,n5,n6,n7,n8,n9,n10,n11⟩:=id T;cbv;intro H1 b1 g1;cbv;intro H2 b2 g2;cbv;intro H3 b3 g3;cbv;intro H4 b4 g4;cbv;intro H5 b5 g5;have k5:∀b o,H b=Ya o->b≠p->H5 b=Ya o:=λb o e n=>b5.at n (b4.at n (b3.at n (b2.at n (b1.at n e))));cbv;intro d Aq1 hd s1 gd;have g5':=s1 _ _ g5;cbv;intro H6 b6 g6;cbv;intro t Aq2 ht s2 gt;have g6':=s2 _ _ g6;cbv;intro H7 b7 g7;cbv;intro k hk;have s3:=aE (o:=.dT []) hk;have gk:(upd H7 k (.dT [])) k=Ya (.dT []):=aj;generalize upd H7 k (.dT [])=Aq3 at s3 gk⊢;have g7':=s3 _ _ g7;cbv;intro H8 b8 g8;cbv;intro o Aq4 ho s4 go;have g8':=s4 _ _ g8;cbv;intro H9 b9 g9;have st:∀{A B:Hp},Om p A B->∀b u,A b=Ya u->b≠p->B b=Ya u:=λs b u e n=>s.at n e;have k9:∀b u,H b=Ya u->b≠p->H9 b=Ya u:=λb u e n=>b9.at n (s4 _ _ (b8.at n (s3 _ _ (b7.at n (s2 _ _ (b6.at n (s1 _ _ (k5 b u e n))))))));have np:∀{a:Yc} {A:Hp} {u:HO},A p=Ya u->A a=Yb->a≠p:=λe n z=>by rw[z]at n;rw[n]at e;cases e
 have ndp:=np g5 hd;have ntp:=np g6 ht;have nkp:=np g7 hk;have nop:=np g8 ho;have gd9:H9 d=Ya (.dK []):=b9.at ndp (s4 _ _ (b8.at ndp (s3 _ _ (b7.at ndp (s2 _ _ (b6.at ndp gd))))));have gt9:H9 t=Ya (.lst []):=b9.at ntp (s4 _ _ (b8.at ntp (s3 _ _ (b7.at ntp gt))));have gk9:H9 k=Ya (.dT []):=b9.at nkp (s4 _ _ (b8.at nkp gk));have go9:H9 o=Ya (.lst []):=b9.at nop go;have back:∀{a:Yc},a≠p->H9 a=Yb->H a=none:=fun{a} n e=>by
  cases z:H a with
  |none=>rfl
  |some u=>rw[k9 a u z n]at e;cases e
 have fr5:∀{a:Yc},a≠p->H5 a=Yb->H a=none:=fun{a} n e=>by
  cases z:H a with
  |none=>rfl
  |some u=>rw[k5 a u z n]at e;cases e
 have fd:=fr5 ndp hd;have k6:∀b u,H b=Ya u->b≠p->H6 b=Ya u:=λb u e n=>b6.at n (s1 _ _ (k5 b u e n));have k7:∀b u,H b=Ya u->b≠p->H7 b=Ya u:=λb u e n=>b7.at n (s2 _ _ (k6 b u e n));have k8:∀b u,H b=Ya u->b≠p->H8 b=Ya u:=λb u e n=>b8.at n (s3 _ _ (k7 b u e n));have fr:∀{a:Yc} {A:Hp},(∀b u,H b=Ya u->b≠p->A b=Ya u)->a≠p->A a=Yb->H a=none:=fun{a A} kA n e=>by
  cases z:H a with
  |none=>rfl
  |some u=>rw[kA a u z n]at e;cases e
 have ft:=fr k6 ntp ht;have fk:=fr k7 nkp hk;have fo:=fr k8 nop ho;cbv;intro q1 e1 Aq5 hq1 s5 gq1;have g9':=s5 _ _ g9;show#[q1,ha,rfl,_,e1,bz,gq1,h0,h1,λAq6 da ra k6' gq gda hra apa fda fra=>#[rfl,?_]];have nq1:q1≠p:=np g9 hq1;have g9'':=k6' _ _ g9' (Ne.symm nq1);cbv;intro H10 b10 g10;have k10:∀b u,H9 b=Ya u->b≠p->b≠q1->H10 b=Ya u:=λb u e n1 n2=>b10.at n1 (k6' _ _ (s5 _ _ e) n2);cbv;intro q2 e2 Aq7 hq2 s7 gq2;have g10':=s7 _ _ g10;show#[q2,ha,rfl,_,e2,bz,gq2,h0,h1,λAq8 db rb k8' gq' gdb hrb apb fdb frb'=>#[rfl,?_]];have nq2:q2≠p:=np g10 hq2;have g10'':=k8' _ _ g10' (Ne.symm nq2);cbv;intro H11 b11 g11;rw[WI]at g11;have k11:∀b u,H10 b=Ya u->b≠p->b≠q2->H11 b=Ya u:=λb u e n1 n2=>b11.at n1 (k8' _ _ (s7 _ _ e) n2);have nn1:∀{a u},H9 a=Ya u->a≠q1:=λe z=>by rw[z,hq1]at e;cases e
 have nn2:∀{a u},H10 a=Ya u->a≠q2:=λe z=>by rw[z,hq2]at e;cases e
 have up:∀{a u},H9 a=Ya u->a≠p->H11 a=Ya u:=fun{a u} e n=>by
  have e10:=k10 _ _ e n (nn1 e);show k11 _ _ e10 n (nn2 e10)
 have nda:da≠p:=λz=>by rw[z,g9']at fda;cases fda
 have ndb:db≠p:=λz=>by rw[z,g10']at fdb;cases fdb
 have gq10:H10 q1=Ya (.ins _ _ [("learnt",.ref da)]):=b10.at nq1 gq;have gq11:=k11 _ _ gq10 nq1 (nn2 gq10);have gda10:H10 da=Ya (.dK (dG ra)):=b10.at nda gda;have gda11:=k11 _ _ gda10 nda (nn2 gda10);have rowk:∀{A B:Hp} {rs:List (Int×V)} {tb:List (Int×List (Int×Int))},wQ A rs tb->(∀r m,A r=Ya (.dK (dI m))->B r=Ya (.dK (dI m)))->wQ B rs tb:=λh k=>jf k h;have hra10:wQ H10 ra _:=jf (λr m e=>b10.at (λz=>by rw[z,g9'']at e;cases e) e) hra;have hra11:wQ H11 ra _:=jf (λr m e=>k11 _ _ e (λz=>by rw[z,g10]at e;cases e) (nn2 e)) hra10;have hrb11:wQ H11 rb _:=jf (λr m e=>b11.at (λz=>by rw[z,g10'']at e;cases e) e) hrb;have gdb11:H11 db=Ya (.dK (dG rb)):=b11.at ndb gdb;have gqb11:=b11.at nq2 gq';have hks:(((GB.hl ha).map λh=>(h,([]:List (Int×Int)))).map (·.1))=GB.hl ha:=by
  rw[adk];show ajs _
 have td0:∀e∈((GB.hl ha).map λh=>(h,([]:List (Int×Int)))),Td e.2:=λe he=>by
  obtain⟨h,_,rfl⟩:=YX.mp he;show Td.nil
 have kA:xG K mg H11 q1 da ra ((GB.hl ha).map λh=>(h,[])):=#[#[_,_,bM,gq11],gda11,hra11,by rw[hks];show S4 ha,td0,apa];have kB:xG K mg H11 q2 db rb ((GB.hl ha).map λh=>(h,[])):=#[#[_,_,bM,gqb11],gdb11,hrb11,by rw[hks];show S4 ha,td0,apb];have A5n:∀{a:Yc},Aq5 a=Yb->H9 a=none:=λe=>s5.free e;have A7n:∀{a:Yc},Aq7 a=Yb->H10 a=none:=λe=>s7.free e;have h10n:∀{a:Yc},a≠p->H10 a=Yb->H a=none:=fun{a} n e=>by
  cases z:H a with
  |none=>rfl
  |some u=>
   have e9:=k9 a u z n;rw[k10 _ _ e9 n (nn1 e9)]at e;cases e
 show kk H11 #[d,t,k,o,q1,da,q2,db,ra,rb] (λb u e n=>up (k9 b u e n) n) #[#[C,dx,mP,T,g11],up gd9 ndp,Td.nil,up gt9 ntp,(λq hq=>nomatch hq),up gk9 nkp,(λq hq=>nomatch hq),.nil,(λq hq=>nomatch hq),#[[],up go9 nop,.nil],kA,kB,?_,#[?_,?_,?_],λq hq=>?_,#[m0,m1],#[h0,h1]] λa ha=>?_
 .intro z;have z:t=o:=z;have:H8 o=Ya (.lst []):=by rw[←z];show b8.at ntp (s3 _ _ (b7.at ntp gt))
  rw[ho]at this;cases this
 .intro z;have z:d=da:=z;rw[←z,s5 _ _ gd9]at fda;cases fda
 .intro z;have z:d=db:=z;rw[←z,s7 _ _ (k10 _ _ gd9 ndp (nn1 gd9))]at fdb;cases fdb
 .intro z;have z:da=db:=z;rw[←z,s7 _ _ gda10]at fdb;cases fdb
 .rcases YV.mp hq with z|z
  .show#[λw=>?_,apa q z,λw=>?_]
   .have:=fra q z _ w;rw[s5 _ _ gd9]at this;cases this
   .obtain⟨i,hi⟩:=jJ z;obtain⟨_,r,_,_,e2',e3⟩:=rA hra10 hi;rw[w]at e2';cases e2';rw[s7 _ _ e3]at fdb;cases fdb
  .show#[λw=>?_,λw=>?_,apb q z]
   .have:=frb' q z _ w;rw[s7 _ _ (k10 _ _ gd9 ndp (nn1 gd9))]at this;cases this
   .have:=frb' q z _ w;rw[s7 _ _ gda10]at this;cases this
 .rcases YV.mp ha with z|z
  .simp only[Yq,YF,or_false]at z;rcases z with rfl|rfl|rfl|rfl|rfl|rfl|rfl|rfl|rfl
   .show .inl rfl
   .show .inr fd
   .show .inr ft
   .show .inr fk
   .show .inr fo
   .show .inr (back nq1 hq1)
   .show .inr (back nda (A5n fda))
   .show .inr (h10n nq2 hq2)
   .show .inr (h10n ndb (A7n fdb))
  .rcases YV.mp z with z|z
   .obtain⟨q,hq,e⟩:=gi.mp z;have n:=fra q hq _ e;show .inr (back (λw=>by rw[w,g9']at n;cases n) (A5n n))
   .obtain⟨q,hq,e⟩:=gi.mp z;have n:=frb' q hq _ e;show .inr (h10n (λw=>by rw[w,g10']at n;cases n) (A7n n))
include eV in
theorem AG(F:bx K "__init__" "Held.__init__" kz f fd):∅ 1 f fd LW (qG K):=by
 show F.oj Au ?_;rintro _ _ _ _ _ _ _ _ _ _ _ _ ⟨p,a,b,rfl,h⟩;show#[_,(af (PZ (K:=K) rfl (pv 0) (pv 1) rfl)
   (ai (PZ (K:=K) rfl (pv 0) (pv 2) rfl))),?_]
 obtain⟨C,xa,y1,y2,hp,kk⟩:=h;cbv;show VO ?_;cbv;show#[p,C,rfl,xa,y1,.inl #[hp,λdx hd nd=>?_]];cbv;show VO ?_;cbv;show#[p,C,rfl,xa,y2,.inr #[dx,_,aj,by rw[ak nd,aj],by change(1:Nat)<1000;decide,?_]];show kk _ dx (λb o e n=>?_) (by rw[ak (Ne.symm nd),aj]) nd (by rw[aj];kernel_rfl);have nb:b≠dx:=λz=>by rw[z,hd]at e;cases e
 rw[ak nb,ak n,ak nb];show e
variable{wG:Yc}{rQ:Yc}{dC:Yc}{bL:Yc}{uV:Yr}{qL:Yr}(jV:∅ 4 wG uV ay (uL K mg))(jQ:Binds K uV ay [])(sf:∅ 3 rQ qL LW (qG K))(rL:Binds K qL LW [])(bD:GN K dC)(bH:mg "Page"=Ya (.ref dC))(de:aX K eR "floor" wG)(qV:mg "Held"=Ya (.ref bL))(CC:XiF K bL rQ [.type "ValueError",.type "Exception",.type "BaseException",.type "object"] "ValueError.__new__")(ny:M9 K bL)(Cs:∃N up newId,sR K bL N up newId/\up.contains (.type "BaseException")=true)(eE:YR K (.ref bL) "many"=Ya Yb)(eF:YR K (.ref bL) "room"=Ya Yb)
include eV jX cu jV jQ sf rL bz bD bM bH de qV CC ny Cs eE eF in
theorem xB(F:bx K "check_room" "Page.check_room" iZ f fd):aw P w K mg base (lH P w) 5 f fd ay (mN K mg):=by
 show F.okX lN (λvs H Q E h=>?_) (λcdv A outer s H vs Q E hr h=>?_)
 .obtain⟨p,rfl,_⟩:=h;rfl
 obtain⟨p,rfl,h⟩:=h;have hu64:=hr.units;have hu0:=hr.units0;have hu:=tH hr;show#[_,(af (bh (i:=1) lN.nd rfl (Or.inl rfl) (bw NF (ao (K:=K) rfl (pv 0) rfl) (bg jX cu hr (aa (aQ (cC.cons bz.cl de jV jQ cC.nil) (ao (K:=K) rfl (pv 0) rfl) hr) (aa (ao (K:=K) rfl (pv 0) rfl) ae)))))
   (ai (cW (aW K2 (pv 1) (ao (K:=K) rfl (pv 0) rfl) (aP _)) (ai (Q5 (Tq afg CC sf hr (by rfl) qV rL (aa (pv 1) (aa (ao (K:=K) rfl (pv 0) rfl) ae))))) bC))),?_]
 obtain⟨S,x,PA,hne,h10,k1,k2⟩:=h;obtain⟨C,dx,mP,T,hp⟩:=PA.ob;obtain⟨cl,n1,n2,n3,n4,n5,n6,n7,n8,n9,n10,n11⟩:=id T;obtain⟨⟨C1,dx1,e1,h1⟩,_⟩:=id PA.ta;rw[bM]at e1;cases e1;have tK:=bz.cl;have nL:=bz.n1;cbv;show#[x.ta,rfl,x.da,x.ra,S.ta,PA.ta,hne,h10,λH1 q j s1 hq g1 tj mn=>?_];have hp1:=s1 _ _ hp;cbv;show#[q,j,S.me,rfl,.inl g1,?_];cbv;show fy (λz=>?_) λz=>?_
 .have z:S.ro<=S.ma-ct j S.me:=of_decide_eq_true z;cbv;show Ul ?_;show Xu ?_;cbv;show#[by change(2:Nat)<=Yu;decide,λea he=>?_];show#[ea,_,_,rfl,_,ny,eE,eF,aj,λH2 d2 k2' g2 nd g3=>#[rfl,?_]];have s2:aG H (upd (VX H2 ea) ea (xD ea bL (Ya d2))):=λb o e=>by
   have nb:b≠ea:=λw=>by rw[←w,s1 _ _ e]at he;cases he
   rw[ak nb,DV nb];show k2' b o (by rw[ak nb];show s1 _ _ e) nb
  show#[ea,_,_,rfl,g2,Cs,s1.free he,k2 _ j ea _ s2 #[tj,mn] (by omega) qV (s1.free he) #[d2,aj,by rw[ak nd,DV nd];show g3]]
 .have z:¬ S.ro<=S.ma-ct j S.me:=λw=>z (decide_eq_true w);show k1 _ j s1 #[tj,mn] (by omega)
variable(i9:∅ 1 iL lE ay (lj K))
include eV i9 cM av aB aC bD az aD aH bH bE bP bN in
theorem Im(F:bx K "keep" "Page.keep" tW f fd):∅ 2 f fd wA (yh K mg):=by
 show F.oj Jo ?_;rintro _ _ _ _ H _ Q _ hr _ _ hu ⟨p,v,rfl,h⟩;show#[_,(ai (CG hu (ao (K:=K) rfl (pv 0) rfl) (aQ (cC.cons aC.cl bN i9 cM (cC.cons av.cl bE i9 cM (cC.cons aB.cl bP i9 cM cC.nil))) (pv 1) hr) (pv 1) rfl)),?_];obtain⟨S,x,c,PA,hc,hn,c0,c1,hl,kk⟩:=h;obtain⟨C,dx,mP,T,hp⟩:=PA.ob;obtain⟨cl,n1,n2,n3,n4,n5,n6,n7,n8,n9,n10,n11⟩:=id T;have gk:=PA.kp;obtain⟨pc,Cc,dxc,t,xs,rfl,hk,hT,hpc,ht,hpx,hcs⟩:=id hc;have tail:∀H1 tn,aG H H1->H1 tn=Ya (.tup [.int c.n,.int c.c,.int c.k])->∃a H4,V.ref x.k=.ref a/\HE H1 a (.ref tn) (.ref pc) H4/\Q .non H4:=λH1 tn s1 g1=>by
  have P1:=PA.same s1;show#[x.k,_,rfl,HE.t (k:=IW c) P1.kp g1 (aN (by rw[Yj];omega)),?_];rw[PD (by rw[adk];show hn)];have o2:Off [x.k] H1 (upd H1 x.k (.dT (S.kp.map Mm++[(IW c,.ref pc)]))):=λb u e nb=>by rw[ak (λz=>nb (Yo.mpr z))];show e
  have kf:qO H1 _:=o2.kpf1 P1.kp trivial;show kk _ (λb u e nb=>o2 b u (s1 _ _ e) nb) (P1.setk o2 (by rw[aj,YD];rfl) (λq hq=>?_) ?_ λq hq=>?_)
  .rcases YV.mp hq with z|z
   .show(P1.kc q z).kpf kf
   .rw[Yo.mp z];show(hc.up (.same s1)).kpf kf
  .rw[YD,aec];show#[PA.kn,by simp,λa ha b hb z=>?_];have:b=IW c:=by simpa using hb
   rw[z,this]at ha;show hn ha
  .rcases YV.mp hq with z|z
   .show PA.kr q z
   .rw[Yo.mp z];show#[c0,c1]
 cbv;rcases hk with⟨_,e⟩|⟨_,e⟩|⟨_,e⟩
 .rw[aH]at e;cases e;cbv;show#[pc,rfl,_,dxc,_,_,_,_,_,hT,hpc,λH1 tn s1 _ g1=>tail H1 tn s1 g1]
 .rw[az]at e;cases e;cbv;show#[pc,rfl,_,dxc,_,_,_,_,_,hT,hpc,λH1 tn s1 _ g1=>tail H1 tn s1 g1]
 .rw[aD]at e;cases e;cbv;show#[pc,rfl,_,dxc,_,_,_,_,_,hT,hpc,λH1 tn s1 _ g1=>tail H1 tn s1 g1]
variable{Gz:Yc}{E1:Yr}(G0:∅ 4 Gz E1 ["calls"] (EU K mg))(F1:fH K mg "by_rank" Gz E1 ["calls"])
include eV G0 F1 hG av aB aC bD az aD aH bH in
theorem w8(F:bx K "kept_calls" "Page.kept_calls" jm f fd):∅ 5 f fd ay (mV K mg):=by
 show F.oj xH ?_;rintro _ _ _ _ H _ _ _ hr _ _ _ ⟨p,rfl,h⟩;show#[_,(ai (aF (bg G0 F1 hr (aa (dh (Lw rfl) (by rfl) hG aaK (aa (Ik ads aft ahu SQ (ao (K:=K) rfl (pv 0) rfl)) ae)) ae)))),?_];obtain⟨S,x,PA,hl,kk⟩:=h;obtain⟨C,dx,mP,T,hp⟩:=PA.ob;obtain⟨cl,n1,n2,n3,n4,n5,n6,n7,n8,n9,n10,n11⟩:=id T;have gk:=PA.kp;cbv;show#[.inr (.inr (.inl #[rfl,.inr #[_,gk]])),x.k,_,rfl,rfl,gk,λv hv=>?_];have s1:=aE (o:=OL v x.k) hv;have g1:(upd H v (OL v x.k)) v=Ya (OL v x.k):=aj;generalize upd H v (OL v x.k)=H1 at s1 g1⊢;cbv;show#[v,x.k,_,rfl,g1,.inl (s1 _ _ gk),by rw[Yj];omega,λl hl'=>?_];have s2:=aE (o:=.lst ((S.kp.map Mm).map (·.2))) hl';have g2:(upd H1 l (.lst ((S.kp.map Mm).map (·.2)))) l=Ya (.lst ((S.kp.map Mm).map (·.2))):=aj;generalize upd H1 l (.lst ((S.kp.map Mm).map (·.2)))=H2 at s2 g2⊢;rw[adk]at g2;have P2:=PA.same (s1.trans s2);have ck:=MC P2.kc;cbv;show#[l,rfl,S.kp.map (·.1),S.kp.map (·.2),bZ.of g2,ck,by rw[Yj];show hl,λH3 D ws' s3 hD pm od g3=>?_];obtain⟨zs,pz,ez⟩:=QB pm;rw[←ez]at od g3;rw[adk]at od;show kk H3 D zs (s1.trans (s2.trans s3)) (s1.free (s2.free hD)) pz od g3
include eV av aB aC bD az aD aH bH in
theorem Hx(F:bx K "take" "Page.take" um f fd):∅ 1 f fd wA (zO K mg):=by
 show F.oj Jn ?_;rintro _ _ _ _ H _ _ _ _ _ _ hu ⟨p,v,rfl,h⟩;show#[_,(af (CG hu (ao (K:=K) rfl (pv 0) rfl) (ao (K:=K) rfl (pv 1) rfl) (ao (K:=K) rfl (pv 1) rfl) rfl)
   (ai (bV (xP (K:=K) rfl (KD adv ahv ahw ve (ao (K:=K) rfl (pv 0) rfl) (aa (pv 1) ae)))))),?_]
 obtain⟨S,x,c,PA,hc,c0,c1,ck,hl,kk⟩:=h;obtain⟨C,dx,mP,T,hp⟩:=PA.ob;obtain⟨cl,n1,n2,n3,n4,n5,n6,n7,n8,n9,n10,n11⟩:=id T;obtain⟨pc,Cc,dxc,t,xs,rfl,hk,hT,hpc,ht,hpx,hcs⟩:=id hc;obtain⟨cl',m1,m2,m3,m4,m5⟩:=id hT;have gd:=PA.dn;have nd:=PA.td.nd;have ld:=PA.td.toCk.len;have gt:=PA.tk;have ls:(S.tk.map (·.1)).length<Yu:=aN (by rw[Yj];omega);cbv;intro H1 b1 g1;have hp1:=b1.of gd hp (by intro z;cases z);have gt1:=b1.of gd gt (by intro z;cases z);cbv;intro H2 b2 g2;have ndt:x.d≠x.t:=cG gd gt (by intro z;cases z);have o2:Off [x.d,x.t] H H2:=λb u e nb=>b2.at (λz=>nb (by rw[z];simp)) (b1.at (λz=>nb (by rw[z];simp)) e);have kf:qO H H2:=rF o2 λb hb=>by
  simp only[Yq,YF,or_false]at hb;rcases hb with rfl|rfl
  .show#[_,gd,trivial]
  .show#[_,gt,trivial]
 show kk H2 o2 (PA.setdt o2 (b2.at ndt g1) (VU PA.td c0 c1 ck) (by rw[g2,YD];rfl) λq hq=>?_);rcases YV.mp hq with z|z
 .show(PA.tc q z).kpf kf
 .rw[Yo.mp z];show hc.kpf kf
variable(qH:∅ 4 pM md RL (my K))
include eV qH fX jV jQ kL av bz aB aC bD az bM aD aH bH de in
theorem Fq(F:bx K "let_go" "Page.let_go" pE f fd):∅ 5 f fd ay (sJ K mg):=by
 show F.oj tL ?_;rintro _ A _ _ H _ _ _ hr hu64 _ hu ⟨p,rfl,h⟩;show#[_,(af (bh (i:=1) tL.nd rfl (Or.inr rfl) (aQ (cC.cons bz.cl de jV jQ cC.nil) (ao (K:=K) rfl (pv 0) rfl) hr))
   (ai (aR (K:=K) rfl (pv 0) (dh (AY rfl (af8 (ahg (by decide) _) hu64)) (by rfl) kL afc (aa (el ["floor","name","call"] [Ya 1,Yb,Yb] rfl rfl (by kernel_rfl) (RM (ao (K:=K) rfl (pv 0) rfl)) (λ_ _ _ _ _ nd=>IS (K:=K) (n:=2) rfl rfl (qK (bR (i:=1) nd rfl (Or.inl rfl)) (qK (bR (i:=2) nd rfl (Or.inl rfl)) HU))) (λ_ _ _ _ _=>(oz (oW (cK K rfl (bg qH fX hr (aa (pv 0) (aa (pv 1) ae))))))) (λ_ _ _ _ _=>(cY (aa (pv 1) (aa (pv 2) ae))))) ae)) rfl))),?_]
 obtain⟨S,x,PA,hne,h10,hl,kk⟩:=h;obtain⟨C,dx,mP,T,hp⟩:=PA.ob;obtain⟨cl,n1,n2,n3,n4,n5,n6,n7,n8,n9,n10,n11⟩:=id T;obtain⟨⟨C1,dx1,e1,h1⟩,_⟩:=id PA.ta;rw[bM]at e1;cases e1;have tK:=bz.cl;have nL:=bz.n1;cbv;show#[x.ta,rfl,x.da,x.ra,S.ta,PA.ta,hne,h10,λH1 fl j s1 pC g1 tj mn=>?_];have hp1:=s1 _ _ hp;have P1:=PA.same s1;have gk1:=P1.kp;cbv;show abz gk1 λo A hA sA=>?_;intro D hD;have nfl:fl≠x.k:=cG g1 gk1 (by intro z;cases z);show Lx (λi σ B=>∃v1 v2 ys,σ=[Ya (.ref fl),v1,v2]/\aG A B/\B D=Ya (.lst ys)/\ys.length<=i/\JA B ys ((FY j (S.kp.take i)).map Mm)) #[Yb,Yb,[],rfl,aE hD,aj,Ym _,.nil] ?_ ?_ ?_
 .rintro i σ B _ ⟨_,_,_,_,z,_⟩;show z _ _ hA
 .rintro i k v t b σ B B1 hkv ⟨v1,v2,ys,rfl,sB,gD,ly,pr⟩ ht s1' gt gb;obtain⟨q,hq,e⟩:∃q,S.kp[i]?=Ya q/\Mm q=(k,v):=by
   rw[YJ]at hkv;cases z:S.kp[i]? with
   |none=>rw[z]at hkv;cases hkv
   |some q=>rw[z]at hkv;show#[q,rfl,YM hkv]
  cases e;have hi:=(Yp.mp hq).1;have gb1:B1 b=Ya (.tup [.int q.2.n,.int q.2.c,.int q.2.k]):=s1' _ _ gb;have gf1:=s1' _ _ (sB _ _ (sA _ _ nfl g1));have gD1:=s1' _ _ gD;have st:c8 K B1 t [.ref b,q.1]:=c8.of gt;cbv;show#[fl,b,rfl,j,_,_,_,.inl gf1,c8.of gb1,?_];cbv;show fy (λz=>?_) λz=>?_
  .have z:¬ q.2.k<=ct j q.2.c:=by simpa using z
   cbv;intro u B2 hu s2 g2;have gD2:=s2 _ _ gD1;have kp:pT B2 (upd B2 D (.lst (ys++[V.ref u]))):=pT.lst gD2;show#[ys,gD2,aN (by omega),_,_,ys++[.ref u],rfl,λc o e=>?_,aj,by rw[Yz];show afX ly,?_]
   .rw[ak (au e hD)];show s2 _ _ (s1' _ _ (sB c o e))
   .have e1:FY j (S.kp.take (i+ 1))=FY j (S.kp.take i)++[q]:=by
     unfold FY;rw[bI hq,gf];congr 1;simp[z]
    rw[e1,YD];show GD (HS (λa xs e=>kp _ _ (s2 _ _ (s1' _ _ e))) pr) #[u,b,rfl,kp _ _ g2,kp _ _ (s2 _ _ gb1)]
  .have z:q.2.k<=ct j q.2.c:=by simpa using z
   have e1:FY j (S.kp.take (i+ 1))=FY j (S.kp.take i):=by
    unfold FY;rw[bI hq,gf];simp[z]
   show#[_,_,ys,rfl,sB.trans s1',gD1,ahJ ly,?_];rw[e1];show HS (λa xs e=>s1' _ _ e) pr
 rintro σ B ⟨v1,v2,ys,rfl,sB,gD,ly,pr⟩;rw[Yj,Y6]at pr;cbv;have nk:((FY j S.kp).map λq=>IW q.2).Nodup:=PA.kn.sublist (List.Sublist.map _ aik);have lk:=km (λq:V×fu=>!decide (q.2.k<=ct j q.2.c)) S.kp;show#[D,ys,_,rfl,gD,pr,by rw[Yj];unfold FY;omega,λk' hk'=>?_];have em:lP ((FY j S.kp).map Mm)=(FY j S.kp).map Mm:=Qs (by rw[adk];show nk);rw[em];have s3:=aE (o:=.dT ((FY j S.kp).map Mm)) hk';have g3:(upd B k' (.dT ((FY j S.kp).map Mm))) k'=Ya (.dT ((FY j S.kp).map Mm)):=aj;generalize upd B k' (.dT ((FY j S.kp).map Mm))=H3 at s3 g3⊢;have off3:Off [x.k] H H3:=λb u e nb=>s3 _ _ (sB _ _ (sA _ _ (λz=>nb (Yo.mpr z)) (s1 _ _ e)));have hp3:=off3 _ _ hp (QC hp PA.kp (by intro z;cases z));cbv;intro H4 b4 g4;rw[MM]at g4;have off4:Off [p,x.k] H H4:=λb u e nb=>b4.at (λz=>nb (by rw[z];simp)) (off3 b u e (λz=>nb (by rw[Yo.mp z];simp)));have fk:H k'=none:=s1.free (by
  cases z:H1 k' with
  |none=>rfl
  |some u=>
   by_cases w:k'=x.k
   .rw[w,sB _ _ hA]at hk';cases hk'
   .rw[sB _ _ (sA _ _ w z)]at hk';cases hk')
 have nkp:k'≠p:=λz=>by rw[z,hp]at fk;cases fk
 have nn4:∀a,H4 a=Yb->H a=none:=λa e=>by
  cases z:H a with
  |none=>rfl
  |some u=>
   by_cases w:a=p
   .rw[w,g4]at e;cases e
   .by_cases v:a=x.k
    .rw[v]at e w;rw[b4.at w (s3 _ _ (sB _ _ hA))]at e;cases e
    .rw[off4 a u z (by simp[w,v])]at e;cases e
 show kk H4 k' j off4 nn4 fk #[tj,mn] (PA.newk off4 #[C,dx,mP,T,g4] (b4.at nkp g3) nk λq hq=>(aab.mp hq).1)
variable{L9:Yc}{vF:Yc}{yG:Yc}{nQ:Yc}{J2:Yc}{Pd:Yc}{nO:Yc}{BA:Yc}{vQ:Yc}{G3:Yr}{tI:Yr}{vX:Yr}{yY:Yr}{Hh:Yr}{Jy:Yr}{lV:Yr}{yL:Yr}{uP:Yr}(CY:∅ 7 UP Nv ug (Ng K mg))(Kk:∅ 7 L9 G3 ug (F2 K mg))(Kp:fH K mg "placed" L9 G3 ug)(o8:∅ 7 vF tI KU (tV K mg))(pf:Binds K tI KU [])(zR:∅ 7 yG vX Kc (wc K mg))(zB:Binds K vX Kc [])(oE:∅ 7 nQ yY ay (zb K mg))(nM:Binds K yY ay [])(Kz:∅ 7 J2 Hh uS (G8 K mg))(J1:fH K mg "why_of" J2 Hh uS)(Oy:∅ 7 Pd Jy vp (K7 K))(Ov:fH K mg "least" Pd Jy vp)(oO:∅ 7 nO lV ay (mV K mg))(nE:Binds K lV ay [])(Be:∅ 7 BA yL wA (zO K mg))(AZ:Binds K yL wA [])(wK:∅ 7 vQ uP ay (sJ K mg))(v7:Binds K uP ay [])(eh:aX K bj "told" nQ)(eX:aX K eR "learn" vF)(hU:aX K eR "sure" yG)(fN:aX K bJ "told" nQ)(fL:aX K bK "told" nQ)(dQ:aX K dC "kept_calls" nO)(gV:aX K dC "let_go" vQ)(ja:aX K dC "take" BA)
include eV CY Ga Kk Kp o8 pf zR zB oE nM Kz J1 Oy Ov oO nE Be AZ wK v7 av bz aB aC bD az bM aD aH bH eh eX hU fN fL dQ gV ja in
theorem Jb(F:bx K "step" "Page.step" sS f fd):∅ 8 f fd ay (yf K mg):=by
 show F.oj jc ?_;rintro _ A _ _ H _ _ _ hr _ _ hu ⟨p,rfl,h⟩;show#[_,(af (bh (i:=1) jc.nd rfl (Or.inl rfl) (aQ (cC.cons bD.cl dQ oO nE cC.nil) (pv 0) hr))
   (af (cW (aW tJ (ao (K:=K) rfl (pv 0) rfl) (bg Oy Ov hr (aa (ao (K:=K) rfl (pv 0) rfl) ae)) (aP _)) (ai (aR (K:=K) rfl (pv 0) (fJ (dw (K:=K) rfl) (bg Kk Kp hr (aa (ao (K:=K) rfl (pv 0) rfl) (aa (pv 1) (aa (ao (K:=K) rfl (pv 0) rfl) ae)))) ax (λ_ _=>rfl)) rfl)) bC)
   (af (bV (eJ (cC.cons bz.cl eX o8 pf cC.nil) (ao (K:=K) rfl (pv 0) rfl) hr (aa (ao (K:=K) rfl (pv 0) rfl) (aa (fJ (dw (K:=K) rfl) (bg CY Ga hr (aa (ao (K:=K) rfl (pv 0) rfl) (aa (pv 1) (aa (ao (K:=K) rfl (pv 0) rfl) ae)))) ax (λ_ _=>rfl)) ae))))
   (af (bh (i:=2) jc.nd rfl (Or.inl rfl) (yE (Ew (K:=K) rfl) (ao (K:=K) rfl (pv 0) rfl) Cy (Cv (eJ (cC.cons bz.cl hU zR zB cC.nil) (ao (K:=K) rfl (pv 0) rfl) hr (aa (ao (K:=K) rfl (pv 0) rfl) ae)))))
   (af (bh (i:=3) jc.nd rfl (Or.inl rfl) (fJ (dw (K:=K) rfl) (bg CY Ga hr (aa (ao (K:=K) rfl (pv 0) rfl) (aa (pv 1) (aa (pv 2) ae)))) ax (λ_ _=>rfl)))
   (af (pO BP rfl (cJ (K:=K) rfl (pv 3)) (bR (i:=4) jc.nd rfl (Or.inl rfl))
   (ai (bV (eJ (cC.cons bD.cl ja Be AZ cC.nil) (pv 0) hr (aa (pv 4) ae)))))
   (af (bV (eJ (cC.cons bz.cl eX o8 pf cC.nil) (ao (K:=K) rfl (pv 0) rfl) hr (aa (ao (K:=K) rfl (pv 0) rfl) (aa (ao (K:=K) rfl (pv 0) rfl) ae))))
   (af (bV (aQ (cC.cons bD.cl gV wK v7 cC.nil) (pv 0) hr))
   (ai (aF (el ["call"] [Yb] rfl rfl (by kernel_rfl) (cJ (K:=K) rfl (pv 3)) (λ_ _ _ _ _ nd=>bR (i:=0) nd rfl (Or.inl rfl)) (λ_ _ _ _ _=>kY) (λ_ _ _ _ _=>(cY (aa (aQ (cC.cons aC.cl fL oE nM (cC.cons av.cl eh oE nM (cC.cons aB.cl fN oE nM cC.nil))) (pv 0) hr) (aa (bg Kz J1 hr (aa (pv 0) ae)) ae))))))))))))))),?_]
 obtain⟨S,x,PA,hne,h10,hl,lo,lt,hme,hnu,kk⟩:=h;obtain⟨C,dx,mP,T,hp⟩:=PA.ob;have eC:=mP;rw[bH]at eC;cases eC;obtain⟨cl,n1,n2,n3,n4,n5,n6,n7,n8,n9,n10,n11⟩:=id T;have tK:=bz.cl;have nL:=bz.n1;cbv;show#[p,rfl,S,x,PA,by omega,λH1 D zs s1 hD pz od g1=>?_];have P1:=PA.same s1;have hp1:=s1 _ _ hp;have zc:∀q∈zs,q∈S.kp:=λq hq=>pz.mem_iff.mp hq;have zl:zs.length<=60:=by rw[pz.length_eq];show hl
 have zr:Rk1 zs:=λq hq r hr=>ab6 hnu PA.kn q (zc q hq) r (zc r hr);have ez:(zs.map (·.1)).zip (zs.map (·.2))=zs:=by
  rw[amB];show ajs zs
 obtain⟨a0,ea⟩:∃a,FV S.ha=.int a:=by
  unfold FV;cases e:GB.hl S.ha with
  |nil=>rw[e]at hme;cases hme
  |cons a r=>show#[a,rfl]
 have zck:∀{A:Hp},(∀q∈zs,kh K mg A q.1 q.2)->J4 K mg A (zs.map (·.1)) (zs.map (·.2)):=λh=>MC h;have zrg:∀y∈zs.map (·.2),0<=y.c/\y.c<63:=λy hy=>by
  obtain⟨q,hq,rfl⟩:=YX.mp hy;show PA.kr q (zc q hq)
 have zl2:(zs.map (·.2)).length<=60:=by rw[Yj];show zl
 show Sd (λσ A=>∃od' o',σ=[Ya (.ref p),Ya (.ref D),Yb,Yb,Yb]/\Off [p] H1 A/\nR K mg A p {S with od:=od'} {x with o:=o'}/\(o'=x.o∨H o'=Yb)/\od'.length<=400/\(FV S.ha≠.int S.me->od'=S.od)/\(FV S.ha=.int S.me->∃rw0 m0,Pw (zs.map (·.1)) (zs.map (·.2)) S.dn S.od rw0 od' m0/\LaR zs m0 Yb)) ?_ λN rest=>?_
 .rintro σ A ⟨od',o',rfl,oA,PgB,fo,lo',od1,od2⟩;obtain⟨xs,ho,hn⟩:=PgB.od;obtain⟨C',dx',mP',_,hpA⟩:=PgB.ob;rw[bH]at mP';cases mP';have gdA:=PgB.dn;have gDA:A D=Ya (.lst (zs.map (·.1))):=oA _ _ g1 (λw=>by rw[Yo.mp w,hp1]at g1;cases g1);have fr1:∀{a},A a=Yb->H a=none:=fun{a} e=>by
   cases w:H a with
   |none=>rfl
   |some u=>
    by_cases v:a=p
    .rw[v,hpA]at e;cases e
    .rw[oA _ _ (s1 _ _ w) (λq=>v (Yo.mp q))]at e;cases e
  obtain⟨⟨Ck1,dk1,ek1,hk1⟩,_⟩:=id PgB.ab;rw[bM]at ek1;cases ek1;have zcA:∀q∈zs,kh K mg A q.1 q.2:=λq hq=>PgB.kc q (zc q hq);cbv;show#[x.d,D,o',rfl,S.dn,_,_,xs,od',.inl gdA,PA.td.toCk,bZ.of gDA,zck zcA,zl2,zrg,.inl (bZ.of ho),hn,λH2 t l r hs m0 rw1 last m1 s2 hl' hr gt gl gr tm1 hsl hsm tm0 ctm0 fw fin=>?_];have gts:c8 K H2 t [.ref l,.ref r]:=c8.of gt;have P2:=PgB.same s2;have rn1:Rn (zs.map (·.1)) (zs.map (·.2)) S.dn od' rw1 m1:=#[hs,m0,last,#[hsl,hsm],tm0,ctm0,fw,fin];cbv;show#[x.ab,S.me,r,rfl,x.db,x.rb,S.ab,m1,P2.ab,.inl gr,tm1.toCk,λH3 rb' ab' sm3 kn3 e1 e2 fr3=>?_];have P3:=P2.lrb sm3 kn3 fr3;have o3:Off [x.db] H2 H3:=λb u e n=>sm3 b u (λw=>n (Yo.mpr w)) e;have k3:qO H2 H3:=o3.kpf1 P2.ab.dc trivial;have lr1:LrR S.ab S.me m1 ab':=#[e1,e2];obtain⟨xs3,ho3,hn3⟩:=P3.od;obtain⟨C3,dx3,mP3,_,hp3⟩:=P3.ob;rw[bH]at mP3;cases mP3;obtain⟨⟨Ck2,dk2,ek2,hk2⟩,_⟩:=id P3.ab;rw[bM]at ek2;cases ek2;have gD3:H3 D=Ya (.lst (zs.map (·.1))):=o3 _ _ (s2 _ _ gDA) (QC (s2 _ _ gDA) P2.ab.dc (by intro w;cases w));have hS3:bZ K H3 o' xs3:=bZ.of ho3;cbv;show#[x.ab,o',rfl,x.db,rb',ab',xs3,od',P3.ab,.inl hS3,hn3,by omega,λH4 s4=>?_];have P4:=P3.same s4;obtain⟨C4,dx4,mP4,_,hp4⟩:=P4.ob;have hS4:bZ K H4 o' xs3:=s4.seq hS3;cbv;intro sp H5 hsp s5 gsp;have lx:=hn3.len;have lx':xs3.length=od'.length:=lx;have sl:=SX (tb:=ab') od';rw[Kh _ _ (by omega)]at gsp;have P5:=P4.same s5;obtain⟨C5,dx5,mP5,_,hp5⟩:=P5.ob;rw[bH]at mP5;cases mP5;have gd5:=P5.dn;have gD5:=s5 _ _ (s4 _ _ gD3);cbv;show#[x.d,D,sp,rfl,S.dn,_,_,_,od'.take (VZ ab' od'),.inl gd5,PA.td.toCk,bZ.of gD5,zck (λq hq=>P5.kc q (zc q hq)),zl2,zrg,.inl (bZ.of gsp),Ep _ (hn3.up (.same (s4.trans s5))),λH6 t2 l2 r2 hs2 m02 rw2 last2 m2 s6 hl2 hr2 gt2 gl2 gr2 tm2 hsl2 hsm2 tm02 ctm2 fw2 fin2=>?_];have rn2:Rn (zs.map (·.1)) (zs.map (·.2)) S.dn (od'.take (VZ ab' od')) rw2 m2:=#[hs2,m02,last2,#[hsl2,hsm2],tm02,ctm2,fw2,fin2];have gts2:c8 K H6 t2 [.ref l2,.ref r2]:=c8.of gt2;have P6:=P5.same s6;have rin:=adN rn2;have rlen:rw2.length<=60:=by
   have:=Mh rn2;have ml:=km (λq:fu=>decide (ct S.dn q.c<q.k)) (zs.map (·.2));unfold mz at this;omega
  have nl:∀{a u},H5 a=Ya u->l2≠a:=λe w=>by rw[w,e]at hl2;cases hl2
  cbv;let jJ4:Nat->St->Hp->Prop:=λi σ B=>∃v,σ=[Ya (.ref p),Ya (.ref D),Ya (.ref sp),Ya (.ref l2),v]/\Off [x.d,x.t] H6 B/\nR K mg B p {S with od:=od',ab:=ab',dn:=Wj S.dn (rw2.take i),tk:=S.tk++rw2.take i} {x with o:=o',rb:=rb'};show j0 (xs:=rw2.map (·.1)) jJ4 #[Yb,rfl,Off.refl _ _,by rw[List.take_zero,Y4];show P6] (λi σ B _ z=>?_) ?_ ?_
  .obtain⟨_,_,z,_⟩:=z;show bZ.of (z _ _ gl2 (λw=>by
    simp only[Yq,YF,or_false]at w;show w.elim (nl P5.dn) (nl P5.tk)))
  .rintro i y σ B hy ⟨v,rfl,oB,PB⟩;obtain⟨q,hq,rfl⟩:∃q,rw2[i]?=Ya q/\q.1=y:=by
    rw[YJ]at hy;cases w:rw2[i]? with
    |none=>rw[w]at hy;cases hy
    |some q=>rw[w]at hy;show#[q,rfl,YM hy]
   obtain⟨qz,qk⟩:=rin q (Y0 hq);have hi:=(Yp.mp hq).1;obtain⟨C7,dx7,mP7,_,hp7⟩:=PB.ob;rw[bH]at mP7;cases mP7;cbv;show#[p,q.1,rfl,_,_,q.2,PB,PB.kc q (zc q qz),(PA.kr q (zc q qz)).1,(PA.kr q (zc q qz)).2,qk,?_,λB2 o2 PB2=>?_]
   .change(S.tk++rw2.take i).length<=900;rw[Yz,CA];omega
   .cbv;show#[_,rfl,λb u e nb=>o2 b u (oB b u e nb) nb,?_];rw[bI hq,Vp,←aem];show PB2
  rintro σ B ⟨v,rfl,oB,PB⟩;rw[Yj,Y6]at PB;obtain⟨C7,dx7,mP7,_,hp7⟩:=PB.ob;rw[bH]at mP7;cases mP7;obtain⟨⟨Ck3,dk3,ek3,hk3⟩,_⟩:=id PB.ta;rw[bM]at ek3;cases ek3;have gdB:=PB.dn;cbv;show#[x.ta,S.me,x.d,rfl,x.da,x.ra,S.ta,Wj S.dn rw2,PB.ta,.inl gdB,PB.td.toCk,λH8 ra' ta' sm8 kn8 f1 f2 fr8=>?_];have P8:=PB.lra sm8 kn8 fr8;have lr2:LrR S.ta S.me (Wj S.dn rw2) ta':=#[f1,f2];have lta:ta'.length=S.ta.length:=by
   have:=congrArg amZ lr2.keys;rw[Yj,Yj]at this;show this
  obtain⟨C8,dx8,mP8,_,hp8⟩:=P8.ob;rw[bH]at mP8;cases mP8;cbv;show#[p,rfl,_,_,P8,?_,by change ta'.length<=10;omega,hl,λH9 k' j o9 nn9 fk fl9 P9=>?_]
  .intro w;have w:ta'=[]:=w;rw[w]at lta;show hne (ahE.mp lta.symm)
  have oB':∀b u,H5 b=Ya u->b≠x.d->b≠x.t->B b=Ya u:=λb u e n1 n2=>oB b u (s6 _ _ e) (λw=>by
   simp only[Yq,YF,or_false]at w;show w.elim n1 n2)
  have gl9:H9 l2=Ya (.lst (rw2.map (·.1))):=by
   have gB:B l2=Ya (.lst (rw2.map (·.1))):=oB _ _ gl2 (λw=>by
    simp only[Yq,YF,or_false]at w;show w.elim (nl P5.dn) (nl P5.tk))
   have g8:=sm8 _ _ (cG gB PB.ta.dc (by intro w;cases w)) gB;show o9 _ _ g8 (λw=>?_);simp only[Yq,YF,or_false]at w;rcases w with w|w
   .rw[w,hp8]at g8;cases g8
   .rw[w,P8.kp]at g8;cases g8
  have offA:∀b u,H b=Ya u->b∉x.ft p->H9 b=Ya u:=λb u e nb=>by
   have nb':=λh=>nb (jh.mpr h);have e1:=oA b u (s1 _ _ e) (λw=>nb' (.inl (Yo.mp w)));have e3:=sm3 b u (λw=>nb' (by simp[w])) (s2 _ _ e1);have e5:=s5 _ _ (s4 _ _ e3);have eB:=oB' b u e5 (λw=>nb' (by simp[w])) (λw=>nb' (by simp[w]));have e8:=sm8 b u (λw=>nb' (by simp[w])) eB;show o9 b u e8 (λw=>?_);simp only[Yq,YF,or_false]at w;rcases w with w|w
   .show nb' (.inl w)
   .show nb' (.inr (.inr (.inr (.inl w))))
  cbv;intro Eq9 hE9;have cA9:∀q∈rw2,kh K mg H9 q.1 q.2:=λq hq=>P9.tc q (YE _ hq);show dg (K:=K) (a:=l2) (xs:=rw2.map (·.1)) (λi σ B=>E2 λv ys=>A5 (σ=[v]) (aG H9 B) (B Eq9=Ya (.lst ys)) (ys.length=i) (UC B ys (rw2.take i))) #[Yb,[],rfl,aE hE9,aj,rfl,.nil] ?_ ?_ ?_
  .rintro i σ B _ ⟨_,_,_,z,_⟩;show bZ.of (z _ _ gl9)
  .rintro i y σ B hy ⟨v,ys,rfl,sB,gE,ly,tv⟩;obtain⟨q,hq,rfl⟩:∃q,rw2[i]?=Ya q/\q.1=y:=by
    rw[YJ]at hy;cases w:rw2[i]? with
    |none=>rw[w]at hy;cases hy
    |some q=>rw[w]at hy;show#[q,rfl,YM hy]
   have hi:=(Yp.mp hq).1;have cq:=(cA9 q (Y0 hq)).up (.same sB);obtain⟨qv,qx⟩:=q;have cq:kh K mg B qv qx:=cq;obtain⟨pc,Cc,dxc,tc,xsc,rfl,hkc,hTc,hpc,htc,hpx,hcs⟩:=id cq;have tail:∀B1 tt,aG B B1->NN B1 (.ref tt) qx->∀u B2,B1 u=Yb->aG B1 B2->B2 u=Ya (.tup [.ref tt,.str (Why qx)])->∃ys',B2 Eq9=Ya (.lst ys')/\ys'.length<Yu/\(E2 λv ys=>A5 ([Ya (V.ref pc)]=[v]) (aG H9 (upd B2 Eq9 (.lst (ys'++[.ref u])))) ((upd B2 Eq9 (.lst (ys'++[.ref u]))) Eq9=Ya (.lst ys)) (ys.length=i+ 1) (UC (upd B2 Eq9 (.lst (ys'++[.ref u]))) ys (rw2.take (i+ 1)))):=λB1 tt sB1 tl u B2 hu sB2 gu=>by
    have gE2:=sB2 _ _ (sB1 _ _ gE);have kp:pT B2 (upd B2 Eq9 (.lst (ys++[V.ref u]))):=pT.lst gE2;show#[ys,gE2,aN (by omega),_,ys++[.ref u],rfl,λc o e=>?_,aj,by rw[Yz,ly];rfl,?_]
    .rw[ak (au e hE9)];show sB2 _ _ (sB1 _ _ (sB c o e))
    .rw[bI hq];show(tv.up (λa xs e=>kp _ _ (sB2 _ _ (sB1 _ _ e)))).snoc #[u,tt,rfl,kp _ _ gu,tl.up (λa xs e=>kp _ _ (sB2 _ _ e))]
   change j8 _ _ _ _ _ (V.ref pc) _ _;rcases hkc with⟨_,e⟩|⟨_,e⟩|⟨_,e⟩
   .rw[aH]at e;cases e;cbv;show#[.ref pc,rfl,qx,cq,λB1 tt sB1 _ tl=>?_];cbv;show#[.ref pc,rfl,qx,cq.up (.same sB1),?_];cbv;intro u B2 hu sB2 gu;show tail B1 tt sB1 tl u B2 hu sB2 gu
   .rw[az]at e;cases e;cbv;show#[.ref pc,rfl,qx,cq,λB1 tt sB1 _ tl=>?_];cbv;show#[.ref pc,rfl,qx,cq.up (.same sB1),?_];cbv;intro u B2 hu sB2 gu;show tail B1 tt sB1 tl u B2 hu sB2 gu
   .rw[aD]at e;cases e;cbv;show#[.ref pc,rfl,qx,cq,λB1 tt sB1 _ tl=>?_];cbv;show#[.ref pc,rfl,qx,cq.up (.same sB1),?_];cbv;intro u B2 hu sB2 gu;show tail B1 tt sB1 tl u B2 hu sB2 gu
  rintro σ B' ⟨v9,ys,rfl,sB',gE,ly,tv⟩;rw[Yj,Y6]at tv;cbv;have trB:∀a,B a=Yb->H a=none:=λa e=>by
   cases z:H a with
   |none=>rfl
   |some u=>
    by_cases w1:a=p
    .rw[w1,hp7]at e;cases e
    .by_cases w2:a=x.d
     .rw[w2,PB.dn]at e;cases e
     .by_cases w3:a=x.t
      .rw[w3,PB.tk]at e;cases e
      .by_cases w4:a=x.db
       .rw[w4,PB.ab.dc]at e;cases e
       .have e1:=oA a u (s1 _ _ z) (λw=>w1 (Yo.mp w));rw[oB' a u (s5 _ _ (s4 _ _ (sm3 a u w4 (s2 _ _ e1)))) w2 w3]at e;cases e
  have tr8:∀a,H8 a=Yb->H a=none:=λa e=>by
   cases z:B a with
   |none=>show trB a z
   |some u=>
    by_cases w:a=x.da
    .rw[w,kn8.dc]at e;cases e
    .rw[sm8 a u w z]at e;cases e
  show kk B' _ _ rw2 Eq9 ys (λb u e nb=>sB' _ _ (offA b u e nb)) (λa e=>tr8 a (nn9 a (sB'.free e))) (P9.same sB') (λa ha=>?_) #[zs,rw1,m1,m2,od',ab',ta',j,pz,od,od1,od2,rn1,lr1,rn2,lr2,fl9,rfl] (tr8 _ (nn9 _ hE9)) (λw=>?_) gE tv
  .rcases jh.mp ha with w|w|w|w|w|w|w|w|w|w|w
   .show .inl (jh.mpr (by simp[w]))
   .show .inl (jh.mpr (by simp[w]))
   .show .inl (jh.mpr (by simp[w]))
   .have w:a=k':=w;show .inr (w▸tr8 _ fk)
   .have w:a=o':=w;rcases fo with v|v
    .show .inl (jh.mpr (by simp[w,v]))
    .show .inr (w▸v)
   .show .inl (jh.mpr (by simp[w]))
   .show .inl (jh.mpr (by simp[w]))
   .show .inl (jh.mpr (by simp[w]))
   .show .inl (jh.mpr (by simp[w]))
   .obtain⟨q,hq,e⟩:=gi.mp w;rcases fr8 q hq with v|⟨r,e',v⟩
    .have:a∈rwa x.ra:=gi.mpr #[q,v,e];show .inl (jh.mpr (by simp[this]))
    .rw[e]at e';cases e';show .inr (trB _ v)
   .obtain⟨q,hq,e⟩:=gi.mp w;rcases fr3 q hq with v|⟨r,e',v⟩
    .have:a∈rwa x.rb:=gi.mpr #[q,v,e];show .inl (jh.mpr (by simp[this]))
    .rw[e]at e';cases e';show .inr (fr1 (s2.free v))
  .obtain⟨o,e,_⟩:=P9.fto Eq9 w;rw[hE9]at e;cases e
 .obtain⟨xs,ho,hn⟩:=P1.od;have gd1:=P1.dn;cbv;show#[S.ha,rfl,PA.ha.1,PA.ha.2,λH2 s2=>?_];have hp2:=s2 _ _ hp1;have P2:=P1.same s2;have gd2:=P2.dn;have ho2:=s2 _ _ ho;rw[ea];cbv;show fy (λz=>?_) λz=>?_
  .have z:S.me=a0:=of_decide_eq_true z;cbv;show#[x.d,D,x.o,rfl,S.dn,_,_,xs,S.od,.inl gd2,PA.td.toCk,bZ.of (s2 _ _ g1),zck (λq hq=>P2.kc q (zc q hq)),zl2,by rw[ez];show zr,zrg,.inl (bZ.of ho2),hn.up (.same s2),lo,λH3 t l g rw0 ys gs m0 s3 hl' hg gt gl gg nm pw la=>?_];have hp3:=s3 _ _ hp2;have gts:c8 K H3 t [.ref l,.ref g]:=c8.of gt;cbv;intro H4 b4 g4;rw[MO]at g4;have ngp:g≠p:=λw=>by rw[w,hp2]at hg;cases hg
   have o4:Off [p] H3 H4:=λb u e nb=>b4.at (λw=>nb (Yo.mpr w)) e;have k4:qO H3 H4:=o4.kpf1 hp3 (by change(11:Nat)≠5;decide);have pl:=aaT (by rw[ez];show zr) pw;have ml:=km (λq:fu=>decide (ct S.dn q.c<q.k)) (zs.map (·.2));show rest _ _ #[gs,g,rfl,λb u e nb=>o4 b u (s3 _ _ (s2 _ _ e)) nb,(P2.same s3).newo (ma':=S.ma) o4 #[_,dx,mP,T,g4] (b4.at ngp gg) (nm.up k4.smh) ?_,.inr (s1.free (s2.free hg)),?_,λw=>?_,λ_=>#[rw0,m0,pw,by rw[ez]at la;show la]]
   .intro w;rw[←w,P2.tk]at hg;cases hg
   .unfold mz at pl;omega
   .show absurd (by rw[ea,z]) w
  .have z:¬ S.me=a0:=λw=>z (decide_eq_true w);show rest _ _ #[S.od,x.o,rfl,Off.of s2,P2,.inl rfl,by omega,λ_=>rfl,λw=>absurd (by rw[ea]at w;cases w;rfl) z]
variable{BJ:Yc}{JQ:Yc}{oF:Yc}{BB:Yc}{Bp:Yc}{ze:Yr}{GK:Yr}{mU:Yr}{yp:Yr}{yN:Yr}(Bz:∅ 8 BJ ze SV (yH K mg))(Bo:fH K mg "make_call" BJ ze SV)(L8:∅ 8 JQ GK LL (Gk K))(JM:fH K mg "packed" JQ GK LL)(nU:aw P w K mg base (lH P w) 8 oF mU ay (mN K mg))(nX:Binds K mU ay [])(AW:∅ 8 BB yp wA (yh K mg))(Bx:Binds K yp wA [])(Bf:∅ 8 Bp yN ay (yf K mg))(A2:Binds K yN ay [])(dO:aX K dC "check_room" oF)(jb:aX K dC "keep" BB)(i8:aX K dC "step" Bp)
include eV Bz Bo L8 JM nU nX AW Bx Bf A2 av aB aC bD az aD aH bH dO jb i8 in
theorem Fy(F:bx K "utter" "Page.utter" ri f fd):aw P w K mg base (lH P w) 9 f fd wg (vV K mg):=by
 show F.okX wm (λvs H Q E h=>?_) (λcdv A outer s H vs Q E hr h=>?_)
 .obtain⟨p,kd,w,rfl,_⟩:=h;rfl
 obtain⟨p,kd,w,rfl,h⟩:=h;have hu64:=hr.units;have hu0:=hr.units0;have hu:=tH hr;show#[_,(af (bV (uD (pv 0) bD.cl dO nU hr nX .nil Hj))
   (af (bh (i:=3) wm.nd rfl (Or.inl rfl) (bg Bz Bo hr (aa (ao (K:=K) rfl (pv 0) rfl) (aa (ao (K:=K) rfl (pv 0) rfl) (aa (bw iV (ao (K:=K) rfl (pv 0) rfl) ax) (aa (pv 1) (aa (pv 2) (aa (bg L8 JM hr (aa (ao (K:=K) rfl (pv 0) rfl) ae)) ae))))))))
   (af (aR (K:=K) rfl (pv 0) (ao (K:=K) rfl (pv 3) rfl) rfl)
   (af (bV (eJ (cC.cons bD.cl jb AW Bx cC.nil) (pv 0) hr (aa (pv 3) ae)))
   (ai (aF (aQ (cC.cons bD.cl i8 Bf A2 cC.nil) (pv 0) hr))))))),?_]
 show xl5 ?_;intro _ _ _;obtain⟨S,x,PA,ok,hkd,hw,k1,k2⟩:=h;obtain⟨C,dx,mP,T,hp⟩:=PA.ob;have eC:=mP;rw[bH]at eC;cases eC;obtain⟨cl,n1,n2,n3,n4,n5,n6,n7,n8,n9,n10,n11⟩:=id T;cbv;show nV ?_;cbv;show#[p,dx,_,rfl,hp,uQ,?_];cbv;show#[p,rfl,S,x,PA,ok.ne,ok.l10,λH1 j s1 fl hro=>?_,λH1 j ea Ce s1 fl hro mh he hh=>k2 H1 j ea Ce s1 fl hro mh he hh];have P1:=PA.same s1;have hp1:=s1 _ _ hp;have gd1:=P1.dn;have ld:S.dn.length<64:=PA.td.toCk.len;cbv;show#[x.d,S.dn,rfl,.inl gd1,ld,λH2 t xs hs s2 ht pm so gt pr=>?_];cbv;show#[S.nu,S.me,S.ma+ 1,kd,w,t,rfl,xs,hkd,hw,gt,λH3 pc Cc dxc t' s3 hpc kdc tc gc gt'=>?_];have s13:aG H1 H3:=s2.trans s3;have P3:=P1.same s13;have hp3:=s13 _ _ hp1;obtain⟨cl',m1,m2,m3,m4,m5⟩:=id tc;have cA:kh K mg H3 (.ref pc) #[kd,S.nu,S.me,S.ma+ 1,w,if kd="own"then[]else Gs S.dn hs]:=by
  show#[pc,Cc,dxc,t',_,rfl,kdc,tc,gc,gt',?_,?_]
  .by_cases z:kd="own"
   .change qP H3 (if kd="own"then[]else xs) (if kd="own"then[]else Gs S.dn hs);rw[if_pos z,if_pos z];show .nil
   .change qP H3 (if kd="own"then[]else xs) (if kd="own"then[]else Gs S.dn hs);rw[if_neg z,if_neg z];show pr.mono (pT.same s3)
  .change Ck (if kd="own"then[]else Gs S.dn hs);by_cases z:kd="own"
   .rw[if_pos z];show Ck.nil
   .rw[if_neg z];show abN PA.td.toCk pm
 have nw:NwC S kd w #[kd,S.nu,S.me,S.ma+ 1,w,if kd="own"then[]else Gs S.dn hs]:=#[hs,pm,so,rfl];generalize (#[kd,S.nu,S.me,S.ma+ 1,w,if kd="own"then[]else Gs S.dn hs]:fu)=c at cA nw;obtain⟨ecn,ecc,eck⟩:c.n=S.nu/\c.c=S.me/\c.k=S.ma+ 1:=by
  obtain⟨_,_,_,e⟩:=nw;rw[e];show#[rfl,rfl,rfl]
 cbv;intro H4 b4 g4;rw[Qw]at g4;have o4:Off [p] H3 H4:=λb u e nb=>b4.at (λw=>nb (Yo.mpr w)) e;have k4:qO H3 H4:=o4.kpf1 hp3 (by change(11:Nat)≠5;decide);obtain⟨xo,ho3,hn3⟩:=P3.od;have P4:nR K mg H4 p {S with ma:=S.ma+ 1} x:=P3.newo (ma':=S.ma+ 1) (o':=x.o) o4 #[_,dx,mP,T,g4] (o4 _ _ ho3 (QC ho3 hp3 (by intro z;cases z))) (hn3.up k4.smh) P3.to;have c4:=cA.kpf k4;cbv;show#[p,.ref pc,rfl,_,x,c,P4,c4,?_,by rw[ecc];show PA.me.1,by rw[ecc];show PA.me.2,by have:=ok.kl;change S.kp.length<=900;omega,λH5 o5 P5=>?_]
 .intro z;obtain⟨q,hq,e⟩:=YX.mp z;have hq:q∈S.kp:=hq;unfold IW at e;have e1:q.2.c=c.c:=by
   have:=(agh (agh e).2).1;show af5 this
  have e2:q.2.k=c.k:=by
   have:=(agh (agh (agh e).2).2).1;show af5 this
  have:=ok.mx q hq (by rw[e1,ecc]);omega
 obtain⟨C5,dx5,mP5,_,hp5⟩:=P5.ob;rw[bH]at mP5;cases mP5;cbv;show#[p,rfl,_,x,P5,ok.ne,ok.l10,?_,by have:=ok.ol;change S.od.length<=300;omega,by have:=ok.tl;change S.tk.length<=800;omega,ok.me,λq hq=>?_,λH6 x' S' rw l ys o6 nn6 P6 ft6 st hl nl gl tv=>?_]
 .change(S.kp++[(V.ref pc,c)]).length<=60;rw[Yz];have:=ok.kl;change S.kp.length+ 1<=60;omega
 .rcases YV.mp hq with z|z
  .show ok.nu q z
  .rw[Yo.mp z];show ecn
 have off5:∀b u,H b=Ya u->b∉x.ft p->H5 b=Ya u:=λb u e nb=>by
  have e3:=s13 _ _ (s1 _ _ e);have e4:=o4 b u e3 (λz=>nb (jh.mpr (.inl (Yo.mp z))));show o5 b u e4 (λz=>nb (jh.mpr (by simp[Yo.mp z])))
 have nn5:∀a,H5 a=Yb->H a=none:=λa e=>by
  cases z:H a with
  |none=>rfl
  |some u=>
   by_cases w1:a=p
   .rw[w1,hp5]at e;cases e
   .by_cases w2:a=x.k
    .rw[w2,P5.kp]at e;cases e
    .rw[o5 a u (o4 a u (s13 _ _ (s1 _ _ z)) (by simp[w1])) (by simp[w2])]at e;cases e
 show k1 H6 x' S' rw l ys (.ref pc) c j (λb u e nb=>o6 b u (off5 b u e nb) nb) (λa e=>nn5 a (nn6 a e)) P6 (λa ha=>?_) fl hro nw st (nn5 l hl) nl gl tv;rcases ft6 a ha with z|z
 .show .inl z
 .show .inr (nn5 a z)
include eV kL bD bH in
theorem FN(F:bx K "taken" "Page.taken" rj f fd):∅ 1 f fd ay (wz K mg):=by
 show F.oj FI ?_;rintro _ _ _ _ _ _ _ _ _ _ _ _ ⟨p,rfl,h⟩;show#[_,(ai (aF (dh QA (by rfl) kL afc (aa (ao (K:=K) rfl (pv 0) rfl) ae)))),?_];obtain⟨S,x,PA,kk⟩:=h;obtain⟨C,dx,mP,T,hp⟩:=PA.ob;obtain⟨cl,n1,n2,n3,n4,n5,n6,n7,n8,n9,n10,n11⟩:=id T;have gd:=PA.dn;have ld:=PA.td.toCk.len;cbv;intro d H1 hd s1 g1;show kk H1 d s1 hd g1
include eV in
theorem xE(F:bx K "__init__" "Change.__init__" iR f fd):∅ 1 f fd Lr (lR K):=by
 show F.oj wU ?_;rintro _ _ _ _ H _ _ _ _ _ _ _ ⟨p,me,hd,rfl,h⟩;show#[_,(af (aR (K:=K) rfl (pv 0) (pv 1) rfl)
   (af (aR (K:=K) rfl (pv 0) (pv 2) rfl)
   (af (aR (K:=K) rfl (pv 0) cE rfl)
   (af (aR (K:=K) rfl (pv 0) cE rfl)
   (af (aR (K:=K) rfl (pv 0) ax rfl)
   (af (aR (K:=K) rfl (pv 0) mT rfl)
   (ai (aR (K:=K) rfl (pv 0) cE rfl)))))))),?_]
 show xl7 ?_;intro _ _ _ _ _;obtain⟨C,dx,⟨cl,n1,n2,n3,n4,n5,n6,n7⟩,hp,q⟩:=h;cbv;intro H1 b1 g1;cbv;intro H2 b2 g2;cbv;intro H3 b3 g3;cbv;intro H4 b4 g4;cbv;intro H5 b5 g5;cbv;intro d H6 hd6 s6 g6;have g5':=s6 _ _ g5;cbv;intro H7 b7 g7;cbv;intro H8 b8 g8;rw[V4]at g8;have nd:d≠p:=λz=>by rw[z,g5]at hd6;cases hd6
 show q H8 d (λb o e n=>b8.at n (b7.at n (s6 _ _ (b5.at n (b4.at n (b3.at n (b2.at n (b1.at n e)))))))) ?_ (b8.at nd (b7.at nd g6)) g8;cases z:H d with
 |none=>rfl
 |some o=>rw[b5.at nd (b4.at nd (b3.at nd (b2.at nd (b1.at nd z))))]at hd6;cases hd6
variable{aU:Yc}(aA:OX K aU)(aJ:mg "Hand"=Ya (.ref aU))
include eV hG aA aJ in
theorem Fc(F:bx K "events" "Hand.events" pA f fd):∅ 1 f fd ay (mK K mg):=by
 show F.oj ER ?_;rintro _ _ _ _ H _ _ _ _ _ _ _ ⟨p,rfl,h⟩;show#[_,(ai (aF (dh (xT (K:=K) rfl) (by rfl) hG aaK (aa (ao (K:=K) rfl (pv 0) rfl) ae)))),?_];obtain⟨S,x,z,HI,kk⟩:=h;obtain⟨pv,cv,HA⟩:=HI.r;have hp:=HA.ob;obtain⟨cl,n1,n2,n3,n4,n5,n6,n7,n8,n9,n10,n11,n12,n13,n14⟩:=id HA.T;have sl:bZ K H x.lg x.xs:=bZ.of HA.lg;cbv;intro l H1 hl s1 g1;show kk H1 l s1 hl g1
include eV hG aA aJ in
theorem EJ(F:bx K "strays" "Hand.strays" pR f fd):∅ 1 f fd ay (uT K mg):=by
 show F.oj Er ?_;rintro _ _ _ _ H _ _ _ _ _ _ _ ⟨p,rfl,h⟩;show#[_,(ai (aF (dh (xT (K:=K) rfl) (by rfl) hG aaK (aa (ao (K:=K) rfl (pv 0) rfl) ae)))),?_];obtain⟨S,x,z,HI,kk⟩:=h;obtain⟨pv,cv,HA⟩:=HI.r;have hp:=HA.ob;obtain⟨cl,n1,n2,n3,n4,n5,n6,n7,n8,n9,n10,n11,n12,n13,n14⟩:=id HA.T;have sl:bZ K H x.lo []:=bZ.of HA.lo;cbv;intro l H1 hl s1 g1;show kk H1 l s1 hl g1
include eV aA aJ in
theorem II(F:bx K "book" "Hand.book" tY f fd):∅ 1 f fd ay (y9 K mg):=by
 show F.oj HJ ?_;rintro _ _ _ _ _ _ _ _ _ _ _ _ ⟨p,rfl,h⟩;show#[_,(ai (aF (ao (K:=K) rfl (pv 0) rfl))),?_];obtain⟨S,x,z,HI,kk⟩:=h;obtain⟨pv,cv,HA⟩:=HI.r;have hp:=HA.ob;obtain⟨cl,n1,n2,n3,n4,n5,n6,n7,n8,n9,n10,n11,n12,n13,n14⟩:=id HA.T;cbv;show kk
variable{d9:Yc}(bU:Jl K d9)(cD:mg "Change"=Ya (.ref d9))
include eV bU aA cD aJ in
theorem B0(F:bx K "stopped" "Hand.stopped" lM f fd):∅ 1 f fd ay (kK K mg):=by
 show F.oj Co ?_;rintro _ _ _ _ H _ _ _ _ _ _ _ ⟨p,rfl,h⟩;show#[_,(ai (aF (j6 (aW uN (ao (K:=K) rfl (pv 0) rfl) cE (aP _)) cE (ao (K:=K) rfl (ao (K:=K) rfl (pv 0) rfl) rfl)))),?_];obtain⟨S,x,z,HI,kk⟩:=h;cases z with
 |none=>
  have HA:Cq K mg H p S x .non .non:=HI;have hp:=HA.ob;obtain⟨cl,n1,n2,n3,n4,n5,n6,n7,n8,n9,n10,n11,n12,n13,n14⟩:=id HA.T;cbv;rw[show decide (V.non=V.non)=true from decide_eq_true rfl];cbv;show kk
 |some z=>
  obtain⟨HA,P,⟨⟨C,dx,eC,hc⟩,_⟩,_⟩:=HI;have hp:=HA.ob;obtain⟨cl,n1,n2,n3,n4,n5,n6,n7,n8,n9,n10,n11,n12,n13,n14⟩:=id HA.T;have T7:=bU.n3;have Tc:=bU.cl;rw[cD]at eC;cases eC;cbv;rw[u9];cbv;show kk
variable{bp:Yc}(iu:mg "NotIn"=Ya (.ref bp))(yw:HY K bp [.type "ValueError",.type "Exception",.type "BaseException",.type "object"] "ValueError.__new__")
include eV aA aJ iu yw in
theorem z6(F:bx K "check_in" "Hand.check_in" kH f fd):aw P w K mg base (lH P w) 1 f fd ay (qq K mg):=by
 show F.okX Al (λvs H Q E h=>?_) (λcdv A outer s H vs Q E hr h=>?_)
 .obtain⟨p,rfl,_⟩:=h;rfl
 obtain⟨p,rfl,h⟩:=h;have hu64:=hr.units;have hu0:=hr.units0;have hu:=tH hr;show#[_,(ai (cW (aW uN (ao (K:=K) rfl (pv 0) rfl) cE (aP _)) (ai (zo afg (by decide +kernel) yw (by rfl) iu (aa eW ae))) bC)),?_];obtain⟨S,x,z,HI,k1,k2⟩:=h;cases z with
 |none=>
  have HA:Cq K mg H p S x .non .non:=HI;have hp:=HA.ob;obtain⟨cl,n1,n2,n3,n4,n5,n6,n7,n8,n9,n10,n11,n12,n13,n14⟩:=id HA.T;cbv;rw[show decide (V.non=V.non)=true from decide_eq_true rfl];cbv;show zD ?_;cbv;show#[by change(1:Nat)<=Yu;decide,λea he=>k2 rfl _ ea _ (aE he) he iu aj]
 |some y=>
  have HA:=HI.1;have hp:=HA.ob;obtain⟨cl,n1,n2,n3,n4,n5,n6,n7,n8,n9,n10,n11,n12,n13,n14⟩:=id HA.T;cbv;rw[u9];cbv;show k1 y rfl
variable{mv:Yc}{rH:Yc}{kq:Yr}{pV:Yr}(sY:∅ 1 mv kq ay (kK K mg))(eY:Binds K kq ay [])(iy:aw P w K mg base (lH P w) 1 rH pV ay (qq K mg))(iz:Binds K pV ay [])(cH:aX K aU "check_in" rH)(bO:aX K aU "stopped" mv)
include eV sY eY iy iz aA aJ cH bO in
theorem xx(F:bx K "check_free" "Hand.check_free" je f fd):aw P w K mg base (lH P w) 2 f fd ay (iD K mg):=by
 show F.okX xF (λvs H Q E h=>?_) (λcdv A outer s H vs Q E hr h=>?_)
 .obtain⟨p,rfl,_⟩:=h;rfl
 obtain⟨p,rfl,h⟩:=h;have hu64:=hr.units;have hu0:=hr.units0;have hu:=tH hr;show#[_,(af (bV (uD (pv 0) aA.cl cH iy hr iz .nil Hj))
   (ai (cW (aW jY (aQ (cC.cons aA.cl bO sY eY cC.nil) (pv 0) hr) cE (aP _)) (ai cS) bC))),?_]
 obtain⟨S,x,z,HI,k1,k2⟩:=h;obtain⟨pv,cv,HA⟩:=HI.r;have eC:aU=x.C:=by have z:=HA.mH;rw[aJ]at z;cases z;rfl
 have hp:=HA.ob;rw[←eC]at hp;cbv;show nV ?_;cbv;show#[p,_,_,rfl,hp,by kernel_rfl,?_];cbv;show#[p,rfl,S,x,z,HI,λy ey=>?_,k2];cbv;show#[p,rfl,S,x,z,HI,?_];cbv;show k1 y ey
variable{i5:Yc}{iH:Yr}(oi:aw P w K mg base (lH P w) 2 i5 iH ay (iD K mg))(gy:Binds K iH ay [])(bX:aX K aU "check_free" i5)
include eV oi gy aA aJ bX in
theorem FL(F:bx K "leave" "Hand.leave" rD f fd):aw P w K mg base (lH P w) 3 f fd ay (vU K mg):=by
 show F.okX FW (λvs H Q E h=>?_) (λcdv A outer s H vs Q E hr h=>?_)
 .obtain⟨p,rfl,_⟩:=h;rfl
 obtain⟨p,rfl,h⟩:=h;have hu64:=hr.units;have hu0:=hr.units0;have hu:=tH hr;show#[_,(af (bV (uD (pv 0) aA.cl bX oi hr gy .nil Hj))
   (ai cS)),?_]
 obtain⟨S,x,HI,k2⟩:=h;obtain⟨pv,cv,HA⟩:=HI.r;have eC:aU=x.C:=by have z:=HA.mH;rw[aJ]at z;cases z;rfl
 have hp:=HA.ob;rw[←eC]at hp;cbv;show nV ?_;cbv;show#[p,_,_,rfl,hp,by kernel_rfl,?_];cbv;show#[p,rfl,S,x,Yb,HI,(λy ey=>nomatch ey),λ_=>k2]
include eV iy iz aA aJ cH in
theorem F0(F:IG K "renew" "Hand.renew" rp f fd [.int 1 t0]):aw P w K mg base (lH P w) 2 f fd Df (vJ K mg):=by
 show F.okX FU (λvs H Q E h=>?_) (λcdv A outer s H vs Q E hr h=>?_)
 .obtain⟨p,m,rfl,_⟩:=h;rfl
 obtain⟨p,m,rfl,h⟩:=h;have hu64:=hr.units;have hu0:=hr.units0;have hu:=tH hr;show#[_,(af (bV (uD (pv 0) aA.cl cH iy hr iz .nil Hj))
   (af cS
   (af cS
   (af cS
   (ai cS))))),?_]
 show xl5 ?_;intro _ _ _;obtain⟨S,x,HI,k2⟩:=h;obtain⟨pv,cv,HA⟩:=HI.r;have eC:aU=x.C:=by have z:=HA.mH;rw[aJ]at z;cases z;rfl
 have hp:=HA.ob;rw[←eC]at hp;cbv;show nV ?_;cbv;show#[p,_,_,rfl,hp,by kernel_rfl,?_];cbv;show#[p,rfl,S,x,Yb,HI,(λy ey=>nomatch ey),λ_=>k2]
variable{cg:Yc}(qW:mg "IsIn"=Ya (.ref cg))(CN:HY K cg [.type "ValueError",.type "Exception",.type "BaseException",.type "object"] "ValueError.__new__")
include eV aA aJ qW CN in
theorem IM(F:bx K "come" "Hand.come" sQ f fd):aw P w K mg base (lH P w) 1 f fd ay (zN K mg):=by
 show F.okX IQ (λvs H Q E h=>?_) (λcdv A outer s H vs Q E hr h=>?_)
 .obtain⟨p,rfl,_⟩:=h;rfl
 obtain⟨p,rfl,h⟩:=h;have hu64:=hr.units;have hu0:=hr.units0;have hu:=tH hr;show#[_,(af (cW (aW jY (ao (K:=K) rfl (pv 0) rfl) cE (aP _)) (ai (zo afg (by decide +kernel) CN (by rfl) qW (aa eW ae))) bC)
   (ai (aR (K:=K) rfl (pv 0) dB rfl))),?_]
 obtain⟨S,x,z,HI,k1,k2⟩:=h;cases z with
 |none=>
  have HA:Cq K mg H p S x .non .non:=HI;have hp:=HA.ob;obtain⟨cl,n1,n2,n3,n4,n5,n6,n7,n8,n9,n10,n11,n12,n13,n14⟩:=id HA.T;show eQ ?_;cbv;rw[show decide (V.non=V.non)=true from decide_eq_true rfl];cbv;intro H1 b1 g1;rw[Pm]at g1;have sm:pT H H1:=λa xs e=>b1.at (cG e hp (by intro z;cases z)) e;show k2 rfl H1 #[HA.mH,HA.T,g1,sm _ _ HA.pa,b1.at (cG HA.lg hp (by intro z;cases z)) HA.lg,tN sm HA.ev,b1.at (cG HA.lo hp (by intro z;cases z)) HA.lo,HA.nl,HA.m0,HA.m1,HA.d0] λa u e n=>b1.at (λz=>n (by simp[z])) e
 |some y=>
  have HA:=HI.1;have hp:=HA.ob;obtain⟨cl,n1,n2,n3,n4,n5,n6,n7,n8,n9,n10,n11,n12,n13,n14⟩:=id HA.T;show eQ ?_;cbv;rw[u9];cbv;show zD ?_;cbv;show#[by change(1:Nat)<=Yu;decide,λea he=>k1 y rfl _ ea _ (aE he) he qW aj]
include eV aA bD aJ bH in
theorem Aj(F:bx K "standing" "Hand.standing" kJ f fd):∅ 1 f fd ay (qM K mg):=by
 show F.oj Az ?_;rintro _ _ _ _ H _ _ _ _ _ _ _ ⟨p,rfl,h⟩;show#[_,(ai (aF (j6 (aW uN (ao (K:=K) rfl (pv 0) rfl) cE (aP _)) cE (cY (aa (ao (K:=K) rfl (ao (K:=K) rfl (pv 0) rfl) rfl) (aa (ao (K:=K) rfl (ao (K:=K) rfl (pv 0) rfl) rfl) ae)))))),?_];obtain⟨S,x,z,HI,k1,k2⟩:=h;cases z with
 |none=>
  have HA:Cq K mg H p S x .non .non:=HI;have hp:=HA.ob;obtain⟨cl,n1,n2,n3,n4,n5,n6,n7,n8,n9,n10,n11,n12,n13,n14⟩:=id HA.T;cbv;rw[show decide (V.non=V.non)=true from decide_eq_true rfl];cbv;show k1 rfl
 |some y=>
  obtain⟨HA,P,_,_,en,_⟩:=HI;have hp:=HA.ob;obtain⟨cl,n1,n2,n3,n4,n5,n6,n7,n8,n9,n10,n11,n12,n13,n14⟩:=id HA.T;have T2:=bD.n2;have T3:=bD.n3;have Tc:=bD.cl;obtain⟨C,dx,mP,_,hg⟩:=P.ob;rw[bH]at mP;cases mP;cbv;rw[u9];cbv;intro t H1 ht s1 g1;rw[en]at g1;show k2 y rfl H1 t s1 g1
variable{yX:Yc}{wI:Yr}(yI:∅ 1 yX wI ay (wz K mg))(zH:Binds K wI ay [])(ip:aX K dC "taken" yX)
include eV yI zH aA bD aJ bH ip in
theorem FD(F:bx K "taken" "Hand.taken" qT f fd):∅ 2 f fd ay (wF K mg):=by
 show F.oj FR ?_;rintro _ _ _ _ H _ _ _ hr _ _ _ ⟨p,rfl,h⟩;show#[_,(ai (aF (j6 (aW uN (ao (K:=K) rfl (pv 0) rfl) cE (aP _)) mT (aQ (cC.cons bD.cl ip yI zH cC.nil) (ao (K:=K) rfl (pv 0) rfl) hr)))),?_];obtain⟨S,x,z,HI,hn,kk⟩:=h;cases z with
 |none=>
  have HA:Cq K mg H p S x .non .non:=HI;have hp:=HA.ob;obtain⟨cl,n1,n2,n3,n4,n5,n6,n7,n8,n9,n10,n11,n12,n13,n14⟩:=id HA.T;cbv;rw[show decide (V.non=V.non)=true from decide_eq_true rfl];cbv;intro d H1 hd s1 g1;show kk H1 d s1 g1
 |some y=>
  obtain⟨HA,P,_⟩:=HI;have hp:=HA.ob;obtain⟨cl,n1,n2,n3,n4,n5,n6,n7,n8,n9,n10,n11,n12,n13,n14⟩:=id HA.T;obtain⟨C,dx,mP,_,hg⟩:=P.ob;rw[bH]at mP;cases mP;cbv;rw[u9];cbv;show#[y.pg,rfl,y.S,y.y,P,λH1 d s1 hd g1=>?_];rw[hn y rfl]at g1;show kk H1 d s1 g1
include eV aA aJ in
theorem HV(F:bx K "kept" "Hand.kept" sW f fd):∅ 1 f fd ay (zQ K mg):=by
 show F.oj HN ?_;rintro _ _ _ _ H _ _ _ _ _ _ _ ⟨p,rfl,h⟩;show#[_,(ai (aF (j6 (aW uN (ao (K:=K) rfl (pv 0) rfl) cE (aP _)) (bS ae) Iy))),?_];obtain⟨S,x,HI,kk⟩:=h;have HA:Cq K mg H p S x .non .non:=HI;have hp:=HA.ob;obtain⟨cl,n1,n2,n3,n4,n5,n6,n7,n8,n9,n10,n11,n12,n13,n14⟩:=id HA.T;cbv;rw[show decide (V.non=V.non)=true from decide_eq_true rfl];cbv;intro l H1 hl s1 g1;show kk H1 l s1 g1
include eV aA aJ in
theorem Du(F:bx K "places" "Hand.places" pN f fd):∅ 1 f fd ay (uj K mg):=by
 show F.oj EB ?_;rintro _ _ _ _ H _ _ _ _ _ _ _ ⟨p,rfl,h⟩;show#[_,(ai (aF (j6 (aW uN (ao (K:=K) rfl (pv 0) rfl) cE (aP _)) (bS ae) Iy))),?_];obtain⟨S,x,HI,kk⟩:=h;have HA:Cq K mg H p S x .non .non:=HI;have hp:=HA.ob;obtain⟨cl,n1,n2,n3,n4,n5,n6,n7,n8,n9,n10,n11,n12,n13,n14⟩:=id HA.T;cbv;rw[show decide (V.non=V.non)=true from decide_eq_true rfl];cbv;intro l H1 hl s1 g1;show kk H1 l s1 g1
include eV kL br hG CM in
theorem LC(F:bx K "own_copy" "own_copy" xQ f fd):∅ 1 f fd qp (Bw K):=by
 show F.oj Ke ?_;rintro _ _ _ _ _ _ _ _ _ _ _ _ ⟨rfl,h⟩;show#[_,(af (cW (cK K rfl (bF (lJ (K:=K) rfl) (by rfl) br YW (aa (pv 0) (aa (ou hG aaK) ae)))) (ai cS) bC)
   (af (cW (cK K rfl (bF (lJ (K:=K) rfl) (by rfl) br YW (aa (pv 0) (aa (ou CM ajD) ae)))) (ai cS) bC)
   (af (cW (cK K rfl (bF (lJ (K:=K) rfl) (by rfl) br YW (aa (pv 0) (aa (ou kL afc) ae)))) (ai cS) bC)
   (ai (aF (pv 0)))))),?_]
 show xl4 ?_;intro _ _;cbv;show#[_,_,_,false,rfl,.non,(by kernel_rfl),?_];cbv;show#[_,_,_,false,rfl,.non,(by kernel_rfl),?_];cbv;show#[_,_,_,false,rfl,.non,(by kernel_rfl),?_];cbv;show h
include eV bU cD in
theorem yZ(F:bx K "gathers" "Change.gathers" jA f fd):∅ 1 f fd ay (nB K mg):=by
 show F.oj x8 ?_;rintro _ _ _ _ _ _ _ _ _ _ _ _ ⟨p,rfl,h⟩;show#[_,(ai (aF (iJ (eT jY (ao (K:=K) rfl (pv 0) rfl) cE (aP _)) (iJ Iy (kE Iy))))),?_];obtain⟨me,hd,d,⟨⟨C,dx,eC,hp⟩,_⟩,kk⟩:=h;rw[cD]at eC;cases eC;obtain⟨cl,n1,n2,n3,n4,n5,n6,n7⟩:=id bU;cbv;show kk
variable{qE:Yc}{oM:Yr}(ql:∅ 1 qE oM ay (nB K mg))(qb:Binds K oM ay [])(eM:aX K d9 "gathers" qE)
include eV ql qb bU cD eM in
theorem zg(F:bx K "propose" "Change.propose" jD f fd):∅ 2 f fd Le (nZ K mg):=by
 show F.oj ym ?_;rintro _ _ _ _ _ _ _ _ hr _ _ _ ⟨p,dd,f',rfl,h⟩;show#[_,(af (cW (PW.pt (pZ (oW (cK K rfl (aQ (cC.cons bU.cl eM ql qb cC.nil) (pv 0) hr))) (wN (oW ac8)))) (ai (aF dB)) bC)
   (af cS
   (af cS
   (af cS
   (af cS
   (af cS
   (ai cS))))))),?_]
 show xl7 ?_;intro _ _ _ _ _;obtain⟨me,hd,d,C0,kk⟩:=h;obtain⟨⟨C,dx,eC,hp⟩,_⟩:=id C0;rw[cD]at eC;cases eC;obtain⟨cl,n1,n2,n3,n4,n5,n6,n7⟩:=id bU;show eQ ?_;cbv;show#[p,rfl,me,hd,d,C0,?_];cbv;show kk
variable{D0:Yc}{Bk:Yr}(EY:∅ 1 D0 Bk qp (Bw K))(EG:fH K mg "own_copy" D0 Bk qp)
include eV EY EG bU cD in
theorem zm(F:bx K "settled" "Change.settled" jr f fd):∅ 2 f fd ay (oJ K mg):=by
 show F.oj yJ ?_;rintro _ _ _ _ _ _ _ _ hr _ _ _ ⟨p,rfl,h⟩;show#[_,(ai (aF (bg EY EG hr (aa (ao (K:=K) rfl (pv 0) rfl) ae)))),?_];obtain⟨me,hd,d,⟨⟨C,dx,eC,hp⟩,_⟩,kk⟩:=h;rw[cD]at eC;cases eC;obtain⟨cl,n1,n2,n3,n4,n5,n6,n7⟩:=id bU;cbv;show#[rfl,?_];cbv;show kk
variable{qo:Yc}{qC:Yc}{nJ:Yr}{oN:Yr}{NH:Yc}{P_mk:Yc}(hC:aml base NH P_mk)(hB:Jj base mg)(qI:∅ 2 qo nJ Le (nZ K mg))(pW:Binds K nJ Le [])(qJ:∅ 2 qC oN ay (oJ K mg))(qF:Binds K oN ay [])(eG:aX K d9 "propose" qo)(d7:aX K d9 "settled" qC)
include eV hC hB qI pW qJ qF bU aA bD cD aJ bH eG d7 in
theorem DW(F:T6 K "settle" "Hand.settle" jS f fd NH):∅ 3 f fd ay (tQ K mg P_mk):=by
 show F.ok jj (λvs H Q E h=>?_) (λA outer s H vs Q E hr h=>?_)
 .obtain⟨p,rfl,_⟩:=h;rfl
 obtain⟨p,rfl,h⟩:=h;have hu64:=hr.units;have hu0:=hr.units0;have hu:=tH hr;show#[_,(af (cW (aW uN (ao (K:=K) rfl (pv 0) rfl) cE (aP _)) (ai X1) bC)
   (af (bh (i:=1) jj.nd rfl (Or.inr rfl) (ao (K:=K) rfl (ao (K:=K) rfl (pv 0) rfl) rfl))
   (af (bh (i:=2) jj.nd rfl (Or.inr rfl) (bw Dh (ao (K:=K) rfl (pv 0) rfl) (Eg IH (ao (K:=K) rfl (pv 0) rfl))))
   (af (bV (Sx (cC.cons bU.cl eG qI pW cC.nil) (ao (K:=K) rfl (pv 0) rfl) hr (afU (i1:=2) (i2:=0) (i3:=1) (x1:="wishes") (x2:="self") (x3:="hands") (c1:=s.heap.objs.size+ 1+ 1+ 1) (c2:=s.heap.objs.size+ 1) (c3:=s.heap.objs.size+ 1+ 1) (acz _).symm (aji _) (aji _).symm rfl rfl rfl rfl rfl rfl rfl rfl rfl rfl rfl rfl) (aa (ao (K:=K) rfl (pv 0) rfl) (aa (Xh (c:=NH) (Pt:=P_mk) rfl rfl rfl hC hB) ae))))
   (af (bh (i:=3) jj.nd rfl (Or.inl rfl) (aQ (cC.cons bU.cl d7 qJ qF cC.nil) (ao (K:=K) rfl (pv 0) rfl) hr))
   (ai (cW (aW jY (pv 3) cE (aP _)) (ai cS) bC))))))),?_]
 show xl6 ?_;intro _ _ _ _;obtain⟨S,x,z,HI,tb,nP,kk⟩:=h;obtain⟨cl,n1,n2,n3,n4,n5,n6,n7,n8,n9,n10,n11,n12,n13,n14⟩:=id aA;cases z with
 |none=>
  have HA:Cq K mg H p S x .non .non:=HI;have eC:aU=x.C:=by have z:=HA.mH;rw[aJ]at z;cases z;rfl
  have hp:=HA.ob;rw[←eC]at hp;show eQ ?_;cbv;show kk H (.refl _ _) HI tb
 |some z=>
  obtain⟨HA,P,ck,np,en,em⟩:=id HI;have eC:aU=x.C:=by have z:=HA.mH;rw[aJ]at z;cases z;rfl
  have hp:=HA.ob;rw[←eC]at hp;obtain⟨Cp,dxp,mP,Tp,hg⟩:=P.ob;rw[bH]at mP;cases mP;obtain⟨⟨Cc,dc,mC,hc⟩,hrd⟩:=id ck;rw[cD]at mC;cases mC;have T3:=bD.n3;have Tc:=bD.cl;have Td:=bU.cl;show eQ ?_;cbv;rw[u9];cbv;rw[Ju];show ab9 tb λf9 c9 ctv H2 hf9 sm2 ef ec eP=>?_;obtain⟨psT,hPT⟩:=j4 tb;have o2:Off [P_mk] H H2:=λa u e n=>sm2 a u (λz=>n (by simp[z])) e;have k2:qO H H2:=o2.kpf1 hPT trivial;have HI2:mQ K mg H2 p S x (Ya z):=HI.off o2 k2 λa ha z=>nP (by rw[←Yo.mp z];show ha);have hp2:=HI2.1.ob;rw[←eC]at hp2;obtain⟨⟨Cc2,dc2,mC2,hc2⟩,_⟩:=id HI2.2.2.1;rw[cD]at mC2;cases mC2;cbv;show#[[.int 0,.ref p,.int z.S.ha],rfl,adx rfl rfl rfl,λL ld=>?_];have sL:=ld.same;have HL:=HI2.same sL;show#[z.ch,.int S.db,.ref f9,rfl,_,_,_,HL.2.2.1,?_];have fz:∀c∈(aaW (s.heap.objs.size+ 1+ 1+ 1) (s.heap.objs.size+ 1) (s.heap.objs.size+ 1+ 1)).map (·.2),∃o φ,L c=Ya (.frz o (.ext φ)):=λc hc'=>ld.all.frz c hc';change(T8 _ _) _ _;unfold T8;have fr5:∀a o,H2 a=Ya o->unl ((aaW (s.heap.objs.size+ 1+ 1+ 1) (s.heap.objs.size+ 1) (s.heap.objs.size+ 1+ 1)).map (·.2)) L a=Ya o:=λa o e=>by
   rw[oq λz=>by rw[ld.non a z]at e;cases e];show sL _ _ e
  generalize unl ((aaW (s.heap.objs.size+ 1+ 1+ 1) (s.heap.objs.size+ 1) (s.heap.objs.size+ 1+ 1)).map (·.2)) L=Aq5 at fr5⊢;have s5:aG H2 Aq5:=fr5;have H5:=HI2.same s5;have hp5:=s5 _ _ hp2;have hc5:=s5 _ _ hc2;have tb5:lG P_mk Aq5:=.inr #[c9,fr5 _ _ eP,fr5 _ _ ec];cbv;show#[z.ch,rfl,_,_,_,H5.2.2.1,?_];cbv;rw[show decide (V.non=V.non)=true from decide_eq_true rfl];cbv;show kk Aq5 (o2.same s5) H5 tb5
def rK(K:Ye)(mg:Yh->Option Yd)(P_mk:Yc):Sp:=λvs H Q _=>E2 fun(p:Yc) (h:Int)=>vs=[.ref p,.int h]/\(E3 λS x z=>A6 (mQ K mg H p S x z) (0<=h) (lG P_mk H) (P_mk∉x.ft p z) (S.lg.length<=900) (∀H' l d,Off [p,P_mk] H H'->mQ K mg H' p {S with db:=d} x z->lG P_mk H'->H' l=Ya (.lst [])->Q (.ref l) H'))
variable{vT:Yc}{uq:Yr}(BK:∅ 3 ES Aa ["hand"] (AH K))(vL:∅ 3 vT uq ay (tQ K mg P_mk))(vy:Binds K uq ay [])(gS:aX K aU "settle" vT)
include eV BK yr vL vy nA aA aJ gS in
theorem BR(F:bx K "suspect" "Hand.suspect" l8 f fd):∅ 4 f fd vB (rK K mg P_mk):=by
 show F.oj rX ?_;rintro _ _ _ _ H _ _ _ hr _ _ _ ⟨p,h',rfl,h⟩;show#[_,(af (bh (i:=2) rX.nd rfl (Or.inl rfl) (bF (lK (K:=K) rfl) (by rfl) nA ags (aa (ao (K:=K) rfl (pv 0) rfl) ae)))
   (af (aR (K:=K) rfl (pv 0) (bw Dh (pv 1) (Eg IH (bg BK yr hr (aa (ao (K:=K) rfl (pv 0) rfl) ae)))) rfl)
   (af (bV (aQ (cC.cons aA.cl gS vL vy cC.nil) (pv 0) hr))
   (ai (aF (yE (Ew (K:=K) rfl) (ao (K:=K) rfl (pv 0) rfl) (Cv (pv 2)) Cy)))))),?_]
 show xl4 ?_;intro _ _;obtain⟨S,x,z,HI,h0,tb,nP,ll,kk⟩:=h;obtain⟨cl,n1,n2,n3,n4,n5,n6,n7,n8,n9,n10,n11,n12,n13,n14⟩:=id aA;obtain⟨pv,cv,HA,re⟩:=HI.r2;have eC:aU=x.C:=by have z:=HA.mH;rw[aJ]at z;cases z;rfl
 have hp:=HA.ob;rw[←eC]at hp;have lx:x.xs.length=S.lg.length:=Y2 HA.ev;have sl:bZ K H x.lg x.xs:=bZ.of HA.lg;have m1:=HA.m1;cbv;show#[S.me,rfl,HA.m0,by omega,?_];cbv;intro H1 b1 g1;rw[Xt,eC]at g1;have o1:Off [p] H H1:=λa u e n=>b1.at (λz=>n (by simp[z])) e;have k1:qO H H1:=o1.kpf1 hp (by change(14:Nat)≠5;decide);have HB:mQ K mg H1 p {S with db:=abJ h' (Y9 (2^S.me.toNat))} x z:=re H1 _ x #[HA.mH,HA.T,g1,k1.smh _ _ HA.pa,b1.at (cG HA.lg hp (by intro z;cases z)) HA.lg,tN k1.smh HA.ev,b1.at (cG HA.lo hp (by intro z;cases z)) HA.lo,HA.nl,HA.m0,HA.m1,(PJ h0 (Ee _)).1] rfl rfl rfl rfl #[[p],o1,k1,λa h=>.inl (Yo.mp h)];have pm:p∈x.ft p z:=IX (by simp);have tb1:=iB tb (λu e=>o1 _ _ e λz=>nP (by rw[Yo.mp z];show pm)) k1;obtain⟨pv1,cv1,HA1⟩:=HB.r;have hp1:=HA1.ob;rw[←eC]at hp1;cbv;show#[p,rfl,_,x,z,HB,tb1,nP,λH3 o3 H3A tb3=>?_];obtain⟨pv3,cv3,HA3⟩:=H3A.r;have hp3:=HA3.ob;rw[←eC]at hp3;have sl3:bZ K H3 x.lg x.xs:=bZ.of HA3.lg;cbv;intro l H4 hl s4 g4;rw[UL _ _ (aiE _),YK,ahO (Ym _)]at g4;show kk H4 l _ (λa u e n=>s4 _ _ (o3 _ _ (o1 _ _ e λz=>n (by simp at z;simp[z])) λz=>n (by simp at z;simp[z]))) (H3A.same s4) (iB tb3 (λu e=>s4 _ _ e) (.same s4)) g4
include eV in
theorem FE(F:bx K "take_event" "take_event" rB f fd):∅ 1 f fd LO (wD K):=by
 show F.oj FX ?_;rintro _ _ _ _ _ _ _ _ hr _ _ _ ⟨v,w',rfl,h⟩;show#[_,(ai (aF (cY (aa eW (aa (yE (Wl (K:=K) rfl) (pv 0) Cy (Cv ax)) (aa (fJ (dw (K:=K) rfl) (pv 0) ax (λ_ _=>rfl)) (aa (fJ (dw (K:=K) rfl) (pv 0) ax (λ_ _=>rfl)) (aa (fJ (dw (K:=K) rfl) (pv 0) ax (λ_ _=>rfl)) (aa (pv 1) ae))))))))),?_];obtain⟨c,⟨a,t,xs,rfl,e2,e3,e4⟩,rfl,kk⟩:=h;have st:=c8.of (K:=K) e2;have a3:Fx [V.int c.n,.int c.c,.int c.k,.str c.kd,.int c.w,.ref t] 3=Ya (.str c.kd):=by kernel_rfl
 have a4:Fx [V.int c.n,.int c.c,.int c.k,.str c.kd,.int c.w,.ref t] 4=Ya (.int c.w):=by kernel_rfl
 have a5:Fx [V.int c.n,.int c.c,.int c.k,.str c.kd,.int c.w,.ref t] 5=Ya (.ref t):=by kernel_rfl
 cbv;show abw e2 λr H1 hr s1 gr=>?_;have st1:=c8.of (K:=K) (s1 _ _ e2);cbv;intro t' H2 ht s2 g2;show kk H2 t' (s1.trans s2) #[t',r,t,xs,rfl,g2,s2 _ _ gr,(s1.trans s2) _ _ e3,Lf (s1.trans s2) e4]
variable{zT:Yc}{wH:Yr}(zA:∅ 1 zT wH LO (wD K))(zx:fH K mg "take_event" zT wH LO)
include eV zA zx aA aJ in
theorem wY(F:bx K "note_taken" "Hand.note_taken" iU f fd):∅ 2 f fd KC (mL K mg):=by
 show F.oj w9 ?_;rintro _ A _ _ H _ _ _ hr _ _ _ ⟨p,l,rfl,h⟩;show#[_,(ai (bV (KD adv ajv ajw Gp (ao (K:=K) rfl (pv 0) rfl) (aa (el ["told","why"] [Yb,Yb] rfl rfl (by kernel_rfl) (cJ (K:=K) rfl (pv 1)) (λ_ _ _ _ _ nd=>IS (K:=K) (n:=2) rfl rfl (qK (bR (i:=0) nd rfl (Or.inl rfl)) (qK (bR (i:=1) nd rfl (Or.inl rfl)) HU))) (λ_ _ _ _ _=>kY) (λ_ _ _ _ _=>(bg zA zx hr (aa (pv 0) (aa (pv 1) ae))))) ae)))),?_];obtain⟨S,x,z,ys,rw,HI,sl,tv,ll,ly,kk⟩:=h;obtain⟨pv,cv,HA,re⟩:=HI.r2;have hp:=HA.ob;obtain⟨cl,n1,n2,n3,n4,n5,n6,n7,n8,n9,n10,n11,n12,n13,n14⟩:=id HA.T;have gl:=HA.lg;have lx:x.xs.length=S.lg.length:=Y2 HA.ev;have lr:ys.length=rw.length:=Y2 tv;cbv;intro D hD;show dg (K:=K) (a:=l) (xs:=ys) (λi σ A=>E3 λv1 v2 zs=>A5 (σ=[v1,v2]) (aG H A) (A D=Ya (.lst zs)) (zs.length=i) (Q2 A zs ((rw.take i).map λq=>Eh.tke q.2))) #[Yb,Yb,[],rfl,aE hD,aj,rfl,.nil] (λi σ A _ z=>by obtain⟨_,_,_,_,z,_⟩:=z;show z.seq sl) ?_ ?_
 .rintro i v σ A hv ⟨v1,v2,zs,rfl,sA,gD,lz,ev⟩;obtain⟨q,hq,a,tt,rfl,ga,tl⟩:=jF tv hv;have hi:=(Yp.mp hv).1;have st:=c8.of (K:=K) (sA _ _ ga);cbv;show#[.ref tt,_,rfl,q.2,tl.up (.same sA),rfl,λAq1 t s1 e1=>?_];have gD1:=s1 _ _ gD;have kp:pT Aq1 (upd Aq1 D (.lst (zs++[.ref t]))):=pT.lst gD1;show#[zs,gD1,aN (by omega),_,_,zs++[.ref t],rfl,λb o z=>?_,aj,by rw[Yz,lz];rfl,?_]
  .rw[ak (au z hD)];show s1 _ _ (sA b o z)
  .rw[bI hq,YD];show wW (tN kp (tN (.same s1) ev)) (.cons (e1.up kp) .nil)
 rintro σ B ⟨v1,v2,zs,rfl,sB,gD,lz,ev⟩;rw[lr,Y6]at ev;have glB:=sB _ _ gl;show#[x.lg,D,x.xs,zs,rfl,rfl,glB,gD,tm (aN (by omega)),?_];have b:Om x.lg B (upd B x.lg (.lst (x.xs++zs))):=.upd;have g:upd B x.lg (.lst (x.xs++zs)) x.lg=Ya (.lst (x.xs++zs)):=aj;generalize upd B x.lg (.lst (x.xs++zs))=B1 at b g⊢;have o1:Off [x.lg] H B1:=λa u e n=>b.at (λz=>n (by simp[z])) (sB _ _ e);have k1:qO H B1:=o1.kpf1 gl trivial;have kB:pT B B1:=λa xs e=>b.at (cG e glB (by intro z;cases z)) e;show kk B1 zs (re B1 _ {x with xs:=x.xs++zs} #[HA.mH,HA.T,o1 _ _ HA.ob (λz=>cG HA.lg hp (by intro z;cases z) (Yo.mp z).symm),k1.smh _ _ HA.pa,g,wW (tN k1.smh HA.ev) (tN kB ev),o1 _ _ HA.lo (λz=>HA.nl (Yo.mp z).symm),HA.nl,HA.m0,HA.m1,HA.d0] rfl rfl rfl rfl #[[x.lg],o1,k1,λa h=>.inr (Yo.mp h)]) o1
variable{yc:Yc}{om:Yc}{vz:Yr}{lQ:Yr}(zE:aw P w K mg base (lH P w) 9 yc vz wg (vV K mg))(zX:Binds K vz wg [])(ka:aw P w K mg base (lH P w) 9 i5 iH ay (iD K mg))(oT:∅ 9 om lQ KC (mL K mg))(oy:Binds K lQ KC [])(dN:aX K aU "note_taken" om)(hV:aX K dC "utter" yc)
include eV zE zX ka gy oT oy aA bD aJ bH bX dN hV in
theorem Ip(F:bx K "call" "Hand.call" uO f fd):aw P w K mg base (lH P w) 10 f fd wg (zM K mg):=by
 show F.okX Iz (λvs H Q E h=>?_) (λcdv A outer s H vs Q E hr h=>?_)
 .obtain⟨p,kv,wv,rfl,_⟩:=h;rfl
 obtain⟨p,kv,wv,rfl,h⟩:=h;have hu64:=hr.units;have hu0:=hr.units0;have hu:=tH hr;show#[_,(af (bV (uD (pv 0) aA.cl bX ka hr gy .nil Hj))
   (af (bV (eJ (cC.cons aA.cl dN oT oy cC.nil) (pv 0) hr (aa (N0 (ao (K:=K) rfl (pv 0) rfl) bD.cl hV zE hr zX .nil Hj (aa (pv 1) (aa (pv 2) ae))) ae)))
   (ai (aF (cY (aa (ao (K:=K) rfl (ao (K:=K) rfl (pv 0) rfl) rfl) (aa (ao (K:=K) rfl (pv 0) rfl) (aa (ao (K:=K) rfl (ao (K:=K) rfl (pv 0) rfl) rfl) ae)))))))),?_]
 show xl3 ?_;intro _;obtain⟨cl,n1,n2,n3,n4,n5,n6,n7,n8,n9,n10,n11,n12,n13,n14⟩:=id aA;rcases h with⟨S,x,HI,k2⟩|⟨S,x,y,n,kd,w',rfl,rfl,HI,ow,hn,hkd,hw,ll,k1,k2⟩
 .obtain⟨pv,cv,HA⟩:=HI.r;have eC:aU=x.C:=by have z:=HA.mH;rw[aJ]at z;cases z;rfl
  have hp:=HA.ob;rw[←eC]at hp;cbv;show nV ?_;cbv;show#[p,_,_,rfl,hp,by kernel_rfl,?_];cbv;show#[p,rfl,S,x,Yb,HI,(λy ey=>nomatch ey),λ_=>k2]
 obtain⟨HA,P,ck,np,en,em⟩:=id HI;have eC:aU=x.C:=by have z:=HA.mH;rw[aJ]at z;cases z;rfl
 have hp:=HA.ob;rw[←eC]at hp;obtain⟨Cp,dxp,mP,Tp,hg⟩:=P.ob;rw[bH]at mP;cases mP;have T2:=bD.n2;have T5:=bD.n5;have Tc:=bD.cl;cbv;show nV ?_;cbv;show#[p,_,_,rfl,hp,by kernel_rfl,?_];cbv;show#[p,rfl,S,x,Ya y,HI,λ_ _=>?_,(λz=>nomatch z)];cbv;show nV ?_;cbv;show#[y.pg,_,_,rfl,hg,by kernel_rfl,?_];cbv;show#[y.pg,kd,w',rfl,y.S,y.y,P,aeq ow (by omega),hkd,hw,?_,λB j ea Ce s1 fl nn mh he hh=>?_]
 .intro H1 y' S' rw l ys v c j oB fr P1 ft fl hro nw st hl nl gl tv;rw[R0 ow fl]at hro;obtain⟨ek,kk⟩:=k1 hro;subst ek;obtain⟨q1,q2,q3,q4⟩:=aby ow nw;obtain⟨erw,ow'⟩:=Wk ow q1 q2 q3 q4 st;subst erw;have kf1:qO H H1:=rF oB P.fto;have eha:=acp st;have eha:S'.ha=y.S.ha:=eha;have ero:S'.ro=y.S.ro:=ow'.er;have H1A:mQ K mg H1 p S x (Ya {y with y:=y',S:=S'}):=by
   obtain⟨⟨C,dx,e,g⟩,g2⟩:=ck;show#[HA.off oB kf1.smh λa ha=>np a (by simp only[Yq,YF,or_false]at ha⊢;rcases ha with y|y|y<;>simp[y]),P1,#[#[C,dx,e,by change H1 y.ch=_;rw[eha];show oB _ _ g (np y.ch (by simp))],oB _ _ g2 (np y.rd (by simp))],λa ha z=>?_,ow'.en,ow'.em];have ha:a∈[p,x.lg,x.lo,y.ch,y.rd]:=ha;rcases ft a z with w|w
   .show np a ha w
   .have ex:∃u,H a=Ya u:=by
     simp only[Yq,YF,or_false]at ha;rcases ha with rfl|rfl|rfl|rfl|rfl
     .show#[_,HA.ob]
     .show#[_,HA.lg]
     .show#[_,HA.lo]
     .show#[_,g]
     .show#[_,g2]
    obtain⟨u,e⟩:=ex;rw[e]at w;cases w
  have f1:∀a∈x.ft p (Ya {y with y:=y',S:=S'}),a∈x.ft p (Ya y)∨H a=none:=λa ha=>by
   have ha:a∈[p,x.lg,x.lo,y.ch,y.rd]++y'.ft y.pg:=ha;rcases YV.mp ha with w|w
   .show .inl (pe _ w)
   .show(ft a w).imp (λz=>YE _ z) id
  have hp1:=H1A.1.ob;rw[←eC]at hp1;have ly:=Y2 tv;cbv;show#[p,l,rfl,S,x,_,ys,[(v,c)],H1A,bZ.of gl,tv,by omega,by rw[ly];change 1<=10;decide,λH2 us HB o2=>?_];have hp2:=HB.1.ob;rw[←show aU=_ from eC]at hp2;obtain⟨_,dx2,mP2,_,hg2⟩:=HB.2.1.ob;rw[bH]at mP2;cases mP2;cbv;intro t H3 ht s3 g3;show kk H3 t _ _ c (λa u e n=>s3 _ _ (o2 _ _ (oB _ _ e λz=>n (YE _ z)) λz=>n (by rw[Yo.mp z];show IX (by simp)))) (HB.same s3) ow' ero f1
 .rw[R0 ow fl]at nn hh;show k2 nn B ea Ce s1 mh he hh
variable{se:Yc}{oG:Yc}{qB:Yr}{lO:Yr}(rV:∅ 6 se qB KS (qw K mg))(rY:Binds K qB KS [])(m9:∅ 6 oG lO Lr (lR K))(nC:Binds K lO Lr [])(ui:Mk K d9 oG)(Ei:Mk K dC se)
include eV rV rY m9 nC PL bU aA bD cD aJ bH ui Ei in
theorem FF(F:bx K "enter" "Hand.enter" rm f fd):∅ 8 f fd K6 (vM K mg):=by
 show F.oj FT ?_;rintro _ _ _ _ H _ _ _ hr _ _ _ ⟨p,n,tp,rfl,h⟩;show#[_,(af (aR (K:=K) rfl (pv 0) (iA Ei rV hr rfl bH rY .nil rJ (aa (ao (K:=K) rfl (pv 0) rfl) (aa (pv 1) (aa (fJ (dw (K:=K) rfl) (pv 2) ax (λ_ _=>rfl)) (aa (ao (K:=K) rfl (pv 0) rfl) ae))))) rfl)
   (af (aR (K:=K) rfl (pv 0) (iA ui m9 hr rfl cD nC .nil rJ (aa (ao (K:=K) rfl (pv 0) rfl) (aa (fJ (dw (K:=K) rfl) (pv 2) ax (λ_ _=>rfl)) ae))) rfl)
   (af (aR (K:=K) rfl (pv 0) (pv 2) rfl)
   (af (aR (K:=K) rfl (pv 0) cE rfl)
   (af (aR (K:=K) rfl (pv 0) (bF (Ha rfl) (by rfl) PL aj9 (aa (ao (K:=K) rfl (pv 0) rfl) (aa (pv 1) ae))) rfl)
   (af (aR (K:=K) rfl (pv 0) (bw Dh (ao (K:=K) rfl (pv 0) rfl) (Eg IH (fJ (dw (K:=K) rfl) (pv 2) ax (λ_ _=>rfl)))) rfl)
   (af (aR (K:=K) rfl (pv 0) dB rfl)
   (ai (bV (xP (K:=K) rfl (KD adv ahv ahw ve (ao (K:=K) rfl (pv 0) rfl) (aa (cY (aa eW (aa (pv 1) (aa (fJ (dw (K:=K) rfl) (pv 2) ax (λ_ _=>rfl)) (aa (fJ (dw (K:=K) rfl) (pv 2) ax (λ_ _=>rfl)) (aa (fJ (dw (K:=K) rfl) (pv 2) ax (λ_ _=>rfl)) ae)))))) ae)))))))))))),?_]
 show xl8 ?_;intro _ _ _ _ _ _;obtain⟨S,x,pv,cv,o,ha,w',te,HA,gp0,hn,b0,bt1,ll,kk⟩:=h;have hp:=HA.ob;obtain⟨cl,n1,n2,n3,n4,n5,n6,n7,n8,n9,n10,n11,n12,n13,n14⟩:=id HA.T;have lx:x.xs.length=S.lg.length:=Y2 HA.ev;have stp:=c8.of (K:=K) gp0;have a0:Fx [V.int o,.int ha,.int w',.ref te] 0=Ya (.int o):=by kernel_rfl
 have a1:Fx [V.int o,.int ha,.int w',.ref te] 1=Ya (.int ha):=by kernel_rfl
 have a2:Fx [V.int o,.int ha,.int w',.ref te] 2=Ya (.int w'):=by kernel_rfl
 cbv;intro q dq Aq1 hq s1 g1;show#[q,S.me,n,ha,S.ro,rfl,_,dq,bH,bD,g1,b0,bt1,HA.m0,HA.m1,λAq2 xq k2 P2 fq=>#[rfl,?_]];have nq:∀{a u},H a=Ya u->a≠q:=λe z=>by rw[z,hq]at e;cases e
 have sA2:aG H Aq2:=λb u e=>k2 _ _ (s1 _ _ e) (nq e);have hpA:=sA2 _ _ hp;cbv;intro B1 b1 e1;rw[XG]at e1;have gtB:B1 tp=Ya (.tup [.int o,.int ha,.int w',.ref te]):=b1.at (cG (sA2 _ _ gp0) hpA (by intro z;cases z)) (sA2 _ _ gp0);have stp1:=c8.of (K:=K) gtB;cbv;intro c dc Aq3 hc s3 g3;show#[c,S.me,ha,rfl,_,dc,bU,g3,λAq4 rd k4 hrd grd gch=>#[rfl,?_]];have nc:∀{a u},B1 a=Ya u->a≠c:=λe z=>by rw[z,hc]at e;cases e
 have sA4:aG B1 Aq4:=λb u e=>k4 _ _ (s3 _ _ e) (nc e);have e1A:=sA4 _ _ e1;cbv;intro B2 b2 e2;rw[We]at e2;cbv;intro B3 b3 e3;rw[X4]at e3;cbv;intro B4 b4 e4;rw[XX]at e4;cbv;show#[S.nu,n,rfl,?_];rw[show(if n>S.nu then n else S.nu)=n by split<;>omega];cbv;intro B5 b5 e5;rw[XJ]at e5;have kB15:∀b u,B1 b=Ya u->b≠p->B5 b=Ya u:=λb u e n=>b5.at n (b4.at n (b3.at n (b2.at n (sA4 _ _ e))));have ntp:tp≠p:=cG gp0 hp (by intro z;cases z);have stp5:=c8.of (K:=K) (kB15 _ _ gtB ntp);cbv;intro B6 b6 e6;rw[Xw,Ju]at e6;cbv;intro B7 b7 e7;rw[Pm]at e7;have kB17:∀b u,B1 b=Ya u->b≠p->B7 b=Ya u:=λb u e n=>b7.at n (b6.at n (kB15 b u e n));have k07:∀b u,H b=Ya u->b≠p->B7 b=Ya u:=λb u e n=>kB17 _ _ (b1.at n (sA2 _ _ e)) n;have nlp:x.lg≠p:=cG HA.lg hp (by intro z;cases z);have glg:=k07 _ _ HA.lg nlp;have stp7:=c8.of (K:=K) (kB17 _ _ gtB ntp);cbv;intro t B8 ht s8 g8;have glg8:=s8 _ _ glg;have ls:x.xs.length<Yu:=aN (by omega);cbv;intro B9 b9 g9;have ntl:t≠x.lg:=cG g8 glg8 (by intro z;cases z);have k79:∀b u,B7 b=Ya u->b≠x.lg->B9 b=Ya u:=λb u e n=>b9.at n (s8 _ _ e);have k09:∀b u,H b=Ya u->b≠p->b≠x.lg->B9 b=Ya u:=λb u e m1 m2=>k79 _ _ (k07 _ _ e m1) m2;have o9:Off [p,x.lg] H B9:=λb u e m=>k09 b u e (λz=>m (by simp[z])) λz=>m (by simp[z]);have tpk:pT H B9:=λa xs e=>k09 _ _ e (cG e hp (by intro z;cases z)) (cG e HA.lg (by intro z;cases z));have gp9:=k79 _ _ e7 (cG e7 glg (by intro z;cases z));have nlo:x.lo≠p:=cG HA.lo hp (by intro z;cases z);have glo9:=k09 _ _ HA.lo nlo HA.nl.symm
 -- the page
 have nf:∀{a u},H a=Ya u->a∉xq.ft q:=fun{a u} e z=>by
  rcases fq a z with y|y
  .show nq e y
  .rw[s1 _ _ e]at y;cases y
 have o29:Off [p,x.lg] Aq2 B9:=λb u e m=>k79 _ _ (kB17 _ _ (b1.at (λz=>m (by simp[z])) e) λz=>m (by simp[z])) λz=>m (by simp[z]);have k29:qO Aq2 B9:=rF o29 λa ha=>by
  simp only[Yq,YF,or_false]at ha;rcases ha with rfl|rfl
  .show#[_,hpA,by change(14:Nat)≠5;decide]
  .show#[_,sA2 _ _ HA.lg,trivial]
 have P9:=P2.off o29 k29 λa z w=>by
  simp only[Yq,YF,or_false]at w;rcases w with y|y
  .show nf hp (y▸z)
  .show nf HA.lg (y▸z)
 -- the change
 have k49:∀b u,Aq4 b=Ya u->b≠p->b≠x.lg->B9 b=Ya u:=λb u e m1 m2=>k79 _ _ (b7.at m1 (b6.at m1 (b5.at m1 (b4.at m1 (b3.at m1 (b2.at m1 e)))))) m2;have ncp:c≠p:=λz=>by rw[z,e1]at hc;cases hc
 have gB1l:B1 x.lg=Ya (.lst x.xs):=b1.at nlp (sA2 _ _ HA.lg);have ncl:c≠x.lg:=λz=>by rw[z,gB1l]at hc;cases hc
 have hrd1:B1 rd=none:=s3.free hrd;have nrp:rd≠p:=λz=>by rw[z,e1]at hrd1;cases hrd1
 have nrl:rd≠x.lg:=λz=>by rw[z,gB1l]at hrd1;cases hrd1
 have gch9:=k49 _ _ gch ncp ncl;have grd9:=k49 _ _ grd nrp nrl;have fresh:∀{a},a≠p->B1 a=Yb->H a=Yb/\a∉xq.ft q:=fun{a} m e=>by
  have e2:Aq2 a=none:=by
   cases z:Aq2 a with
   |none=>rfl
   |some u=>rw[b1.at m z]at e;cases e
  show#[sA2.free e2,λz=>?_];obtain⟨u,g,_⟩:=P2.fto a z;rw[e2]at g;cases g
 obtain⟨hcH,ncF⟩:=fresh ncp hc;obtain⟨hrH,nrF⟩:=fresh nrp hrd1;show kk B9 {x with cb:=.ref tp,xs:=x.xs++[.ref t]} #[q,xq,Pg.new S.me n ha S.ro,c,rd] o9 ?_ rfl λa z=>?_
 .show#[#[HA.mH,HA.T,gp9,tpk _ _ HA.pa,g9,wW (tN tpk HA.ev) (.cons #[t,rfl,b9.at ntl g8] .nil),glo9,HA.nl,HA.m0,HA.m1,HA.d0],P9,#[#[_,dc,cD,gch9],grd9],λa ha'=>?_,rfl,rfl];have ha':a∈[p,x.lg,x.lo,c,rd]:=ha';simp only[Yq,YF,or_false]at ha';rcases ha' with rfl|rfl|rfl|rfl|rfl
  .show nf hp
  .show nf HA.lg
  .show nf HA.lo
  .show ncF
  .show nrF
 .have z:a∈[p,x.lg,x.lo,c,rd]++xq.ft q:=z;rcases YV.mp z with z|z
  .simp only[Yq,YF,or_false]at z;rcases z with rfl|rfl|rfl|rfl|rfl
   .show .inl (by simp)
   .show .inl (by simp)
   .show .inl (by simp)
   .show .inr hcH
   .show .inr hrH
  .rcases fq a z with y|y
   .show .inr (y▸hq)
   .show .inr (s1.free y)
variable{kZ:V}{zL:Yd}(fA:mg "LAST_HAND"=Ya zL)(fF:RelV kZ zL)(fB:zt K kZ)
include eV jK jE fA fF fB in
theorem NZ(F:bx K "is_hand" "is_hand" Ab f fd):∅ 2 f fd qp (E9 K):=by
 show F.oj Mu ?_;rintro _ _ _ _ H _ Q _ hr _ _ _ ⟨w',rfl,h⟩;show#[_,(ai (aF (iJ (bg jK jE hr (aa (pv 0) ae)) (kE (Lh Pe Pe ax (pv 0) (jT rfl fA fF)))))),?_];obtain rfl:kZ=.int 62:=fB;cbv;show#[w',rfl,?_];cbv;show#[_,rfl,_,_,rfl,rfl,_,rfl,?_];by_cases h0:0<=w'
 .rw[if_pos (decide_eq_true h0)];show#[_,_,rfl,rfl,?_];change Q (.bl (decide (w'<=62))) H;rw[show decide (w'<=62)=decide (0<=w'/\w'<=62)from by simp[h0]];show h
 .rw[if_neg (λz=>h0 (of_decide_eq_true z))];rw[show decide (0<=w'/\w'<=62)=false from by simp[h0]]at h;show h
include eV jK jE fA fF fB in
theorem RD(F:bx K "is_set" "is_set" Ds f fd):∅ 2 f fd qp (Hv K):=by
 show F.oj Qo ?_;rintro _ _ _ _ _ _ _ _ hr _ _ _ ⟨w',rfl,h⟩;show#[_,(ai (aF (iJ (bg jK jE hr (aa (pv 0) ae)) (kE (Lh Pe GS ax (pv 0) (bw oY ax (bw iV (jT rfl fA fF) ax))))))),?_];obtain rfl:kZ=.int 62:=fB;cbv;show#[w',rfl,?_];cbv;show#[_,rfl,_,_,rfl,rfl,_,rfl,?_];by_cases h0:0<=w'
 .rw[if_pos (decide_eq_true h0)];have cp:BU 1 63:=#[by decide,by decide,by decide];cbv;rw[show decide (w'<1*2^(62+ 1:Int).toNat)=decide (0<=w'/\w'<9223372036854775808)from by rw[show(1:Int)*2^(62+ 1:Int).toNat=9223372036854775808 by decide +kernel];simp[h0]];show h
 .rw[if_neg (λz=>h0 (of_decide_eq_true z))];rw[show decide (0<=w'/\w'<9223372036854775808)=false from by simp[h0]]at h;show h
variable{y3:Yc}{GO:Yc}{Ly:Yc}{aZ:Yc}{aY:Yc}{vn:Yr}{Ff:Yr}{GP:Yr}(LP:∅ 8 Vb MK G7 (M0 K))(zk:∅ 8 y3 vn K6 (vM K mg))(yt:Binds K vn K6 [])(G1:∅ 8 GO Ff qp (E9 K))(F5:fH K mg "is_hand" GO Ff qp)(JI:∅ 8 Ly GP qp (Hv K))(JX:fH K mg "is_set" Ly GP qp)(ig:aX K aU "enter" y3)(fV:mg "NoHand"=Ya (.ref aZ))(fY:mg "NoHands"=Ya (.ref aY))(u0:HY K aZ [.type "ValueError",.type "Exception",.type "BaseException",.type "object"] "ValueError.__new__")(rC:HY K aY [.type "ValueError",.type "Exception",.type "BaseException",.type "object"] "ValueError.__new__")
include eV LP O8 zk yt G1 F5 JI JX aA aJ ig fV fY u0 rC in
theorem AQ{t1:agl}(F:IG K "__init__" "Hand.__init__" ku f fd [.int 1 t0,.int 8 t1]):aw P w K mg base (lH P w) 9 f fd sX (jB K mg):=by
 show F.okX AR (λvs H Q E h=>?_) (λcdv A outer s H vs Q E hr h=>?_)
 .obtain⟨p,me,ha,nu,ro,rfl,_⟩:=h;rfl
 obtain⟨p,me,ha,nu,ro,rfl,h⟩:=h;have hu64:=hr.units;have hu0:=hr.units0;have hu:=tH hr;show#[_,(af (cW (oW (cK K rfl (bg G1 F5 hr (aa (pv 1) ae)))) (ai (zo afg (by decide +kernel) u0 (by rfl) fV (aa eW ae))) bC)
   (af (cW (PW.pt (pZ (oW (cK K rfl (bg JI JX hr (aa (pv 2) ae)))) (wN (aW tJ (pv 2) ax (aP _))))) (ai (zo afg (by decide +kernel) rC (by rfl) fY (aa eW ae))) bC)
   (af (aR (K:=K) rfl (pv 0) (pv 1) rfl)
   (af (aR (K:=K) rfl (pv 0) (pv 4) rfl)
   (af (aR (K:=K) rfl (pv 0) (pv 3) rfl)
   (af (aR (K:=K) rfl (pv 0) cE rfl)
   (af (aR (K:=K) rfl (pv 0) cE rfl)
   (af (aR (K:=K) rfl (pv 0) cE rfl)
   (af (aR (K:=K) rfl (pv 0) cE rfl)
   (af (aR (K:=K) rfl (pv 0) (cY ae) rfl)
   (af (aR (K:=K) rfl (pv 0) (bS ae) rfl)
   (af (aR (K:=K) rfl (pv 0) (bS ae) rfl)
   (af (aR (K:=K) rfl (pv 0) ax rfl)
   (af (aR (K:=K) rfl (pv 0) ax rfl)
   (af (aR (K:=K) rfl (pv 0) dB rfl)
   (af (aR (K:=K) rfl (pv 0) dB rfl)
   (ai (cW (cK K rfl (bg LP O8 hr (aa (pv 2) (aa (pv 1) ae)))) (ai (bV (eJ (cC.cons aA.cl ig zk yt cC.nil) (pv 0) hr (aa (pv 3) (aa (cY (aa ax (aa (pv 2) (aa (pv 2) (aa (cY ae) ae))))) ae))))) bC)))))))))))))))))),?_]
 show afy ?_;intro _ _ _ _ _ _ _ _ _ _ _ _ _ _ _;obtain⟨C,dx,mH,T,hp,k1,k2,k3,k4⟩:=h;have eC:=mH;rw[aJ]at eC;cases eC;obtain⟨cl,n1,n2,n3,n4,n5,n6,n7,n8,n9,n10,n11,n12,n13,n14⟩:=id T;show eQ ?_;cbv;show#[me,rfl,?_];by_cases hm:0<=me/\me<=62
 rotate_left
 .rw[decide_eq_false hm];cbv;show zD ?_;cbv;show#[by change(1:Nat)<=Yu;decide,λea he=>k1 hm _ ea _ (aE he) he fV aj]
 rw[decide_eq_true hm];have k2:=k2 hm;have k3:=k3 hm;have k4:=k4 hm;obtain⟨m0,m1⟩:=hm;cbv;show eQ ?_;cbv;show#[ha,rfl,?_];by_cases hs:0<=ha/\ha<9223372036854775808
 rotate_left
 .rw[decide_eq_false hs];cbv;show zD ?_;cbv;show#[by change(1:Nat)<=Yu;decide,λea he=>k2 (λz=>hs #[ae9 z.1,z.2]) _ ea _ (aE he) he fY aj]
 rw[decide_eq_true hs];obtain⟨h0,h1⟩:=hs;cbv;show fy (λz=>?_) λz=>?_
 .have z:ha=0:=of_decide_eq_true z;show zD ?_;cbv;show#[by change(1:Nat)<=Yu;decide,λea he=>k2 (λq=>by omega) _ ea _ (aE he) he fY aj]
 have nz:¬ ha=0:=λq=>z (decide_eq_true q);have hg:0<ha/\ha<9223372036854775808:=#[by omega,h1];have k3:=k3 hg;have k4:=k4 hg;cbv;intro H1 b1 g1;cbv;intro H2 b2 g2;cbv;intro H3 b3 g3;cbv;intro H4 b4 g4;cbv;intro H5 b5 g5;cbv;intro H6 b6 g6;cbv;intro H7 b7 g7;have k7:∀b o,H b=Ya o->b≠p->H7 b=Ya o:=λb o e n=>b7.at n (b6.at n (b5.at n (b4.at n (b3.at n (b2.at n (b1.at n e))))));cbv;intro pa Aq1 hpa s1 gpa;have g7':=s1 _ _ g7;cbv;intro H8 b8 g8;cbv;intro lg Aq2 hlg s2 glg;have g8':=s2 _ _ g8;cbv;intro H9 b9 g9;cbv;intro lo Aq3 hlo s3 glo;have g9':=s3 _ _ g9;cbv;intro H10 b10 g10;cbv;intro H11 b11 g11;cbv;intro H12 b12 g12;cbv;intro H13 b13 g13;cbv;intro H14 b14 g14;rw[XH]at g14;have np:∀{a:Yc} {A:Hp} {u:HO},A p=Ya u->A a=Yb->a≠p:=λe n z=>by rw[z]at n;rw[n]at e;cases e
 have npa:=np g7 hpa;have nlg:=np g8 hlg;have nlo:=np g9 hlo;have k10:∀b o,H10 b=Ya o->b≠p->H14 b=Ya o:=λb o e n=>b14.at n (b13.at n (b12.at n (b11.at n e)));have k9:∀b o,H9 b=Ya o->b≠p->H14 b=Ya o:=λb o e n=>k10 _ _ (b10.at n (s3 _ _ e)) n;have k8:∀b o,H8 b=Ya o->b≠p->H14 b=Ya o:=λb o e n=>k9 _ _ (b9.at n (s2 _ _ e)) n;have kA:∀b o,H7 b=Ya o->b≠p->H14 b=Ya o:=λb o e n=>k8 _ _ (b8.at n (s1 _ _ e)) n;have k0:∀b o,H b=Ya o->b≠p->H14 b=Ya o:=λb o e n=>kA _ _ (k7 b o e n) n;have fr:∀{a:Yc} {A:Hp},(∀b u,H b=Ya u->b≠p->A b=Ya u)->a≠p->A a=Yb->H a=none:=fun{a A} kA n e=>by
  cases z:H a with
  |none=>rfl
  |some u=>rw[kA a u z n]at e;cases e
 have flg:=fr (λb u e n=>b8.at n (s1 _ _ (k7 b u e n))) nlg hlg;have flo:=fr (λb u e n=>b9.at n (s2 _ _ (b8.at n (s1 _ _ (k7 b u e n))))) nlo hlo;have gpa14:=k8 _ _ (b8.at npa gpa) npa;have glg14:=k9 _ _ (b9.at nlg glg) nlg;have glo14:=k10 _ _ (b10.at nlo glo) nlo;have HA:Cq K mg H14 p #[me,ro,nu,[],0,false] #[aU,dx,.non,pa,lg,lo,[]] .non .non:=
  #[mH,T,g14,gpa14,glg14,.nil,glo14,(λz=>by have z:lg=lo:=z;rw[←z,b9.at nlg glg]at hlo;cases hlo),m0,by change me<63;omega,aeZ _]
 cbv;show#[ha,me,rfl,h0,m0,by omega,?_];cases hb:ha.toNat.testBit me.toNat with
 |false=>
  cbv;show k4 hb H14 #[aU,dx,.non,pa,lg,lo,[]] k0 HA λa h=>?_;have h:a∈[p,lg,lo]:=h;simp only[Yq,YF,or_false]at h;rcases h with rfl|rfl|rfl
  .show .inl rfl
  .show .inr flg
  .show .inr flo
 |true=>
  cbv;intro te B1 hte sB1 gte;cbv;intro tp B2 htp sB2 gtp;have sB:=sB1.trans sB2;have HB:=HA.off (F:=[]) (Off.of sB) (pT.same sB) λ_ _ z=>nomatch z
  have hpB:=sB _ _ g14;cbv;show#[p,nu,tp,rfl,_,_,_,_,0,ha,ha,te,HB,gtp,aeZ _,h0,h1,Y1 _,λH' x y o HC ey f=>?_];have nf:∀{b u},H b=Ya u->b≠p->b∉[p,lg]:=fun{b u} e n y=>by
   simp only[Yq,YF,or_false]at y;rcases y with y|y
   .show n y
   .rw[y,flg]at e;cases e
  show k3 hb H' x y (λb u e n=>o _ _ (sB _ _ (k0 b u e n)) (nf e n)) HC ey λa ga=>?_;rcases f a ga with y|y
  .have y:a∈[p,lg,lo]:=y;simp only[Yq,YF,or_false]at y;rcases y with rfl|rfl|rfl
   .show .inl rfl
   .show .inr flg
   .show .inr flo
  .by_cases y2:a=p
   .show .inl y2
   .show .inr (fr k0 y2 (sB.free y))
include eV nA in
theorem Cn(F:bx K "_law_cell_at" "_law_cell_at" mR f fd):∅ 1 f fd JE (rT K):=by
 show F.oj Cj ?_;rintro _ _ _ _ _ _ _ _ _ _ _ _ ⟨a,k,rfl,h⟩;show#[_,(af (cW (aW GS (pv 1) (bF (lK (K:=K) rfl) (by rfl) nA ags (aa (pv 0) ae)) (aP _)) (ai (aF (fJ (EW (K:=K) rfl) (pv 0) (pv 1) (λ_ _=>rfl)))) bC)
   (ai (aF ax))),?_]
 obtain⟨ns,hS,h0,q⟩:=h;cbv;show fy (λh1=>?_) λh1=>?_
 .have h1:k<((ns.map V.int).length:Nat):=of_decide_eq_true h1;rw[Yj]at h1;have hx:k.toNat<ns.length:=by omega
  have hat:Fx (ns.map V.int) k=Ya (V.int ns[k.toNat]):=Ox h0 (by rw[YJ,Yw hx];rfl);cbv;show q _
 .cbv;show q _
variable{kG:Yc}{aV:Yc}{fb:Yr}(iw:aw P w K mg base (lH P w) 9 kG fb sX (jB K mg))(d6:Binds K fb sX [])(lA:mg "ValueError"=Yb)(iT:Mk K aU kG)(fE:mg "GroupError"=Ya (.ref aV))(bG:vk K aV aV)(eK:vk K aZ aV)(dY:vk K aY aV)(ju:FO K aZ)(iI:FO K aY)(cZ:cw K (.ref aZ) (.type "ValueError")=Ya true)(fi:cw K (.ref aZ) (.ref aZ)=Ya true)(ed:cw K (.ref aZ) (.ref aY)=Ya false)(fK:cw K (.ref aZ) (.ref bp)=Ya false)(cU:cw K (.ref aY) (.type "ValueError")=Ya true)(eD:cw K (.ref aY) (.ref aZ)=Ya false)(dS:cw K (.ref aY) (.ref aY)=Ya true)(fg:cw K (.ref aY) (.ref bp)=Ya false)
include eV iw d6 lA br aA aJ iT fE fV fY iu bG eK dY ju iI cZ fi ed fK cU eD dS fg in
theorem Jp(F:bx K "_law_made" "_law_made" sN f fd):∅ 11 f fd L0 (yy K mg):=by
 show F.oj lD ?_;rintro _ _ _ _ _ _ _ _ hr _ _ _ ⟨me,ha,nu,ro,rfl,h⟩;show#[_,(af (bh (i:=4) lD.nd rfl (Or.inl rfl) (bS ae))
   (af (DI (K:=K) (i:=5) rfl rfl rfl lD.nd rfl rfl (by rfl) fE bG (λpins EE=>(ai (bV (SD iT iw hr (by rfl) aJ d6 (aa (pv 0) (aa (pv 1) (aa (pv 2) (aa (pv 3) ae)))))))) (λea=>(ai (bh (i:=4) lD.nd rfl (Or.inl rfl) (bS (aa (bF (j9 (K:=K) rfl) (by rfl) br YW (aa (pv 5) (aa (ou (T:="ValueError") lA PyProof.Rows.Boot.«ValueError») ae))) (aa (bF (j9 (K:=K) rfl) (by rfl) br YW (aa (pv 5) (aa (jT (v:=.ref aZ) rfl fV rfl) ae))) (aa (bF (j9 (K:=K) rfl) (by rfl) br YW (aa (pv 5) (aa (jT (v:=.ref aY) rfl fY rfl) ae))) (aa (bF (j9 (K:=K) rfl) (by rfl) br YW (aa (pv 5) (aa (jT (v:=.ref bp) rfl iu rfl) ae))) ae)))))))))
   (ai (aF (pv 4))))),?_]
 cbv;intro l0 H0 hl0 s0 g0;show eQ ?_;dsimp only;show PH ?_;cbv;show XY ?_;cbv;show adz λx dx H1 hx s1 g1=>?_;have s01:=s0.trans s1;show#[x,me,ha,nu,ro,rfl,_,dx,aJ,aA,g1,λhm H2 ea C s2 hea mc g2=>?_,λhm hs H2 ea C s2 hea mc g2=>?_,λhm hs hb=>?_,λhm hs hb=>?_]
 .rw[fV]at mc;cases mc;show#[ea,_,rfl,rfl,eK,?_];rcases h with⟨_,kk⟩|⟨y,_⟩
  rotate_left
  .show absurd y hm
  cbv;show kR (λu r=>r) g2 ju cZ ?_;cbv;show kR (λu r=>r) g2 ju fi ?_;cbv;show kR (λu r=>r) g2 ju ed ?_;cbv;show kR (λu r=>r) g2 ju fK ?_;cbv;intro l H3 hl s3 g3;unfold Iv;dsimp only;cbv;show kk H3 l (s01.trans (s2.trans s3)) g3
 .rw[fY]at mc;cases mc;show#[ea,_,rfl,rfl,dY,?_];rcases h with⟨y,_⟩|⟨_,_,kk⟩
  .show absurd hm y
  cbv;show kR (λu r=>r) g2 iI cU ?_;cbv;show kR (λu r=>r) g2 iI eD ?_;cbv;show kR (λu r=>r) g2 iI dS ?_;cbv;show kR (λu r=>r) g2 iI fg ?_;cbv;intro l H3 hl s3 g3;unfold Iv;dsimp only;cbv;show kk H3 l (s01.trans (s2.trans s3)) g3
 .rcases h with⟨y,_⟩|⟨_,y,_⟩
  .show absurd hm y
  .show absurd hs y
 .rcases h with⟨y,_⟩|⟨_,y,_⟩
  .show absurd hm y
  .show absurd hs y
variable{yR:Yc}{yx:Yc}{BC:Yc}{By:Yc}{vG:Yr}{pK:Yr}{yM:Yr}{zV:Yr}{tf:agl}(yo:aw P w K mg base (lH P w) 10 yR vG ay (vU K mg))(yQ:Binds K vG ay [])(zh:aw P w K mg base (lH P w) 10 yx pK Df (vJ K mg))(jR:Binds K pK Df [.int 1 tf])(Jc:Binds K pK Df [])(BF:aw P w K mg base (lH P w) 10 BC yM ay (zN K mg))(Bc:Binds K yM ay [])(kg:aw P w K mg base (lH P w) 10 By zV wg (zM K mg))(j5:Binds K zV wg [])(dD:aX K aU "call" By)(iO:aX K aU "come" BC)(ik:aX K aU "leave" yR)(hW:aX K aU "renew" yx)(fG:vk K cg aV)(eS:vk K bp aV)(lW:FO K bp)(rq:FO K cg)(dA:cw K (.ref bp) (.type "ValueError")=Ya true)(gU:cw K (.ref bp) (.ref bp)=Ya true)(ie:cw K (.ref bp) (.ref cg)=Ya false)(fR:cw K (.ref bp) (.ref aZ)=Ya false)(dP:cw K (.ref cg) (.type "ValueError")=Ya true)(hZ:cw K (.ref cg) (.ref bp)=Ya false)(jk:cw K (.ref cg) (.ref cg)=Ya true)(gK:cw K (.ref cg) (.ref aZ)=Ya false)
include eV yo yQ zh jR Jc BF Bc kg j5 lA br aA aJ dD iO ik hW fE qW fV iu bG fG eS lW rq dA gU ie fR dP hZ jk gK in
theorem BO(F:bx K "_law_refused" "_law_refused" l9 f fd):∅ 11 f fd Kt (rS K mg):=by
 show F.oj iq ?_;rintro _ A _ s _ _ _ _ hr _ _ _ ⟨p,d,c,rfl,h⟩;show#[_,(af (bh (i:=3) iq.nd rfl (Or.inl rfl) (bS ae))
   (af (DI (K:=K) (i:=4) rfl rfl rfl iq.nd rfl rfl (by rfl) fE bG (λpins EE=>(af (cW (aW tJ (pv 1) ax (aP _)) (ai (bV (Jx (pv 0) aA.cl dD kg hr j5 (aa (fJ (EW (K:=K) rfl) (bS (aa eW (aa eW (aa eW (aa eW ae))))) (bw ji (pv 2) ax) (λ_ _=>rfl)) (aa (fJ (EW (K:=K) rfl) (bS (aa ax (aa (bw Ja ax ax) (aa dB ae)))) (bw ji (bw CK (pv 2) ax) ax) (λ_ _=>rfl)) ae))))) bC)
   (af (cW (aW tJ (pv 1) ax (aP _)) (ai (bV (AB (pv 0) aA.cl hW zh hr jR (show Vals [V.int 1] _ from(.cons #[_,rfl] .nil))))) bC)
   (af (cW (aW tJ (pv 1) ax (aP _)) (ai (bV (AB (pv 0) aA.cl ik yo hr yQ .nil))) bC)
   (ai (cW (aW tJ (pv 1) ax (aP _)) (ai (bV (AB (pv 0) aA.cl iO BF hr Bc .nil))) bC)))))) (λea=>(ai (bh (i:=3) iq.nd rfl (Or.inl rfl) (bS (aa (bF (j9 (K:=K) rfl) (by rfl) br YW (aa (pv 4) (aa (ou (T:="ValueError") lA PyProof.Rows.Boot.«ValueError») ae))) (aa (bF (j9 (K:=K) rfl) (by rfl) br YW (aa (pv 4) (aa (jT (v:=.ref bp) rfl iu rfl) ae))) (aa (bF (j9 (K:=K) rfl) (by rfl) br YW (aa (pv 4) (aa (jT (v:=.ref cg) rfl qW rfl) ae))) (aa (bF (j9 (K:=K) rfl) (by rfl) br YW (aa (pv 4) (aa (jT (v:=.ref aZ) rfl fV rfl) ae))) ae)))))))))
   (ai (aF (pv 3))))),?_]
 show xl3 ?_;intro _;obtain⟨S,x,z,HI,hh⟩:=h;cbv;intro l0 H0 hl0 s0 g0;cbv;have HI0:=HI.same s0;obtain⟨pv,cv,HA⟩:=HI0.r;have eC:aU=x.C:=by have z:=HA.mH;rw[aJ]at z;cases z;rfl
 have hp:=HA.ob;rw[←eC]at hp;have q0:=adh c (show(4:Int)≠0 by decide);have q1:=adl c (show(0:Int)<4 by decide);have r0:=adh (c / 4) (show(3:Int)≠0 by decide);have r1:=adl (c / 4) (show(0:Int)<3 by decide);obtain⟨kv,ekv⟩:=at4 (a:=V.str "own") (b:=V.str "one") (c:=V.str "loud") (d:=V.str "") q0 q1;have cp:BU 10 60:=#[by decide,by decide,by decide];obtain⟨wv,ewv⟩:=at3 (a:=V.int 5) (b:=V.int (10^(60:Int).toNat)) (c:=V.bl true) r0 r1;show eQ ?_;show Tt λEE hEE=>?_;rcases hh with⟨rfl,hd,kk⟩|⟨rfl,rfl,kk⟩|⟨⟨y,rfl⟩,rfl,kk⟩
 .have key:∀(H2:Hp) (ea:Yc),aG H0 H2->H2 ea=Ya (xD ea bp Yb)->EE [Ya (.ref p),Ya (.int d),Ya (.int c),Ya (.ref l0),Yb] (.ref ea) (Ya bp) H2:=λH2 ea s2 g2=>by
   show hEE _ ea _ H2 eS ?_;cbv;show kR (λu r=>r) g2 lW dA ?_;cbv;show kR (λu r=>r) g2 lW gU ?_;cbv;show kR (λu r=>r) g2 lW ie ?_;cbv;show kR (λu r=>r) g2 lW fR ?_;cbv;intro l H3 hl s3 g3;unfold Iv;dsimp only;cbv;show kk H3 l (s0.trans (s2.trans s3)) g3
  have ni:∀{A:Hp},aG H0 A->NiE mg A (EE [Ya (.ref p),Ya (.int d),Ya (.int c),Ya (.ref l0),Yb]):=fun{A} sA H' ea C s hea mc g=>by
   rw[iu]at mc;cases mc;show key H' ea (sA.trans s) g
  rcases hd with rfl|rfl|rfl
  .show eQ ?_;cbv;show fy (λ_=>?_) λz=>(z rfl).elim;show Oz ?_;cbv;show#[p,_,_,rfl,hp,by kernel_rfl,?_];cbv;intro a1 H1 ha1 s1 g1;have sl1:=bZ.of (K:=K) g1;cbv;intro a2 H2 ha2 s2 g2;have sl2:=bZ.of (K:=K) g2;cbv;show#[p,_,_,rfl,.inl #[S,x,HI0.same (s1.trans s2),ni (s1.trans s2)]]
  .show eQ ?_;cbv;show fy (λz=>absurd (of_decide_eq_true z) (by decide)) λ_=>?_;show pQ ?_;dsimp only;show eQ ?_;cbv;show fy (λ_=>?_) λz=>(z rfl).elim;show yq ?_;cbv;show#[p,_,_,rfl,hp,by kernel_rfl,?_];show#[p,_,rfl,S,x,HI0,ni (.refl _)]
  .show eQ ?_;cbv;show fy (λz=>absurd (of_decide_eq_true z) (by decide)) λ_=>?_;show pQ ?_;dsimp only;show eQ ?_;cbv;show fy (λz=>absurd (of_decide_eq_true z) (by decide)) λ_=>?_;show pQ ?_;dsimp only;show eQ ?_;cbv;show fy (λ_=>?_) λz=>(z rfl).elim;show yq ?_;cbv;show#[p,_,_,rfl,hp,by kernel_rfl,?_];show#[p,rfl,S,x,HI0,ni (.refl _)]
 .show eQ ?_;cbv;show fy (λz=>absurd (of_decide_eq_true z) (by decide)) λ_=>?_;show pQ ?_;dsimp only;show eQ ?_;cbv;show fy (λz=>absurd (of_decide_eq_true z) (by decide)) λ_=>?_;show pQ ?_;dsimp only;show eQ ?_;cbv;show fy (λz=>absurd (of_decide_eq_true z) (by decide)) λ_=>?_;show pQ ?_;dsimp only;cbv;show fy (λ_=>?_) λz=>(z rfl).elim;show yq ?_;cbv;show#[p,_,_,rfl,hp,by kernel_rfl,?_];show#[p,rfl,S,x,Yb,HI0,(λy ey=>nomatch ey),λ_ H1 HI1 o1=>?_];cbv;have nl:l0≠p:=λz=>by rw[z,hp]at g0;cases g0
  show kk H1 l0 (λa u e n=>o1 _ _ (s0 _ _ e) n) HI1 (o1 _ _ g0 λz=>nl (Yo.mp z))
 .have key:∀(H2:Hp) (ea:Yc),aG H0 H2->H2 ea=Ya (xD ea cg Yb)->EE [Ya (.ref p),Ya (.int 3),Ya (.int c),Ya (.ref l0),Yb] (.ref ea) (Ya cg) H2:=λH2 ea s2 g2=>by
   show hEE _ ea _ H2 fG ?_;cbv;show kR (λu r=>r) g2 rq dP ?_;cbv;show kR (λu r=>r) g2 rq hZ ?_;cbv;show kR (λu r=>r) g2 rq jk ?_;cbv;show kR (λu r=>r) g2 rq gK ?_;cbv;intro l H3 hl s3 g3;unfold Iv;dsimp only;cbv;show kk H3 l (s0.trans (s2.trans s3)) g3
  show eQ ?_;cbv;show fy (λz=>absurd (of_decide_eq_true z) (by decide)) λ_=>?_;show pQ ?_;dsimp only;show eQ ?_;cbv;show fy (λz=>absurd (of_decide_eq_true z) (by decide)) λ_=>?_;show pQ ?_;dsimp only;show eQ ?_;cbv;show fy (λz=>absurd (of_decide_eq_true z) (by decide)) λ_=>?_;show pQ ?_;dsimp only;cbv;show fy (λ_=>?_) λz=>(z rfl).elim;show yq ?_;cbv;show#[p,_,_,rfl,hp,by kernel_rfl,?_];show#[p,rfl,S,x,Ya y,HI0,(λy' ey H' ea C s hea mc g=>?_),λz=>nomatch z];rw[qW]at mc;cases mc;show key H' ea s g
include eV vd in
theorem FG(F:bx K "_law_group" "_law_group" qY f fd):∅ 1 f fd Kd (vE K):=by
 show F.oj jM ?_;rintro _ A _ _ H _ _ _ _ _ _ _ ⟨c,rfl,h⟩;show#[_,(af (bh (i:=1) jM.nd rfl (Or.inl rfl) (bw oY ax (bw ji (bw CK (pv 0) ax) ax)))
   (af (pO BP rfl (AD rfl vd (aa (bw ji (pv 0) ax) ae)) (bR (i:=2) jM.nd rfl (Or.inl rfl))
   (ai (bh (i:=1) jM.nd rfl (Or.inl rfl) (bw Uc (pv 1) (bw oY ax (bw ji (bw Vl (pv 0) (bw iV ax (bw VL ax (pv 2)))) ax))))))
   (ai (aF (pv 1))))),?_]
 show xl3 ?_;intro _;have kk:=h;have d0:=adh (c / 7) (show(63:Int)≠0 by decide);have d1:=adl (c / 7) (show(0:Int)<63 by decide);have c6:=adh c (show(6:Int)≠0 by decide);have c6':=adl c (show(0:Int)<6 by decide);have cp:BU 1 (c / 7%63):=#[d0,by omega,by decide];cbv;have gk0:GOk (1*(2:Int)^(c / 7%63).toNat) (1+ 0):=#[(CL d0 d1).1,(CL d0 d1).2,Pl d0];show#[_,rfl,by omega,by omega,?_];let jJ5:Nat->St->Hp->Prop:=λi σ A=>E2 λv g=>A3 (σ=[Ya (.int c),Ya (.int g),v]) (A=H) (GOk g (1+ i));show Hg jJ5 #[Yb,_,rfl,rfl,gk0] ?_ ?_
 .rintro i σ A hi ⟨v,g,rfl,rfl,gk⟩;have m1:UA 62 (0+ (i:Int)):=.inl #[by omega,by omega];have v1:aaL c (441+ 62*(0+ (i:Int))):=#[by omega,by omega];have e0:=adh (c / (441+ 62*(0+ (i:Int)))) (show(63:Int)≠0 by decide);have e1:=adl (c / (441+ 62*(0+ (i:Int)))) (show(0:Int)<63 by decide);have cp:BU 1 (c / (441+ 62*(0+ (i:Int)))%63):=#[e0,by omega,by decide];cbv;obtain⟨q0,q1,_⟩:=gor gk.p gk.l e0 e1;have q2:=Qg gk.p gk.l e0 e1;have q3:=gk.n;show#[_,_,rfl,rfl,q0,q1,by omega]
 rintro σ A ⟨v,g,rfl,rfl,gk⟩;cbv;show kk g gk.p gk.l (by have:=gk.n;omega)
def sC(K:Ye)(mg:Yh->Option Yd)(P_mk:Yc):Sp:=λvs H Q _=>E2 fun(p:Yc) (c:Int)=>vs=[.ref p,.int c]/\(E2 λS x=>A5 (mQ K mg H p S x Yb) (S.lg=[]) (lG P_mk H) (P_mk∉x.ft p Yb) (∀H',lG P_mk H'->Q (.bl true) H'))
variable{pI:Yc}{wq:Yc}{BI:Yc}{sE:Yc}{y6:Yc}{Bh:Yc}{wJ:Yc}{ue:Yc}{uy:Yc}{lY:Yr}{sP:Yr}{yn:Yr}{qA:Yr}{vW:Yr}{zy:Yr}{uX:Yr}{sh:Yr}{sv:Yr}(hJ:∅ 11 pI lY ay (mK K mg))(eO:Binds K lY ay [])(jU:∅ 11 wq sP ay (uT K mg))(jP:Binds K sP ay [])(nH:∅ 11 BI yn ay (y9 K mg))(oR:Binds K yn ay [])(gj:∅ 11 mv kq ay (kK K mg))(fW:∅ 11 sE qA ay (qM K mg))(fQ:Binds K qA ay [])(lF:∅ 11 y6 vW ay (wF K mg))(kX:Binds K vW ay [])(Bl:∅ 11 Bh zy ay (zQ K mg))(Bg:Binds K zy ay [])(vP:∅ 11 wJ uX ay (uj K mg))(vZ:Binds K uX ay [])(i0:∅ 11 ue sh vB (rK K mg P_mk))(jg:Binds K sh vB [])(gO:∅ 11 uy sv Kt (rS K mg))(gR:fH K mg "_law_refused" uy sv Kt)(eI:aX K aU "book" BI)(bQ:aX K aU "events" pI)(i4:aX K aU "kept" Bh)(gW:aX K aU "places" wJ)(cc:aX K aU "standing" sE)(c7:aX K aU "strays" wq)(cN:aX K aU "suspect" ue)(dF:aX K aU "taken" y6)
include eV hJ eO jU jP nH oR gj eY fW fQ lF kX Bl Bg vP vZ i0 jg gO gR aA aJ eI bQ i4 gW cc bO c7 cN dF in
theorem Cm(F:bx K "_law_outside" "_law_outside" l7 f fd):∅ 12 f fd Jw (sC K mg P_mk):=by
 show F.oj sg ?_;rintro _ A _ _ H _ _ _ hr hu64 hu0 _ ⟨p,c,rfl,h⟩;show#[_,(af (pO BP rfl (cJ (K:=K) rfl (bS (aa (bw ji (pv 1) ax) (aa (bw ji (bw iV (pv 1) ax) ax) (aa (bw ji (bw iV (pv 1) ax) ax) ae))))) (bR (i:=2) sg.nd rfl (Or.inl rfl))
   (ai (cW (aW (kI (K:=K) rfl hu64) (bg gO gR hr (aa (pv 0) (aa (pv 2) (aa (bw CK (pv 1) ax) ae)))) (bS (aa dB (aa dB (aa dB (aa dB ae))))) (aP _)) (ai (aF dB)) bC)))
   (af (cW (PW.pt (pZ (aW jY (aQ (cC.cons aA.cl cc fW fQ cC.nil) (pv 0) hr) cE (aP _)) (pZ (aW jY (aQ (cC.cons aA.cl bO gj eY cC.nil) (pv 0) hr) cE (aP _)) (wN (aW (kI (K:=K) rfl hu64) (aQ (cC.cons aA.cl bQ hJ eO cC.nil) (pv 0) hr) (bS ae) (aP _)))))) (ai (aF dB)) bC)
   (af (cW (PW.pt (pZ (aW (abe hu0) (aQ (cC.cons aA.cl dF lF kX cC.nil) (pv 0) hr) mT (aP _)) (pZ (aW (kI (K:=K) rfl hu64) (aQ (cC.cons aA.cl i4 Bl Bg cC.nil) (pv 0) hr) (bS ae) (aP _)) (pZ (aW (kI (K:=K) rfl hu64) (aQ (cC.cons aA.cl gW vP vZ cC.nil) (pv 0) hr) (bS ae) (aP _)) (pZ (aW (kI (K:=K) rfl hu64) (aQ (cC.cons aA.cl c7 jU jP cC.nil) (pv 0) hr) (bS ae) (aP _)) (wN (aW (kI (K:=K) rfl hu64) (aQ (cC.cons aA.cl eI nH oR cC.nil) (pv 0) hr) (cY ae) (aP _)))))))) (ai (aF dB)) bC)
   (ai (aF (iJ (eT (AE (K:=K) rfl hu64) (eJ (cC.cons aA.cl cN i0 jg cC.nil) (pv 0) hr (aa (bw ji (pv 1) (bw oY ax ax)) ae)) (bS ae) (aP _)) (iJ (eT (AE (K:=K) rfl hu64) (bg gO gR hr (aa (pv 0) (aa ax (aa (pv 1) ae)))) (bS ae) (aP _)) (kE (eT uN (aQ (cC.cons aA.cl cc fW fQ cC.nil) (pv 0) hr) cE (aP _)))))))))),?_]
 show xl4 ?_;intro _ _;obtain⟨S,x,HI,elg,tb,nP,kk⟩:=h;have HA:Cq K mg H p S x .non .non:=HI;have eC:aU=x.C:=by have z:=HA.mH;rw[aJ]at z;cases z;rfl
 have hp:=HA.ob;rw[←eC]at hp;have lx:x.xs.length=S.lg.length:=Y2 HA.ev;rw[elg]at lx;have exs:x.xs=[]:=ahE.mp lx;cbv;intro l H1 hl s1 g1;have sl:=bZ.of (K:=K) g1;show#[l,rfl,#[_,sl],?_];show j0 (K:=K) (a:=l) (xs:=[V.int (c%3),.int ((c+ 1)%3),.int ((c+ 2)%3)]) (λi σ A=>∃v,σ=[Ya (.ref p),Ya (.int c),v]/\aG H1 A) #[Yb,rfl,.refl _] (λi σ A _ z=>by obtain⟨_,_,z⟩:=z;show z.seq sl) ?_ ?_
 .rintro i v σ A hv ⟨v0,rfl,sA⟩;obtain⟨d,rfl,hd⟩:∃d:Int,v=.int d/\(d=0∨d=1∨d=2):=by
   have:=Y0 hv;simp only[Yq,YF,or_false]at this;rcases this with rfl|rfl|rfl
   .show#[_,rfl,by omega]
   .show#[_,rfl,by omega]
   .show#[_,rfl,by omega]
  have HIA:=(HI.same s1).same sA;cbv;show#[p,d,_,rfl,S,x,Yb,HIA,.inl #[rfl,hd,λAq1 r s2 g2=>?_]];cbv;intro r2 Aq2 hr2 s3 g3;show IZ (show B4 Aq2 r true true false false from s3 _ _ g2) (show B4 Aq2 r2 true true false false from g3) ?_;cbv;show#[_,rfl,sA.trans (s2.trans s3)]
 rintro σ A ⟨v0,rfl,sA⟩;have t1:=s1.trans sA;have HI1:=HI.same t1;have HA1:Cq K mg A p S x .non .non:=HI1;have hp1:=t1 _ _ hp;have tb1:=iB tb (λu e=>t1 _ _ e) (.same t1);show eQ ?_;cbv;show#[p,rfl,S,x,Yb,HI1,(λ_=>?_),λy z=>nomatch z];cbv;rw[show decide (V.non=V.non)=true from decide_eq_true rfl];cbv;show#[p,rfl,S,x,Yb,HI1,?_];cbv;rw[show decide (V.non=V.non)=true from decide_eq_true rfl];cbv;show#[p,rfl,S,x,Yb,HI1,λAq2 r s2 hr2 g2=>?_];rw[exs]at g2;cbv;intro r3 Aq3 hr3 s3 g3;show Ea (s3 _ _ g2) g3 ?_;have t3:=s2.trans s3;have HI3:=HI1.same t3;have hp3:=t3 _ _ hp1;cbv;show#[p,rfl,S,x,Yb,HI3,(λy z=>nomatch z),λAq4 r4 s4 g4=>?_];cbv;intro r5 Aq5 hr5 s5 g5;show aaO (m:=[]) (.inl (s5 _ _ g4)) (.inl g5) ?_;rw[show(!(List.isEmpty ([]:List (Int×Int))))=false from rfl];have t5:=t3.trans (s4.trans s5);have HI5:=HI1.same t5;have hp5:=t5 _ _ hp1;cbv;show#[p,rfl,S,x,HI5,λAq6 r6 s6 g6=>?_];cbv;intro r7 Aq7 hr7 s7 g7;show Ea (s7 _ _ g6) g7 ?_;have t7:=t5.trans (s6.trans s7);have HI7:=HI1.same t7;have hp7:=t7 _ _ hp1;cbv;show#[p,rfl,S,x,HI7,λAq8 r8 s8 g8=>?_];cbv;intro r9 Aq9 hr9 s9 g9;show Ea (s9 _ _ g8) g9 ?_;have t9:=t7.trans (s8.trans s9);have HI9:=HI1.same t9;have hp9:=t9 _ _ hp1;cbv;show#[p,rfl,S,x,Yb,HI9,λB1 q1 u1 hq1 w1=>?_];cbv;intro q2 B2 hq2 u2 w2;show Ea (u2 _ _ w1) w2 ?_;have t11:=t9.trans (u1.trans u2);have HI11:=HI1.same t11;have hp11:=t11 _ _ hp1;have HA11:Cq K mg B2 p S x .non .non:=HI11;cbv;show#[p,rfl,S,x,Yb,HI11,?_];cbv;intro q3 B3 hq3 u3 w3;show abt (u3 _ _ HA11.pa) w3 ?_;have t12:=t11.trans u3;have HI12:=HI1.same t12;have hp12:=t12 _ _ hp1;have tb12:=iB tb1 (λu e=>t12 _ _ e) (.same t12);have c63:BU 1 63:=#[by decide,by decide,by decide];have h63:(0:Int)<1*2^agP 63:=by decide
 cbv;show#[p,_,rfl,S,x,Yb,HI12,adh _ (Int.ne_of_gt h63),tb12,nP,by rw[elg];show Y1 _,λB4 q4 d o4 HI4 tb4 w4=>?_];cbv;intro q5 B5 hq5 u5 w5;show MR (u5 _ _ w4) w5 ?_;have HI13:=HI4.same u5;have tb13:=iB tb4 (λu e=>u5 _ _ e) (.same u5);cbv;show#[p,3,_,rfl,_,x,Yb,HI13,.inr (.inl #[rfl,rfl,λB6 q6 o6 HI6 w6=>?_])];have nPp:P_mk≠p:=λz=>nP (by rw[z];show Yy);have tb6:lG P_mk B6:=by
  obtain⟨HA13r⟩:Nonempty (Cq K mg B5 p _ x .non .non):=#[HI13];have k6:qO B5 B6:=o6.kpf1 HA13r.ob (by change(14:Nat)≠5;decide);show iB tb13 (λu e=>o6 _ _ e λz=>nPp (Yo.mp z)) k6
 cbv;intro q7 B7 hq7 u7 w7;show MR (u7 _ _ w6) w7 ?_;have HI7':=HI6.same u7;have HA7':Cq K mg B7 p _ x .non .non:=HI7';have hp7':=HA7'.ob;rw[←eC]at hp7';cbv;show#[p,rfl,_,x,Yb,HI7',(λ_=>?_),λy z=>nomatch z];cbv;rw[show decide (V.non=V.non)=true from decide_eq_true rfl];show kk B7 (iB tb6 (λu e=>u7 _ _ e) (.same u7))
def tS(K:Ye)(mg:Yh->Option Yd)(P_mk:Yc):Sp:=λvs H Q _=>E3 fun(p:Yc) (nu ha:Int)=>vs=[.ref p,.int nu,.int ha]/\(E3 λS x y=>A9 (mQ K mg H p S x (Ya y)) (S.nu=nu) (y.S.ha=ha) (S.lg=[.lst nu ha 0 ha]) (y.S.dn=[]) (0<=ha) (lG P_mk H) (P_mk∉x.ft p (Ya y)) (∀H',lG P_mk H'->Q (.bl true) H'))
include eV hJ eO jU jP nH oR gj eY fW fQ lF kX i0 jg gO gR br hG aA aJ eI bQ cc bO c7 cN dF in
theorem Fg(F:bx K "_law_inside" "_law_inside" pB f fd):∅ 12 f fd Kr (tS K mg P_mk):=by
 show F.oj mF ?_;rintro _ _ _ _ _ _ _ _ hr hu64 hu0 _ ⟨p,nu,ha,rfl,h⟩;show#[_,(af (bh (i:=3) mF.nd rfl (Or.inl rfl) (bS (aa (cY (aa eW (aa (pv 1) (aa (pv 2) (aa ax (aa (pv 2) ae)))))) ae)))
   (af (cW (PW.pt (pZ (aW (kI (K:=K) rfl hu64) (bg gO gR hr (aa (pv 0) (aa ax (aa ax ae)))) (bS (aa dB (aa dB (aa dB (aa dB ae))))) (aP _)) (wN (aW (kI (K:=K) rfl hu64) (aQ (cC.cons aA.cl cc fW fQ cC.nil) (pv 0) hr) (cY (aa (pv 1) (aa (pv 2) ae))) (aP _))))) (ai (aF dB)) bC)
   (af (bh (i:=4) mF.nd rfl (Or.inl rfl) (aQ (cC.cons aA.cl bQ hJ eO cC.nil) (pv 0) hr))
   (af (cW (PW.pt (pZ (oW (cK K rfl (bF (lJ (K:=K) rfl) (by rfl) br YW (aa (pv 4) (aa (ou hG aaK) ae))))) (pZ (aW (kI (K:=K) rfl hu64) (pv 4) (pv 3) (aP _)) (pZ (aW jY (aQ (cC.cons aA.cl bO gj eY cC.nil) (pv 0) hr) cE (aP _)) (wN (aW (kI (K:=K) rfl hu64) (aQ (cC.cons aA.cl c7 jU jP cC.nil) (pv 0) hr) (bS ae) (aP _))))))) (ai (aF dB)) bC)
   (af (bV (Ik adv ajC PySem.F.type_list_clear Ra (pv 4)))
   (ai (aF (iJ (eT (AE (K:=K) rfl hu64) (eJ (cC.cons aA.cl cN i0 jg cC.nil) (pv 0) hr (aa (pv 2) ae)) (bS ae) (aP _)) (iJ (eT (AE (K:=K) rfl hu64) (aQ (cC.cons aA.cl bQ hJ eO cC.nil) (pv 0) hr) (pv 3) (aP _)) (iJ (eT (abM hu0) (aQ (cC.cons aA.cl dF lF kX cC.nil) (pv 0) hr) mT (aP _)) (kE (eT (AE (K:=K) rfl hu64) (aQ (cC.cons aA.cl eI nH oR cC.nil) (pv 0) hr) (cY ae) (aP _))))))))))))),?_]
 obtain⟨S,x,y,HI,enu,eha,elg,edn,h0,tb,nP,kk⟩:=h;have HA:=HI.1;have eC:aU=x.C:=by have z:=HA.mH;rw[aJ]at z;cases z;rfl
 have hp:=HA.ob;rw[←eC]at hp;cbv;intro t H1 ht s1 g1;cbv;intro due H2 hdue s2 g2;have t2:=s1.trans s2;have D2:NA H2 due nu ha 0 ha:=#[t,g2,s2 _ _ g1];have HI2:=HI.same t2;have hp2:=t2 _ _ hp;show eQ ?_;cbv;show#[p,3,0,rfl,S,x,Ya y,HI2,.inr (.inr #[#[y,rfl],rfl,λH3 r s3 g3=>?_])];cbv;intro r2 H4 hr2 s4 g4;show IZ (show B4 H4 r true false true false from s4 _ _ g3) (show B4 H4 r2 true false true false from g4) ?_;have t4:=s3.trans s4;have HI4:=HI2.same t4;have hp4:=t4 _ _ hp2;cbv;show#[p,rfl,S,x,Ya y,HI4,(λz=>nomatch z),λy' ey H5 r5 s5 g5=>?_];cases ey;rw[enu,eha]at g5;cbv;intro r6 H6 hr6 s6 g6;show abI (s6 _ _ g5) g6 ?_;have t6:=t4.trans (s5.trans s6);have HI6:=HI2.same t6;have hp6:=t6 _ _ hp2;cbv;show#[p,rfl,S,x,Ya y,HI6,λH7 ev s7 hev g7=>?_];have t7:=t6.trans s7;have D7:=D2.same t7;have HI7:=HI2.same t7;have hp7:=t7 _ _ hp2;have Eq7:NA H7 ev nu ha 0 ha:=UY g7 (by have:=HI7.1.ev;rw[elg]at this;show this);show eQ ?_;cbv;show#[_,_,_,true,rfl,.lst g7,(by kernel_rfl),?_];cbv;show ac2 Eq7 D7 ?_;cbv;show#[p,rfl,S,x,Ya y,HI7,?_];cbv;rw[show decide (V.non=V.non)=true from decide_eq_true rfl];cbv;show#[p,rfl,S,x,Ya y,HI7,λH8 r8 s8 hr8 g8=>?_];cbv;intro r9 H9 hr9 s9 g9;show Ea (s9 _ _ g8) g9 ?_;have t9:=s8.trans s9;have gev9:=t9 _ _ g7;have HI9:=HI7.same t9;have hp9:=t9 _ _ hp7;have D9:=D7.same t9;have nev:ev∉x.ft p (Ya y):=λz=>by
  obtain⟨u,e,_⟩:=HI6.fto ev z;rw[e]at hev;cases hev
 have ndue:due≠ev:=λz=>by
  obtain⟨_,e,_⟩:=D2.same t6;rw[z,hev]at e;cases e
 cbv;show#[ev,_,rfl,rfl,gev9,?_];have bA:Om ev H9 (upd H9 ev (.lst [])):=.upd;have gA:upd H9 ev (.lst []) ev=Ya (.lst []):=aj;generalize upd H9 ev (.lst [])=HB at bA gA⊢;have oB:Off [ev] H9 HB:=λa u e n=>bA.at (λz=>n (by simp[z])) e;have kB:qO H9 HB:=oB.kpf1 gev9 trivial;have HIB:=HI9.off oB kB λa ha z=>nev (by rw[←Yo.mp z];show ha);have DB:NA HB due nu ha 0 ha:=by
  obtain⟨t,d1,d2⟩:=D9;show#[t,bA.at ndue d1,kB.smh _ _ d2]
 have npe:p≠ev:=λz=>by rw[z,gev9]at hp9;cases hp9
 have hpB:=bA.at npe hp9;have tb9:=iB tb (λu e=>t9 _ _ (t7 _ _ (t2 _ _ e))) ((qO.same t2).trans ((qO.same t7).trans (.same t9)));have tbB:lG P_mk HB:=iB tb9 (λu e=>bA.at (λz=>by
  obtain⟨ps,e'⟩:=j4 tb9;rw[z,gev9]at e';cases e') e) kB
 cbv;show#[p,ha,rfl,S,x,Ya y,HIB,h0,tbB,nP,by rw[elg];show Nat.le_add_left 1 899,λB1 q1 d o1 HC tbC w1=>?_];have nPd:due∉[p,P_mk]:=λz=>by
  simp only[Yq,YF,or_false]at z;obtain⟨t,d1,_⟩:=DB;rcases z with z|z
  .rw[z,hpB]at d1;cases d1
  .obtain⟨ps,e'⟩:=j4 tbB;rw[z,e']at d1;cases d1
 have D1:NA B1 due nu ha 0 ha:=by
  obtain⟨t,d1,d2⟩:=DB;show#[t,o1 _ _ d1 nPd,o1 _ _ d2 λz=>?_];simp only[Yq,YF,or_false]at z;rcases z with z|z
  .rw[z,hpB]at d2;cases d2
  .obtain⟨ps,e'⟩:=j4 tbB;rw[z,e']at d2;cases d2
 cbv;intro q2 B2 hq2 u2 w2;show MR (u2 _ _ w1) w2 ?_;have HI2':=HC.same u2;have hpC:=HI2'.1.ob;rw[←eC]at hpC;cbv;show#[p,rfl,_,x,Ya y,HI2',λB3 q3 u3 hq3 w3=>?_];have Eq3:NA B3 q3 nu ha 0 ha:=UY w3 (by have:=(HI2'.same u3).1.ev;have e:S.lg=_:=elg;change Q2 B3 x.xs _;rw[←e];show this);cbv;show aco Eq3 ((D1.same u2).same u3) ?_;have hp3:=u3 _ _ hpC;have HI3:=HI2'.same u3;cbv;show#[p,rfl,_,x,Ya y,HI3,(λy' ey=>by cases ey;show edn),λB4 q4 u4 w4=>?_];cbv;intro q5 B5 hq5 u5 w5;show#[q4,q5,[],[],rfl,rfl,.inl (u5 _ _ w4),.inl w5,rfl,(λp hp=>nomatch hp),?_];have t5:=u4.trans u5;have HI5:=HI3.same t5;have hp5:=t5 _ _ hp3;cbv;show#[p,rfl,_,x,Ya y,HI5,?_];cbv;intro q6 B6 hq6 u6 w6;show ac1 (u6 _ _ HI5.1.pa) w6 ?_;have tbE:=iB tbC (λu e=>u6 _ _ (t5 _ _ (u3 _ _ (u2 _ _ e)))) ((qO.same u2).trans ((qO.same u3).trans ((qO.same t5).trans (.same u6))));cbv;show kk B6 tbE
def yS(K:Ye)(mg:Yh->Option Yd)(P_mk:Yc):Sp:=λvs H Q _=>E3 fun(me ha nu:Int)=>vs=[.int me,.int ha,.int nu]/\(A7 ((0<=me/\me<=62)) ((0<ha/\ha<9223372036854775808)) (ha.toNat.testBit me.toNat=true) ((∃o∈GB.hl ha,o≠me)) ((GB.hl ha).length<=10) (lG P_mk H) (∀H',lG P_mk H'->Q (.bl true) H'))
variable{tp0_Hand___init__:agl}(qg:∅ 10 pI lY ay (mK K mg))(BP_Hand___init__:Binds K fb sX [.int 8 tp0_Hand___init__])(i6:vk K bL bL)(zZ:FO K bL)
include eV qg eO kg j5 iw BP_Hand___init__ d6 nA vd aA aJ iT dD bQ qV i6 zZ ny eE eF in
theorem Jg(F:bx K "_law_room" "_law_room" uI f fd):∅ 11 f fd LN (yS K mg P_mk):=by
 show F.oj gZ ?_;rintro _ A _ _ H _ _ _ hr hu64 _ _ ⟨me,ha,nu,rfl,h⟩;show#[_,(af (bh (i:=3) gZ.nd rfl (Or.inl rfl) (iA iT iw hr rfl aJ BP_Hand___init__ (show Vals [V.int 8] _ from(.cons #[_,rfl] .nil)) AV (aa (pv 0) (aa (pv 1) (aa (pv 2) ae)))))
   (af (pO BP rfl (AD rfl vd (aa ax ae)) (bR (i:=4) gZ.nd rfl (Or.inl rfl))
   (ai (bV (N0 (pv 3) aA.cl dD kg hr j5 .nil AV (aa eW (aa (pv 4) ae))))))
   (af (bh (i:=5) gZ.nd rfl (Or.inl rfl) (bS ae))
   (af (DI (K:=K) (i:=6) rfl rfl rfl gZ.nd rfl rfl (by rfl) qV i6 (λpins EE=>(ai (bV (Jx (pv 3) aA.cl dD kg hr j5 (aa eW (aa ax ae)))))) (λea=>(ai (bh (i:=5) gZ.nd rfl (Or.inl rfl) (bS (aa (OO (K:=K) rfl (pv 6) rfl) (aa (OO (K:=K) rfl (pv 6) rfl) ae)))))))
   (ai (aF (iJ (eT (AE (K:=K) rfl hu64) (pv 5) (bS (aa ax (aa ax ae))) (aP _)) (kE (eT tJ (bF (lK (K:=K) rfl) (by rfl) nA ags (aa (aQ (cC.cons aA.cl bQ qg eO cC.nil) (pv 3) hr) ae)) ax (aP _)))))))))),?_]
 obtain⟨hm,hg,hb,⟨o,ho,no⟩,hl,tb,kk⟩:=h;have mem:me∈GB.hl ha:=by
  have e:me=((me.toNat:Nat):Int):=by omega
  rw[e];show GB.Ar.mpr #[by omega,hb]
 cbv;show ID ?_ λh z=>by obtain⟨v1,e1,v2,e2,v3,e3,z⟩:=z;show#[v1,e1,v2,e2,v3,e3,h _ _ z]
 cbv;intro p dx H1 hp s1 g1;show#[p,me,ha,nu,8,rfl,_,dx,aJ,aA,g1,(λz=>absurd hm z),(λ_ z=>absurd hg z),λ_ _ _ H2 x0 y0 k2 HI0 ey f0=>#[rfl,?_],λ_ _ z=>by rw[hb]at z;cases z];have s2:aG H H2:=λb o e=>k2 b o (s1 _ _ e) (au e hp);have tb2:lG P_mk H2:=iB tb (λu e=>s2 _ _ e) (.same s2);have nP0:P_mk∉x0.ft p (Ya y0):=λz=>by
  obtain⟨ps,e⟩:=j4 tb;rcases f0 _ z with w|w
  .rw[w,hp]at e;cases e
  .rw[s1 _ _ e]at w;cases w
 have ow0:Ow me nu 8 y0.S 0:=by rw[ey];show ace mem ho no hl
 cbv;show#[8,rfl,by decide,by decide,?_];let jJ6:Nat->St->Hp->Prop:=λi σ A=>E6 λv v4 v5 x y L=>A6 (σ=[Ya (.int me),Ya (.int ha),Ya (.int nu),Ya (.ref p),v,v4,v5]) (mQ K mg A p #[me,8,nu,L,0,false] x (Ya y)) (Ow me nu 8 y.S i) (L.length=i+ 1) (lG P_mk A) (P_mk∉x.ft p (Ya y));show Hg jJ6 #[Yb,Yb,Yb,x0,y0,_,rfl,HI0,ow0,rfl,tb2,nP0] ?_ ?_
 .rintro i σ A hi ⟨v,v4,v5,x,y,L,rfl,HI,ow,lL,tb,nP⟩;have eC:aU=x.C:=by have z:=HI.1.mH;rw[aJ]at z;cases z;rfl
  have hpA:=HI.1.ob;rw[←eC]at hpA;have er:y.S.ro=8:=ow.er;have hi:i<8:=hi;cbv;show nV ?_;cbv;show#[p,_,_,rfl,hpA,by kernel_rfl,?_];cbv;show#[p,_,_,rfl,.inr #[#[me,8,nu,L,0,false],x,y,i,"own",(0+ (i:Int)),rfl,rfl,HI,by rw[er];show ow,by omega,.inl rfl,?_,by change L.length<=800;omega,λ_=>#[rfl,λAq2 t x' y' c o2 HI2 ow2 er2 f2=>?_],λz=>absurd (by rw[er];omega) z]]
  .rw[if_neg (by omega)];have:(0:Int)+ i<8:=by omega
   show Int.lt_of_lt_of_le this (by decide)
  .cbv;show#[_,_,_,x',y',_,rfl,HI2,by rw[er]at ow2;show ow2,by rw[Yz,lL];rfl,iB tb (λu e=>o2 _ _ e λz=>nP z) (rF o2 HI.fto),λz=>?_];obtain⟨ps,e⟩:=j4 tb;rcases f2 _ z with w|w
   .show nP w
   .rw[w]at e;cases e
 rintro σ A ⟨v,v4,v5,x,y,L,rfl,HI,ow,lL,tb,nP⟩;have er:y.S.ro=8:=ow.er;cbv;intro fl Aq1 pC s3 g3;have HI1:=HI.same s3;have eC:aU=x.C:=by have z:=HI.1.mH;rw[aJ]at z;cases z;rfl
 have hp1:=HI1.1.ob;rw[←eC]at hp1;show eQ ?_;show Tt λEE hEE=>?_;cbv;show Oz ?_;cbv;show#[p,_,_,rfl,hp1,by kernel_rfl,?_];cbv;show#[p,_,_,rfl,.inr #[#[me,8,nu,L,0,false],x,y,8,"heard",8,rfl,rfl,HI1,by rw[er];show ow,by omega,.inr (.inl rfl),by decide,by change L.length<=800;omega,(λz=>absurd z (by rw[er];decide)),λ_ Aq2 ea C s4 mc hea hh=>?_]];rw[qV]at mc;cases mc;show hEE _ ea _ Aq2 i6 ?_;obtain⟨d,he1,he2⟩:=hh;rw[er]at he2;have he2:Aq2 d=Ya (xN d [("many",.int 8),("room",.int 8)]):=he2;show Vw ?_;cbv;show#[ea,_,d,_,.int 8,rfl,zZ,ny,eE,he1,he2,by kernel_rfl,?_];cbv;show Vw ?_;cbv;show#[ea,_,d,_,.int 8,rfl,zZ,ny,eF,he1,he2,by kernel_rfl,?_];show#[by change(2:Nat)<=Yu;decide,λl2 hl2=>?_];have s5:=aE (o:=HO.lst [.int 8,.int 8]) hl2;have g5:(upd Aq2 l2 (HO.lst [.int 8,.int 8])) l2=Ya (.lst [.int 8,.int 8]):=aj;generalize upd Aq2 l2 (HO.lst [.int 8,.int 8])=Aq3 at s5 g5⊢;unfold Iv;dsimp only;cbv;intro l3 Aq4 hl3 s6 g6;show abH (s6 _ _ g5) g6 ?_;have t6:=s4.trans (s5.trans s6);have HI4:=HI1.same t6;have hp4:=t6 _ _ hp1;cbv;show#[p,rfl,_,x,Ya y,HI4,λAq5 r s7 hr7 g7=>?_];have sl7:=bZ.of (K:=K) g7;have lx:x.xs.length=L.length:=Y2 HI4.1.ev;cbv;rw[lx,lL];show kk Aq5 (iB tb (λu e=>s7 _ _ (t6 _ _ (s3 _ _ e))) ((qO.same s3).trans ((qO.same t6).trans (.same s7))))
variable{sT:Yc}{BE:Yc}{zW:Yc}{uM:Yc}{wt:Yc}{Bj:Yc}{rR:Yr}{zY:Yr}{wu:Yr}{su:Yr}{uU:Yr}{yB:Yr}{tp1_Hand___init__:agl}(dW:aw P w K mg base (lH P w) 11 kG fb sX (jB K mg))(BP_Hand___init___v1:Binds K fb sX [.int 1 tp0_Hand___init__,.int 8 tp1_Hand___init__])(fm:∅ 12 sT rR JE (rT K))(fh:fH K mg "_law_cell_at" sT rR JE)(tF:∅ 12 BE zY L0 (yy K mg))(uG:fH K mg "_law_made" BE zY L0)(za:∅ 12 zW wu Kd (vE K))(zS:fH K mg "_law_group" zW wu Kd)(mB:∅ 12 uM su Jw (sC K mg P_mk))(mD:fH K mg "_law_outside" uM su Jw)(pH:∅ 12 wt uU Kr (tS K mg P_mk))(pS:fH K mg "_law_inside" wt uU Kr)(Bq:∅ 12 Bj yB LN (yS K mg P_mk))(BG:fH K mg "_law_room" Bj yB LN)
include eV dW BP_Hand___init___v1 d6 fm fh tF uG za zS mB mD pH pS Bq BG aA aJ iT in
theorem aaV(F:bx K "law" "law" Hb f fd):∅ 13 f fd ["_law_script"] (Ji K P_mk):=by
 show F.oj jz ?_;rintro _ A _ _ H _ _ _ hr hu64 _ _ ⟨a,ns,rfl,h⟩;show#[_,(af (bh (i:=1) jz.nd rfl (Or.inl rfl) (bw ji (bg fm fh hr (aa (pv 0) (aa ax ae))) ax))
   (af (bh (i:=2) jz.nd rfl (Or.inl rfl) (bg za zS hr (aa (bg fm fh hr (aa (pv 0) (aa ax ae))) ae)))
   (af (bh (i:=3) jz.nd rfl (Or.inl rfl) (bw ji (bg fm fh hr (aa (pv 0) (aa ax ae))) (bw iV (bw Ja ax ax) ax)))
   (af (bh (i:=4) jz.nd rfl (Or.inl rfl) (bw iV ax (bw ji (bg fm fh hr (aa (pv 0) (aa ax ae))) ax)))
   (af (bh (i:=5) jz.nd rfl (Or.inl rfl) (bg fm fh hr (aa (pv 0) (aa ax ae))))
   (af (bh (i:=6) jz.nd rfl (Or.inl rfl) (bw iV ax (bw ji (pv 5) (bw Ja ax ax))))
   (af (pO BP rfl (cJ (K:=K) rfl (bS (aa (Eg Nb (pv 6)) (aa (bw iV ax (pv 6)) ae)))) (bR (i:=7) jz.nd rfl (Or.inl rfl))
   (ai (pO BP rfl (cJ (K:=K) rfl (bS (aa (pv 2) (aa ax (aa (Eg Nb (pv 6)) ae))))) (bR (i:=8) jz.nd rfl (Or.inl rfl))
   (ai (cW (aW (kI (K:=K) rfl hu64) (bg tF uG hr (aa (pv 7) (aa (pv 8) (aa (pv 3) (aa (pv 4) ae))))) (bS (aa dB (aa dB (aa dB (aa dB ae))))) (aP _)) (ai (aF dB)) bC)))))
   (af (pO BP rfl (cJ (K:=K) rfl (bS (aa ax (aa (Eg Nb (pv 6)) (aa (bw iV (bw NF (bw oY ax ax) ax) (pv 6)) ae))))) (bR (i:=7) jz.nd rfl (Or.inl rfl))
   (ai (cW (aW (kI (K:=K) rfl hu64) (bg tF uG hr (aa (pv 1) (aa (pv 7) (aa (pv 3) (aa (pv 4) ae))))) (bS (aa dB (aa dB (aa dB (aa dB ae))))) (aP _)) (ai (aF dB)) bC)))
   (af (bh (i:=9) jz.nd rfl (Or.inl rfl) (bw Uc (pv 2) (bw oY ax (pv 1))))
   (af (cW (PW.pt (pZ (oW (cK K rfl (bg pH pS hr (aa (iA iT dW hr rfl aJ d6 .nil AV (aa (pv 1) (aa (pv 9) (aa (pv 3) (aa (pv 4) ae))))) (aa (pv 3) (aa (pv 9) ae)))))) (wN (oW (cK K rfl (bg pH pS hr (aa (iA iT dW hr rfl aJ BP_Hand___init___v1 (show Vals [V.int 1,V.int 8] _ from(.cons #[_,rfl] (.cons #[_,rfl] .nil))) AV (aa (pv 1) (aa (pv 9) ae))) (aa ax (aa (pv 9) ae))))))))) (ai (aF dB)) bC)
   (af (bh (i:=10) jz.nd rfl (Or.inl rfl) (bw Dh (pv 2) (Eg IH (bw oY ax (pv 1)))))
   (af (cW (aW tJ (pv 10) ax (aP _)) (ai (bh (i:=10) jz.nd rfl (Or.inl rfl) (bw oY ax (bw ji (bw iV (pv 1) ax) ax)))) bC)
   (af (cW (oW (cK K rfl (bg Bq BG hr (aa (pv 1) (aa (bw Uc (pv 10) (bw oY ax (pv 1))) (aa (pv 3) ae)))))) (ai (aF dB)) bC)
   (ai (aF (iJ (bg mB mD hr (aa (iA iT dW hr rfl aJ d6 .nil AV (aa (pv 1) (aa (pv 10) (aa (pv 3) (aa (pv 4) ae))))) (aa (pv 5) ae))) (kE (bg mB mD hr (aa (iA iT dW hr rfl aJ BP_Hand___init___v1 (show Vals [V.int 1,V.int 8] _ from(.cons #[_,rfl] (.cons #[_,rfl] .nil))) AV (aa (pv 1) (aa (pv 10) ae))) (aa (bw CK (pv 5) ax) ae)))))))))))))))))))),?_]
 show af4 ?_;intro _ _ _ _ _ _ _ _ _ _ _ _;obtain⟨hS,_,hP,kk⟩:=h;cbv;show#[a,0,rfl,ns,hS,by decide,λc0=>?_];have me0:=adh c0 (show(63:Int)≠0 by decide);have me1:=adl c0 (show(0:Int)<63 by decide);have pm:BU 1 (c0%63):=#[me0,by omega,by decide];have p18:BU 10 18:=#[by decide,by decide,by decide];have p40:BU 10 40:=#[by decide,by decide,by decide];have p63:BU 1 63:=#[by decide,by decide,by decide];have pm1:BU 1 ((c0%63+ 1)%63):=#[adh _ (by decide),by have:=adl (c0%63+ 1) (show(0:Int)<63 by decide);omega,by decide];cbv;generalize em:c0%63=me at me0 me1 pm pm1⊢;show#[a,1,rfl,ns,hS,by decide,λc1=>?_];cbv;show#[c1,rfl,λg g0 g1 gl=>?_];cbv;show#[a,2,rfl,ns,hS,by decide,λc2=>?_];cbv;generalize c2%(10^agP 18+ 1)=nu;show#[a,3,rfl,ns,hS,by decide,λc3=>?_];cbv;generalize 1+ c3%60=ro;show#[a,4,rfl,ns,hS,by decide,λc4=>?_];have far0:=adh c4 (show(10:Int)^agP 40≠0 by decide);cbv;obtain⟨fa,efa,fa0⟩:∃fa,1+ c4%10^agP 40=fa/\0<fa:=#[_,rfl,by omega];rw[efa];intro l1 Aq1 hl1 s1 gl1;have sl1:=bZ.of (K:=K) gl1;show#[l1,rfl,#[_,sl1],?_];let jJ7:Nat->St->Hp->Prop:=λi σ A=>E2 λv w=>σ=[Ya (.ref a),Ya (.int me),Ya (.int g),Ya (.int nu),Ya (.int ro),Ya (.int c4),Ya (.int fa),v,w,Yb,Yb]/\aG Aq1 A;show j0 (K:=K) (a:=l1) (xs:=[V.int (-fa),.int (62+ fa)]) jJ7 #[Yb,Yb,rfl,.refl _] (λi σ A _ z=>by obtain⟨_,_,_,z⟩:=z;show z.seq sl1) ?_ ?_
 .rintro i v σ A hv ⟨v0,w0,rfl,sA⟩;obtain⟨d,rfl,hd⟩:∃d:Int,v=.int d/\¬ (0<=d/\d<=62):=by
   have:=Y0 hv;simp only[Yq,YF,or_false]at this;rcases this with rfl|rfl
   .show#[_,rfl,by omega]
   .show#[_,rfl,by omega]
  cbv;intro l2 Aq2 hl2 s2 gl2;have sl2:=bZ.of (K:=K) gl2;show#[l2,rfl,#[_,sl2],?_];let jJ8:Nat->St->Hp->Prop:=λi σ B=>∃w,σ=[Ya (.ref a),Ya (.int me),Ya (.int g),Ya (.int nu),Ya (.int ro),Ya (.int c4),Ya (.int fa),Ya (.int d),w,Yb,Yb]/\aG Aq2 B;show j0 (K:=K) (a:=l2) (xs:=[V.int g,.int 0,.int (-fa)]) jJ8 #[w0,rfl,.refl _] (λi σ A _ z=>by obtain⟨_,_,z⟩:=z;show z.seq sl2) ?_ ?_
  .rintro j v σ B hv2 ⟨w1,rfl,sB⟩;obtain⟨e,rfl⟩:∃e:Int,v=.int e:=by
    have:=Y0 hv2;simp only[Yq,YF,or_false]at this;rcases this with rfl|rfl|rfl<;>show#[_,rfl]
   cbv;show#[d,e,nu,ro,rfl,.inl #[hd,λB1 r u1 w1=>?_]];cbv;intro r2 B2 hr2 u2 w2;show IZ (show B4 B2 r true true false false from u2 _ _ w1) (show B4 B2 r2 true true false false from w2) ?_;cbv;show#[_,rfl,sB.trans (u1.trans u2)]
  .rintro σ B ⟨w1,rfl,sB⟩;show#[_,_,rfl,sA.trans (s2.trans sB)]
 rintro σ A ⟨v0,w0,rfl,sA⟩;cbv;intro l3 Aq3 hl3 s3 gl3;have sl3:=bZ.of (K:=K) gl3;show#[l3,rfl,#[_,sl3],?_];let jJ9:Nat->St->Hp->Prop:=λi σ A=>E2 λv w=>σ=[Ya (.ref a),Ya (.int me),Ya (.int g),Ya (.int nu),Ya (.int ro),Ya (.int c4),Ya (.int fa),v,w,Yb,Yb]/\aG Aq3 A;show j0 (K:=K) (a:=l3) (xs:=[V.int 0,.int (-fa),.int (1*2^agP 63-1+ fa)]) jJ9 #[v0,w0,rfl,.refl _] (λi σ A _ z=>by obtain⟨_,_,_,z⟩:=z;show z.seq sl3) ?_ ?_
 .rintro i v σ B hv ⟨v1,w1,rfl,sB⟩;obtain⟨d,rfl,hd⟩:∃d:Int,v=.int d/\¬ (0<d/\d<9223372036854775808):=by
   have h63:(1:Int)*2^agP 63=9223372036854775808:=by decide
   have:=Y0 hv;simp only[Yq,YF,or_false]at this;rcases this with rfl|rfl|rfl
   .show#[_,rfl,by omega]
   .show#[_,rfl,by omega]
   .show#[_,rfl,by omega]
  cbv;show#[me,d,nu,ro,rfl,.inr #[#[me0,by omega],hd,λB1 r u1 w1=>?_]];cbv;intro r2 B2 hr2 u2 w2;show IZ (show B4 B2 r true false true false from u2 _ _ w1) (show B4 B2 r2 true false true false from w2) ?_;cbv;show#[_,_,rfl,sB.trans (u1.trans u2)]
 rintro σ B ⟨v1,w1,rfl,sB⟩;have sHB:aG H B:=s1.trans (sA.trans (s3.trans sB));have tb:lG P_mk B:=.inl (sHB _ _ hP);obtain⟨t0,t1,t2⟩:=gor g0 g1 me0 me1;have tme:=t2 me.toNat
 rw[decide_eq_true rfl,ajq]at tme;cbv;generalize acZ g (1*2^me.toNat)=th at t0 t1 tme⊢;have mk:∀{A:Hp} {p:Yc} {dx:Yc} {x:V0} {y:HpX} {Aq1 Aq2:Hp},lG P_mk A->A p=Yb->aG A Aq1->Aq1 p=Ya (.ins aU dx [])->(∀b o,Aq1 b=Ya o->b≠p->Aq2 b=Ya o)->(∀a∈x.ft p (Ya y),a=p∨Aq1 a=Yb)->lG P_mk Aq2/\P_mk∉x.ft p (Ya y):=fun{A p dx x y Aq1 Aq2} tb hp s1 g1 k2 f=>by
  have s2:aG A Aq2:=λb o e=>k2 b o (s1 _ _ e) (au e hp);show#[iB tb (λu e=>s2 _ _ e) (.same s2),λz=>?_];obtain⟨ps,e⟩:=j4 tb;rcases f _ z with w|w
  .rw[w,hp]at e;cases e
  .rw[s1 _ _ e]at w;cases w
 have mk0:∀{A:Hp} {p:Yc} {dx:Yc} {x:V0} {Aq1 Aq2:Hp},lG P_mk A->A p=Yb->aG A Aq1->Aq1 p=Ya (.ins aU dx [])->(∀b o,Aq1 b=Ya o->b≠p->Aq2 b=Ya o)->(∀a∈x.ft p Yb,a=p∨Aq1 a=Yb)->lG P_mk Aq2/\P_mk∉x.ft p none:=fun{A p dx x Aq1 Aq2} tb hp s1 g1 k2 f=>by
  have s2:aG A Aq2:=λb o e=>k2 b o (s1 _ _ e) (au e hp);show#[iB tb (λu e=>s2 _ _ e) (.same s2),λz=>?_];obtain⟨ps,e⟩:=j4 tb;rcases f _ z with w|w
  .rw[w,hp]at e;cases e
  .rw[s1 _ _ e]at w;cases w
 intro p1 d1 D1 hp1 z1 gp1;show#[p1,me,th,nu,ro,rfl,_,d1,aJ,aA,gp1,(λz=>absurd #[me0,by omega] z),(λ_ z=>absurd #[t0,t1] z),λ_ _ _ D2 x1 y1 k2 HI1 ey1 f1=>#[rfl,?_],λ_ _ z=>by rw[tme]at z;cases z];obtain⟨tb2,nP2⟩:=mk tb hp1 z1 gp1 k2 f1;cbv;show#[p1,nu,th,rfl,_,x1,y1,HI1,rfl,by rw[ey1];rfl,rfl,by rw[ey1];rfl,ae9 t0,tb2,nP2,λD3 tb3=>?_];cbv;show ID ?_ λh z=>by obtain⟨v1,e1,v2,e2,z⟩:=z;show#[v1,e1,v2,e2,h _ _ z]
 cbv;intro p2 d2 D4 hp2 z2 gp2;show#[p2,me,th,1,8,rfl,_,d2,aJ,aA,gp2,(λz=>absurd #[me0,by omega] z),(λ_ z=>absurd #[t0,t1] z),λ_ _ _ D5 x2 y2 k3 HI2 ey2 f2=>#[rfl,?_],λ_ _ z=>by rw[tme]at z;cases z];obtain⟨tb4,nP4⟩:=mk tb3 hp2 z2 gp2 k3 f2;cbv;show#[p2,1,th,rfl,_,x2,y2,HI2,rfl,by rw[ey2];rfl,rfl,by rw[ey2];rfl,ae9 t0,tb4,nP4,λD6 tb6=>?_];cbv;show Sd (λσ B=>∃w:Int,σ=[Ya (.ref a),Ya (.int me),Ya (.int g),Ya (.int nu),Ya (.int ro),Ya (.int c4),Ya (.int fa),v1,w1,Ya (.int th),Ya (.int w)]/\lG P_mk B/\0<w/\w<9223372036854775808/\w.toNat.testBit me.toNat=false/\(GB.hl w).length<=6) ?_ λN rest=>?_
 rotate_left
 .obtain⟨a0,a1,a2,a3⟩:=XB g0 g1 gl me0 me1;generalize abJ g (Y9 (1*2^me.toNat))=w at a0 a1 a2 a3⊢;cbv;show fy (λz=>?_) λz=>?_
  .have e0:=adh (me+ 1) (show(63:Int)≠0 by decide);have e1:=adl (me+ 1) (show(0:Int)<63 by decide);cbv;obtain⟨q0,q1⟩:=CL e0 e1;show rest _ _ #[_,rfl,tb6,q0,q1,?_,oh (Pl e0) (by decide)];rw[ahP,HG];show decide_eq_false λz=>?_;omega
  .have nz:¬ w=0:=λq=>z (decide_eq_true q);cbv;show rest _ _ #[w,rfl,tb6,by omega,a1,a2,a3]
 rintro σ D7 ⟨w,rfl,tb7,w0',w1',w2,w3⟩;show eQ ?_;cbv;obtain⟨b0,b1,b2⟩:=gor w0' w1' me0 me1;have bl:=Qg w0' w1' me0 me1;have bme:=b2 me.toNat
 rw[decide_eq_true rfl,ajq]at bme;show#[me,_,nu,rfl,#[me0,by omega],#[b0,b1],bme,?_,by omega,tb7,λD8 tb8=>?_]
 rotate_left
 .clear b0 b1 b2 bl bme;cbv;intro p3 d3 D9 hp3 z3 gp3;show#[p3,me,w,nu,ro,rfl,_,d3,aJ,aA,gp3,(λz=>absurd #[me0,by omega] z),(λ_ z=>absurd #[w0',w1'] z),(λ_ _ z=>by rw[w2]at z;cases z),λ_ _ _ Eq1 x3 k4 HI3 f3=>#[rfl,?_]];obtain⟨tb9,nP9⟩:=mk0 tb8 hp3 z3 gp3 k4 f3;cbv;show#[p3,c4,rfl,_,x3,HI3,rfl,tb9,nP9,λEq2 tbE=>?_];cbv;show ID ?_ λh z=>by obtain⟨v1,e1,v2,e2,z⟩:=z;show#[v1,e1,v2,e2,h _ _ z]
  cbv;intro p4 d4 Eq3 hp4 z4 gp4;show#[p4,me,w,1,8,rfl,_,d4,aJ,aA,gp4,(λz=>absurd #[me0,by omega] z),(λ_ z=>absurd #[w0',w1'] z),(λ_ _ z=>by rw[w2]at z;cases z),λ_ _ _ Eq4 x4 k5 HI4 f4=>#[rfl,?_]];obtain⟨tb10,nP10⟩:=mk0 tbE hp4 z4 gp4 k5 f4;cbv;show#[p4,c4 / 7,rfl,_,x4,HI4,rfl,tb10,nP10,λEq5 _=>?_];show kk Eq5
 .obtain⟨i,i1,i2⟩:=ack w0' w1';show#[(i:Int),GB.Ar.mpr #[i1,by rw[b2,i2,amJ]],λz=>?_];rw[←z,YK,i2]at w2;cases w2
end
end K70
namespace K70
open PySem L2
theorem acA:AM:=by
 intro l w K h mg fa f_0 f_1 f_2 f_3 f_4 f_5 f_6 f_7 f_8 f_9 f_10 f_11 f_12 f_13 f_14 f_15 f_16 f_17 f_18 f_19 f_20 f_21 f_22 f_23 f_24 f_25 f_26 f_27 f_28 f_29 f_30 f_31 f_32 f_33 f_34 f_35 f_36 f_37 f_38 f_39 f_40 f_41 f_42 f_43 f_44 f_45 f_46 f_47 f_48 f_49 f_50 f_51 f_52 f_53 f_54 f_55 f_56 f_57 f_58 f_59 f_60 f_61 f_62 f_63 f_64 f_65 f_66 f_67 f_68 f_69 f_70 f_71 f_72 f_73 f_74 f_75 f_76 f_77 f_78 f_79 f_80 f_81 f_82 f_83 f_84 f_85 f_86 f_87 f_88 f_89 uk d9 aU bj eR bJ bK dC aV bL cg aZ aY bp yD UN Jf yU vb Cz IT aK NH P_mk d_0 d_1 d_2 d_3 d_4 d_5 d_6 d_7 d_8 d_9 d_10 d_11 d_12 d_13 d_14 d_15 d_16 d_17 d_18 d_19 d_20 d_21 d_22 d_23 d_24 d_25 d_26 d_27 d_28 d_29 d_30 d_31 d_32 d_33 d_34 d_35 d_36 d_37 d_38 d_39 d_40 d_41 d_42 d_43 d_44 d_45 d_46 d_47 d_48 d_49 d_50 d_51 d_52 d_53 d_54 d_55 d_56 d_57 d_58 d_59 d_60 d_61 d_62 d_63 d_64 d_65 d_66 d_67 d_68 d_69 d_70 d_71 d_72 d_73 d_74 d_75 d_76 d_77 d_78 d_79 d_80 d_81 d_82 d_83 d_84 d_85 d_86 d_87 d_88 d_89 X G hfa gP eN df vw vN vI jZ we v8 wa wx vC vm vS vR wB wj vO vA Ol N3 PN lB OM CF Qd Oo Oa OH PY Pk Ob PQ N4 Hy OZ Pj Pb zJ Qf OA N7 O5 OG Qa OU Od P7 PM OV IU GI Hr Gb qd Gi GQ Ho F4 Gh GC Ge Ht G5 F3 G6 Ae DO Fp Eo mI ET En DD Fe EC Fv EX EK Ef Fm CQ xK JC Kq Kj uW J6 L6 L4 Mb Mc LM LD Lp JL Lj JY Et nK t1K t2K t3K tk_LAST_HAND a_0 a_1 a_2 a_3 a_4 a_5 a_8 a_9 a_10 a_14 a_15 a_20 a_21 a_22 a_23 a_24 a_25 a_26 a_27 a_28 a_29 a_30 a_31 a_32 a_42 a_43 a_44 a_69 a_75 a_79 a_80 a_82 a_83 a_84 a_85 a_86 a_87 a_88 a_89 Ua JR Tf BH Ph Gn Hm VG zP SO VJ La GW PR Gw vH yb aaz aaD SJ Se X8 yV aap SR X7 aaj OK aac KO N5 eM eG d7 eI dD bX cH iO ig bQ i4 ik dN gW hW gS cc bO c7 cN dF aT cz cX eA bE eu eh de eX gG hU bf cP dX fT bP fP fN bc cQ dR fO bN fS fL dO jb dQ gV i8 ja ip hV ui iT j7 va qe qf Ei OQ eZ F_0 F_1 F_2 F_3 F_4 F_5 F_6 F_7 F_8 F_9 F_10 F_11 F_12 F_13 F_14 F_15 F_16 F_17 F_18 F_19 F_20 F_21 F_22 F_23 F_24 F_25 F_26 F_27 F_28 F_29 F_30 F_31 F_32 F_33 F_34 F_35 F_36 F_37 F_38 F_39 F_40 F_41 F_42 F_43 F_44 F_45 F_46 F_47 F_48 F_49 F_50 F_51 F_52 F_53 F_54 F_55 F_56 F_57 F_58 F_59 F_60 F_61 F_62 F_63 F_64 F_65 F_66 F_67 F_68 F_69 F_70 F_71 F_72 F_73 F_74 F_75 F_76 F_77 F_78 F_79 F_80 F_81 F_82 F_83 F_84 F_85 F_86 F_87 F_88 F_89 vv Ig Pf Gd C9 Kb Ih bU aA av bz aB aC bD OT xq_IsIn xz_IsIn O9 Gj xq_NoHand xz_NoHand GA Dx xq_NoHands xz_NoHands DZ LR xq_NotIn xz_NotIn Mi P0 O7 O3 Oq OS Km KP Jz OP JT eE eF mb_GroupError_GroupError mc_GroupError_GroupError mb_Held_Held mc_Held_Held mb_IsIn_GroupError mc_IsIn_GroupError mb_NoHand_GroupError mc_NoHand_GroupError mb_NoHands_GroupError mc_NoHands_GroupError mb_NotIn_GroupError mc_NotIn_GroupError GY F9 xg_Held xn_Held xcc_Held xo_Held xb_Held xk_Held xg_IsIn xn_IsIn xcc_IsIn xo_IsIn xb_IsIn xk_IsIn xg_NoHand xn_NoHand xcc_NoHand xo_NoHand xb_NoHand xk_NoHand xg_NoHands xn_NoHands xcc_NoHands xo_NoHands xb_NoHands xk_NoHands xg_NotIn xn_NotIn xcc_NotIn xo_NotIn xb_NotIn xk_NotIn jk gK hZ dP fi ed fK cZ eD dS fg cU ie fR gU dA J5 FC hcd;have e:=hfa.symm.trans (W.mg_of X G a_89);cases e;have CA_0:fH K mg _ _ _ Rl:=F_0.cal X G a_0;have CA_1:fH K mg _ _ _ Em:=F_1.cal X G a_1;have CA_2:fH K mg _ _ _ EA:=F_2.cal X G a_2;have CA_3:fH K mg _ _ _ RS:=F_3.cal X G a_3;have CA_4:fH K mg _ _ _ EA:=F_4.cal X G a_4;have CA_5:fH K mg _ _ _ RL:=F_5.cal X G a_5;have B_6:Binds K _ Fl []:=F_6.bq;have B_7:Binds K _ Fl []:=F_7.bq;have CA_8:fH K mg _ _ _ qp:=F_8.cal X G a_8;have CA_9:fH K mg _ _ _ ["word"]:=F_9.cal X G a_9;have CA_10:fH K mg _ _ _ SV:=F_10.cal X G a_10;have B_11:Binds K _ xS []:=F_11.bq;have B_12:Binds K _ xS []:=F_12.bq;have B_13:Binds K _ xS []:=F_13.bq;have CA_14:fH K mg _ _ _ Rz:=F_14.cal X G a_14;have CA_15:fH K mg _ _ _ JB:=F_15.cal X G a_15;have B_16:Binds K _ ay []:=F_16.bq;have B_17:Binds K _ ay []:=F_17.bq;have B_18:Binds K _ ay []:=F_18.bq;have B_19:Binds K _ ay []:=F_19.bq;have CA_20:fH K mg _ _ _ uS:=F_20.cal X G a_20;have CA_21:fH K mg _ _ _ Ll:=F_21.cal X G a_21;have CA_22:fH K mg _ _ _ Mj:=F_22.cal X G a_22;have CA_23:fH K mg _ _ _ KH:=F_23.cal X G a_23;have CA_24:fH K mg _ _ _ ug:=F_24.cal X G a_24;have CA_25:fH K mg _ _ _ LX:=F_25.cal X G a_25;have CA_26:fH K mg _ _ _ ug:=F_26.cal X G a_26;have CA_27:fH K mg _ _ _ Lm:=F_27.cal X G a_27;have CA_28:fH K mg _ _ _ Em:=F_28.cal X G a_28;have CA_29:fH K mg _ _ _ LL:=F_29.cal X G a_29;have CA_30:fH K mg _ _ _ ["hand"]:=F_30.cal X G a_30;have CA_31:fH K mg _ _ _ G7:=F_31.cal X G a_31;have CA_32:fH K mg _ _ _ vp:=F_32.cal X G a_32;have B_33:Binds K _ vB []:=F_33.bq;have B_34:Binds K _ KU []:=F_34.bq;have B_35:Binds K _ LQ []:=F_35.bq;have B_36:Binds K _ Kc []:=F_36.bq;have B_37:Binds K _ ay []:=F_37.bq;have B_38:Binds K _ ay []:=F_38.bq;have B_39:Binds K _ ay []:=F_39.bq;have B_40:Binds K _ ay []:=F_40.bq;have B_41:Binds K _ ay []:=F_41.bq;have CA_42:fH K mg _ _ _ uS:=F_42.cal X G a_42;have CA_43:fH K mg _ _ _ ["calls"]:=F_43.cal X G a_43;have CA_44:fH K mg _ _ _ vp:=F_44.cal X G a_44;have B_45:Binds K _ KS []:=F_45.bq;have B_46:Binds K _ LW []:=F_46.bq;have B_47:Binds K _ ay []:=F_47.bq;have B_48:Binds K _ wA []:=F_48.bq;have B_49:Binds K _ ay []:=F_49.bq;have B_50:Binds K _ wA []:=F_50.bq;have B_51:Binds K _ ay []:=F_51.bq;have B_52:Binds K _ ay []:=F_52.bq;have B_53:Binds K _ wg []:=F_53.bq;have B_54:Binds K _ ay []:=F_54.bq;have B_55:Binds K _ Lr []:=F_55.bq;have B_56:Binds K _ ay []:=F_56.bq;have B_57:Binds K _ ay []:=F_57.bq;have B_58:Binds K _ ay []:=F_58.bq;have B_59:Binds K _ ay []:=F_59.bq;have B_60:Binds K _ ay []:=F_60.bq;have B_61:Binds K _ ay []:=F_61.bq;have B_62:Binds K _ ay []:=F_62.bq;have B_63:Binds K _ Df []:=F_63.binds λ_ _ _ _ _ _ _ us hl=>by obtain⟨a0,a1,rfl⟩:=ln2 (us:=us) (by rw[Yz]at hl;show afB (m:=0) hl);show#[_,rfl,rfl]
 have jR:Binds K _ Df [.int 1 gP]:=F_63.binds λ_ _ _ _ _ _ _ us hl=>by obtain⟨a0,rfl⟩:=ln1 (us:=us) (by rw[Yz]at hl;show afB (m:=1) hl);show#[_,rfl,rfl]
 have B_64:Binds K _ ay []:=F_64.bq;have B_65:Binds K _ ay []:=F_65.bq;have B_66:Binds K _ ay []:=F_66.bq;have B_67:Binds K _ ay []:=F_67.bq;have B_68:Binds K _ ay []:=F_68.bq;have CA_69:fH K mg _ _ _ qp:=F_69.cal X G a_69;have B_70:Binds K _ ay []:=F_70.bq;have B_71:Binds K _ Le []:=F_71.bq;have B_72:Binds K _ ay []:=F_72.bq;have B_73:Binds K _ ay []:=F_73.bq;have B_74:Binds K _ vB []:=F_74.bq;have CA_75:fH K mg _ _ _ LO:=F_75.cal X G a_75;have B_76:Binds K _ KC []:=F_76.bq;have B_77:Binds K _ wg []:=F_77.bq;have B_78:Binds K _ K6 []:=F_78.bq;have CA_79:fH K mg _ _ _ qp:=F_79.cal X G a_79;have CA_80:fH K mg _ _ _ qp:=F_80.cal X G a_80;have B_81:Binds K _ sX []:=F_81.binds λ_ _ _ _ _ _ _ us hl=>by obtain⟨a0,a1,a2,a3,a4,rfl⟩:=ln5 (us:=us) (by rw[Yz]at hl;show afB (m:=0) hl);show#[_,rfl,rfl]
 have RG:Binds K _ sX [.int 1 eN,.int 8 df]:=F_81.binds λ_ _ _ _ _ _ _ us hl=>by obtain⟨a0,a1,a2,rfl⟩:=ln3 (us:=us) (by rw[Yz]at hl;show afB (m:=2) hl);show#[_,rfl,rfl]
 have BP1_Hand___init__:Binds K _ sX [.int 8 df]:=F_81.binds λ_ _ _ _ _ _ _ us hl=>by obtain⟨a0,a1,a2,a3,rfl⟩:=ln4 (us:=us) (by rw[Yz]at hl;show afB (m:=1) hl);show#[_,rfl,rfl]
 have BP2_Hand___init__:Binds K _ sX [.int 1 eN,.int 8 df]:=F_81.binds λ_ _ _ _ _ _ _ us hl=>by obtain⟨a0,a1,a2,rfl⟩:=ln3 (us:=us) (by rw[Yz]at hl;show afB (m:=2) hl);show#[_,rfl,rfl]
 have CA_82:fH K mg _ _ _ JE:=F_82.cal X G a_82;have CA_83:fH K mg _ _ _ L0:=F_83.cal X G a_83;have CA_84:fH K mg _ _ _ Kt:=F_84.cal X G a_84;have CA_85:fH K mg _ _ _ Kd:=F_85.cal X G a_85;have CA_86:fH K mg _ _ _ Jw:=F_86.cal X G a_86;have CA_87:fH K mg _ _ _ Kr:=F_87.cal X G a_87;have CA_88:fH K mg _ _ _ LN:=F_88.cal X G a_88;have HK:=W.mg_of X G Ua;have cD:=W.mg_of X G JR;have aJ:=W.mg_of X G Tf;have az:=W.mg_of X G BH;have bM:=W.mg_of X G Ph;have aD:=W.mg_of X G Gn;have aH:=W.mg_of X G Hm;have bH:=W.mg_of X G VG;have fE:=W.mg_of X G zP;have qV:=W.mg_of X G SO;have qW:=W.mg_of X G VJ;have fV:=W.mg_of X G La;have fY:=W.mg_of X G GW;have iu:=W.mg_of X G PR;have FH:=sR.mk vv;have CB:=sR.mk Ig;have Ib:=sR.mk Pf;have Ad:=sR.mk Gd;have xY:=sR.mk C9;have CW:=sR.mk Kb;have CN:HY K cg [.type "ValueError",.type "Exception",.type "BaseException",.type "object"] "ValueError.__new__":=#[_,_,O9▸Ib,OT,xq_IsIn,xz_IsIn];have u0:HY K aZ [.type "ValueError",.type "Exception",.type "BaseException",.type "object"] "ValueError.__new__":=#[_,_,GA▸Ad,Gj,xq_NoHand,xz_NoHand];have rC:HY K aY [.type "ValueError",.type "Exception",.type "BaseException",.type "object"] "ValueError.__new__":=#[_,_,DZ▸xY,Dx,xq_NoHands,xz_NoHands];have yw:HY K bp [.type "ValueError",.type "Exception",.type "BaseException",.type "object"] "ValueError.__new__":=#[_,_,Mi▸CW,LR,xq_NotIn,xz_NotIn];have CC:XiF K bL f_46 [.type "ValueError",.type "Exception",.type "BaseException",.type "object"] "ValueError.__new__":=#[#[_,_,O7▸CB,P0],OQ,O3,Oq,OS];have Xa:∃cd,W.clsIn K bL=Ya cd/\cd.hasDict=CF/\cd.mro=.ref bL::lB:=by unfold W.clsIn;rw[Ig];show#[_,rfl,rfl,rfl]
 have ny:M9 K bL:=by obtain⟨cd,h1,h2,h3⟩:=Xa;show#[Km,KP,cd,lB,h1,h2.trans Jz,h3,[IT],OP]
 have Cs:∃N up newId,sR K bL N up newId/\up.contains (.type "BaseException")=true:=#[_,_,_,CB,JT];have bG:vk K aV aV:=#[_,_,_,FH,mb_GroupError_GroupError,mc_GroupError_GroupError];have i6:vk K bL bL:=#[_,_,_,CB,mb_Held_Held,mc_Held_Held];have fG:vk K cg aV:=#[_,_,_,Ib,mb_IsIn_GroupError,mc_IsIn_GroupError];have eK:vk K aZ aV:=#[_,_,_,Ad,mb_NoHand_GroupError,mc_NoHand_GroupError];have dY:vk K aY aV:=#[_,_,_,xY,mb_NoHands_GroupError,mc_NoHands_GroupError];have eS:vk K bp aV:=#[_,_,_,CW,mb_NotIn_GroupError,mc_NotIn_GroupError];have zZ:FO K bL:=#[xg_Held,xn_Held,xcc_Held,GY,F9,xo_Held,xb_Held,xk_Held,_,_,_,CB];have rq:FO K cg:=#[xg_IsIn,xn_IsIn,xcc_IsIn,GY,F9,xo_IsIn,xb_IsIn,xk_IsIn,_,_,_,Ib];have ju:FO K aZ:=#[xg_NoHand,xn_NoHand,xcc_NoHand,GY,F9,xo_NoHand,xb_NoHand,xk_NoHand,_,_,_,Ad];have iI:FO K aY:=#[xg_NoHands,xn_NoHands,xcc_NoHands,GY,F9,xo_NoHands,xb_NoHands,xk_NoHands,_,_,_,xY];have lW:FO K bp:=#[xg_NotIn,xn_NotIn,xcc_NotIn,GY,F9,xo_NotIn,xb_NotIn,xk_NotIn,_,_,_,CW];have yP:=W.mg_of X G Gw;have zF:RelV (.ref aK) (.ref aK):=rfl;have zd:JU K (.ref aK):=#[aK,rfl,λH=>.inr #[_,_,_,J5,rfl,rfl,(by change 3<=Yu;decide),.cons #[_,rfl] (.cons #[_,rfl] (.cons #[_,rfl] .nil))]];have fA:=W.mg_of X G vH;have fF:RelV (.int 62) (.int 62 tk_LAST_HAND):=#[_,rfl];have fB:zt K (.int 62):=rfl;have zw:mg "ValueError"=none:=W.mg_none_of X G yb;have aee:mg "abs"=none:=W.mg_none_of X G aaz;have adS:mg "all"=none:=W.mg_none_of X G aaD;have acL:mg "bool"=none:=W.mg_none_of X G SJ;have AU:mg "dict"=none:=W.mg_none_of X G Se;have adL:mg "int"=none:=W.mg_none_of X G X8;have iY:mg "isinstance"=none:=W.mg_none_of X G yV;have EH:mg "len"=none:=W.mg_none_of X G aap;have sZ:mg "list"=none:=W.mg_none_of X G SR;have aaJ:mg "max"=none:=W.mg_none_of X G X7;have Ur:mg "min"=none:=W.mg_none_of X G aaj;have Jq:mg "range"=none:=W.mg_none_of X G OK;have aav:mg "set"=none:=W.mg_none_of X G aac;have yK:mg "sorted"=none:=W.mg_none_of X G KO;have O4:mg "tuple"=none:=W.mg_none_of X G N5;obtain⟨_,_,kV,dc,pm,an,cd,ct,_,rfl,_⟩:=id F_89.ex;show#[W.fnOf "law" "law" (gz Hb) (du Hb) (ah Hb) .none kV dc pm an cd ct,λs v=>.of_eq rfl,λbase kb _ hB=>?_];have eV:Tg l.prog w mg base:=trivial;have hC:=W.codeHd_of_K kb hcd;have G_0:=JV eV F_0;have G_1:=CS eV sZ aav yK F_1;have G_2:=RQ eV (G_0.mono (by decide)) CA_0 (G_1.mono (by decide)) CA_1 adS F_2;have G_3:=JZ eV AU F_3;have G_4:=QD eV (G_0.mono (by decide)) CA_0 (G_1.mono (by decide)) CA_1 (G_3.mono (by decide)) CA_3 aaJ F_4;have G_5:=Fj eV (G_0.mono (by decide)) CA_0 F_5;have G_6:=z8 eV F_6;have G_7:=vi eV (G_6.mono (by decide)) B_6 Ih HK eZ F_7;have G_8:=Lq eV acL adL iY F_8;have G_9:=MN eV (G_8.mono (by decide)) CA_8 aee F_9;have G_10:=Jd eV B_6 (G_6.mono (by decide)) (G_7.mono (by decide)) B_7 (G_9.mono (by decide)) CA_9 av aB aC az aD aH j7 qe qf yP zF zd F_10;have G_11:=BN eV (G_0.mono (by decide)) CA_0 F_11;have G_12:=Ii eV aC aH (G_11.mono (by decide)) B_11 dR F_12;have G_13:=yj eV CA_3 av aB az aD (G_11.mono (by decide)) B_11 (G_2.mono (by decide)) CA_2 (G_3.mono (by decide)) cX dX F_13;have G_14:=FA eV (G_5.mono (by decide)) CA_5 EH F_14;have G_15:=Nl eV EH F_15;have G_16:=HD eV F_16;have G_17:=HZ eV F_17;have G_18:=wL eV F_18;have G_19:=sH eV F_19;have G_20:=MA eV av aB aC az aD aH (G_17.mono (by decide)) B_17 eu fP fS F_20;have G_21:=BZ eV av aB aC az aD aH (G_12.mono (by decide)) B_12 (G_13.mono (by decide)) B_13 (G_16.mono (by decide)) B_16 (G_18.mono (by decide)) B_18 (G_19.mono (by decide)) B_19 aT cz bE bf cP bP bc cQ bN F_21;have G_22:=Ah eV CA_0 av aB aC az aD aH (G_0.mono (by decide)) (G_21.mono (by decide)) CA_21 F_22;have G_23:=Cr eV F_23;have G_24:=acn eV aav yK AU av aB aC az aD aH (G_4.mono (by decide)) CA_4 (G_14.mono (by decide)) CA_14 (G_15.mono (by decide)) CA_15 (G_20.mono (by decide)) CA_20 (G_22.mono (by decide)) CA_22 (G_23.mono (by decide)) CA_23 F_24;have G_25:=BY eV av aB aC az aD aH (G_12.mono (by decide)) B_12 (G_13.mono (by decide)) B_13 (G_18.mono (by decide)) B_18 (G_19.mono (by decide)) B_19 aT cz bf cP bc cQ CA_20 (G_20.mono (by decide)) Ur F_25;have G_26:=Rv eV sZ av aB aC az aD aH B_16 bE bP bN CA_14 (G_14.mono (by decide)) (G_16.mono (by decide)) (G_24.mono (by decide)) CA_24 (G_25.mono (by decide)) CA_25 F_26;have G_27:=CZ eV (G_0.mono (by decide)) CA_0 Ur F_27;have G_28:=Qz eV CA_1 CA_3 (G_3.mono (by decide)) (G_1.mono (by decide)) (G_27.mono (by decide)) CA_27 F_28;have G_29:=Qu eV yK O4 F_29;have G_30:=QU eV F_30;have G_31:=abu eV (G_30.mono (by decide)) CA_30 F_31;have G_32:=LK eV (G_31.mono (by decide)) CA_31 Jq F_32;have G_33:=y7 eV AU (G_32.mono (by decide)) CA_32 F_33;have G_34:=Fi eV CA_4 (G_4.mono (by decide)) bz bM F_34;have G_35:=Dt eV (G_5.mono (by decide)) CA_5 EH bz bM F_35;have G_36:=FK eV EH bz bM (G_35.mono (by decide)) B_35 gG F_36;have G_37:=Fh eV sZ bz bM (G_28.mono (by decide)) CA_28 F_37;have G_38:=BW eV F_38;have G_39:=yd eV F_39;have G_40:=BQ eV F_40;have G_41:=Iq eV av aB aC az aD aH (G_38.mono (by decide)) B_38 (G_39.mono (by decide)) B_39 (G_40.mono (by decide)) B_40 eA fT fO F_41;have G_42:=Qx eV av aB aC az aD aH B_18 B_19 aT bf bc (G_18.mono (by decide)) (G_19.mono (by decide)) F_42;have G_43:=Mw eV yK av aB aC az aD aH CA_20 (G_20.mono (by decide)) F_43;have G_44:=Th eV Ur (G_32.mono (by decide)) CA_32 F_44;have G_45:=AA eV bz bM (G_33.mono (by decide)) B_33 va F_45;have G_46:=AG eV F_46;have G_47:=xB eV CA_0 (G_0.mono (by decide)) bz bM (G_37.mono (by decide)) B_37 (G_46.mono (by decide)) B_46 bD bH de qV CC ny Cs eE eF F_47;have G_48:=Im eV av aB aC az aD aH B_16 bE bP bN bD bH (G_16.mono (by decide)) F_48;have G_49:=w8 eV sZ av aB aC az aD aH bD bH (G_43.mono (by decide)) CA_43 F_49;have G_50:=Hx eV av aB aC az aD aH bD bH F_50;have G_51:=Fq eV AU av aB aC az aD aH CA_5 bz bM (G_37.mono (by decide)) B_37 bD bH de (G_5.mono (by decide)) F_51;have G_52:=Jb eV av aB aC az aD aH CA_24 bz bM bD bH (G_24.mono (by decide)) (G_26.mono (by decide)) CA_26 (G_34.mono (by decide)) B_34 (G_36.mono (by decide)) B_36 (G_41.mono (by decide)) B_41 (G_42.mono (by decide)) CA_42 (G_44.mono (by decide)) CA_44 (G_49.mono (by decide)) B_49 (G_50.mono (by decide)) B_50 (G_51.mono (by decide)) B_51 eh eX hU fN fL dQ gV ja F_52;have G_53:=Fy eV av aB aC az aD aH bD bH (G_10.mono (by decide)) CA_10 (G_29.mono (by decide)) CA_29 (G_47.mono (by decide)) B_47 (G_48.mono (by decide)) B_48 (G_52.mono (by decide)) B_52 dO jb i8 F_53;have G_54:=FN eV AU bD bH F_54;have G_55:=xE eV F_55;have G_56:=Fc eV sZ aA aJ F_56;have G_57:=EJ eV sZ aA aJ F_57;have G_58:=II eV aA aJ F_58;have G_59:=B0 eV aA aJ bU cD F_59;have G_60:=z6 eV aA aJ iu yw F_60;have G_61:=xx eV aA aJ (G_59.mono (by decide)) B_59 (G_60.mono (by decide)) B_60 cH bO F_61;have G_62:=FL eV aA aJ (G_61.mono (by decide)) B_61 bX F_62;have G_63:=F0 eV (t0:=gP) aA aJ (G_60.mono (by decide)) B_60 cH F_63;have G_64:=IM eV aA aJ qW CN F_64;have G_65:=Aj eV bD bH aA aJ F_65;have G_66:=FD eV bD bH aA aJ (G_54.mono (by decide)) B_54 ip F_66;have G_67:=HV eV aA aJ F_67;have G_68:=Du eV aA aJ F_68;have G_69:=LC eV sZ AU iY O4 F_69;have G_70:=yZ eV bU cD F_70;have G_71:=zg eV bU cD (G_70.mono (by decide)) B_70 eM F_71;have G_72:=zm eV bU cD (G_69.mono (by decide)) CA_69 F_72;have G_73:=DW eV (P_mk:=P_mk) bD bH aA aJ bU cD hC hB (G_71.mono (by decide)) B_71 (G_72.mono (by decide)) B_72 eG d7 FC;have G_74:=BR eV (P_mk:=P_mk) EH CA_30 aA aJ (G_30.mono (by decide)) (G_73.mono (by decide)) B_73 gS F_74;have G_75:=FE eV F_75;have G_76:=wY eV aA aJ (G_75.mono (by decide)) CA_75 F_76;have G_77:=Ip eV bD bH aA aJ B_61 bX (G_53.mono (by decide)) B_53 (G_61.mono (by decide)) (G_76.mono (by decide)) B_76 dN hV F_77;have G_78:=FF eV aaJ bD bH aA aJ bU cD (G_45.mono (by decide)) B_45 (G_55.mono (by decide)) B_55 ui Ei F_78;have G_79:=NZ eV (G_8.mono (by decide)) CA_8 fA fF fB F_79;have G_80:=RD eV (G_8.mono (by decide)) CA_8 fA fF fB F_80;have G_81:=AQ eV (t0:=eN) (t1:=df) CA_31 aA aJ (G_31.mono (by decide)) (G_78.mono (by decide)) B_78 (G_79.mono (by decide)) CA_79 (G_80.mono (by decide)) CA_80 ig fV fY u0 rC F_81;have G_82:=Cn eV EH F_82;have G_83:=Jp eV iY aA aJ iu fV fY (G_81.mono (by decide)) B_81 zw iT fE bG eK dY ju iI cZ fi ed fK cU eD dS fg F_83;have G_84:=BO eV (tf:=gP) iY aA aJ iu qW fV zw fE bG (G_62.mono (by decide)) B_62 (G_63.mono (by decide)) jR B_63 (G_64.mono (by decide)) B_64 (G_77.mono (by decide)) B_77 dD iO ik hW fG eS lW rq dA gU ie fR dP hZ jk gK F_84;have G_85:=FG eV Jq F_85;have G_86:=Cm eV (P_mk:=P_mk) aA aJ B_59 bO (G_56.mono (by decide)) B_56 (G_57.mono (by decide)) B_57 (G_58.mono (by decide)) B_58 (G_59.mono (by decide)) (G_65.mono (by decide)) B_65 (G_66.mono (by decide)) B_66 (G_67.mono (by decide)) B_67 (G_68.mono (by decide)) B_68 (G_74.mono (by decide)) B_74 (G_84.mono (by decide)) CA_84 eI bQ i4 gW cc c7 cN dF F_86;have G_87:=Fg eV (P_mk:=P_mk) sZ iY aA aJ B_59 bO (G_56.mono (by decide)) B_56 (G_57.mono (by decide)) B_57 (G_58.mono (by decide)) B_58 (G_59.mono (by decide)) (G_65.mono (by decide)) B_65 (G_66.mono (by decide)) B_66 (G_74.mono (by decide)) B_74 (G_84.mono (by decide)) CA_84 eI bQ cc c7 cN dF F_87;have G_88:=Jg eV (P_mk:=P_mk) EH Jq qV ny eE eF aA aJ (G_81.mono (by decide)) B_81 iT (G_77.mono (by decide)) B_77 dD B_56 bQ (G_56.mono (by decide)) BP1_Hand___init__ i6 zZ F_88;show aaV eV aA aJ B_81 iT (G_81.mono (by decide)) BP2_Hand___init__ (G_82.mono (by decide)) CA_82 (G_83.mono (by decide)) CA_83 (G_85.mono (by decide)) CA_85 (G_86.mono (by decide)) CA_86 (G_87.mono (by decide)) CA_87 (G_88.mono (by decide)) CA_88 F_89
end K70
end
theorem PySem.Challenge.cw_groupcall_k70_a_hand_is_made_holds : PySem.Challenge.rw_groupcall_k70_a_hand_is_made.Holds := by
 exact PySem.Challenge.hd_K70 @K70.acA
