import PyProof.Rows.All
import Wide.All
import OpenK.AllK
import Wide.FinOn
import Lean
import PyProof.EqAt
import PyProof.EqKinds
import PyProof.TupleCall
import PyProof.AttrMissHeap
import KE.KSortTup
import KE.KDictList
import KE.KNest
import KE.KNestM
import OpenK.KRaise
import KE.KIsAll
import KE.KMatchCls
import PyProof.ExcAttrAll.ValueError
import PyProof.Rows.Range3
import PyProof.ZipIter
import PyProof.Rows.FactsT2
import PyProof.Rows.ZipGen
import KE.KItemsList
import PyProof.TupleKey
import PyProof.DictFindH
import PyProof.EnumMake
import PyProof.EnumStmt
import KE.KLam
import Wide.Seal
import KE.KFind
import PySem.Challenge.RW_groupcall_k78_suspecting_settles
set_option Elab.async false
set_option linter.all false
set_option compiler.extract_closed false
set_option bootstrap.genMatcherCode false
set_option maxRecDepth 100000
set_option maxHeartbeats 16000000
open PySem renaming Addr→Yc,Value→Yd,wpAny_bind→Yf,Shared→Yh,Str→Yj,wpAny→Ym,wpAny_pure→Yr,model→Ys,FuncData→Yt,sizeLine→YB,Program→YJ,Stmt→YN,starEach→YO,Heap→YR,World→YV,Expr→YY,mainGlobals→Y1,Obj→Y3,Around→Y4,wpAny_mono→ax,eval→aE,DictEntry→bP,compareOp→bX,Builtin→cg,PyData→cx,codeAny→de,mem_of_lookup→df,backTo→dE,boot_len→dP,Paired→d3,sysModules→ee,wpAny_newObj_type→el,plainId_quiet→eA,wpAny_Call_Name_kw→eL,wpAny_holding→e8,cLine→fm,pyNext→fw,keywordEach→fE,wpAny_truthy_bool→gm,wpAny_pyIter_list→gx,wpAny_setState_of→gy,intKind→gz,sizeLine_eq→gB,wpAny_call_entry→hG,Pos→hJ,bootBuiltins→iq,wpAny_updateSeq→ir,wpAny_callSpecial?_slot→i0,binaryOp→i7,Scope→jv,tupleKind→j1,argsOk→ka,wpAny_setField_rec→ke,wpAny_passesOwn→kf,attributeBase→ku,backToKw→kz,codeAny_call_builtin→kM,wpAny_askSetting→kX,wpAny_setEntries_of→l6,Tok→l7,Env→l8,wpAny_Call_method0_late→md,holding→mi,entryFor→mE,storedH→ny,wpAny_tryCatch→nB,wpAny_setField→nN,scanBound→om,Meets→ox,IsTupleKey→oT,Result→pf,sliceBounds→px,evalArgs_none→pS,NameKind→qo,getMethod→qq,standAt→qV,assignEach→rf,call_meets→rh,wpAny_seqItems→ri,isSubtype_type→rq,KeyKind→rL,wpAny_pyIter_slot→r9,wpAny_field→sf,wpAny_isOneOf_itemiter→si,behindInMarks→sj,wpAny_attempt→sC,pickOrder→sR,wpAny_execs_nil→tj,letOwnedTupleGo→tm,pyIter→tq,wpAny_loadPart'→tF,wpAny_typeNameOfWhole_itemiter→tT,callWith→uu,recursionLimit→uS,getItem→u3,SetTable→u4,setNext→va,wpAny_fieldsOf→vb,richCompare→vc,table→ve,Sem→vj,swapsWith→vk,tupleKind_room_in1→vt,wpAny_letOwnedTupleGo_items→vx,foldedSetIterable→wq,fits_of_scanBound→w9,builtinsNs→xc,atKey→xh,valueAt→xv,callerA→xw,merged→xC,noFill_tuple_add→xD,IsPart→xE,wpAny_comprehension_free→ya,wpAny_isInstance→yn,seqItems?→zw,codeAny_builtin→zC,Walks→zI,wpAny_ite_split→zS,subscripted→Au,richCompare_meets_room→AA,wpAny_of_eq→AD,wpAny_isTrue_Compare1→AK,assign→AL,BindsTo→AO,wpAny_ite_true→AS,plainId→AU,builtinLookup_eq_fast→AV,wpAny_newTuple→AY,entryOfKey→Bz,bindArgs→BC,wpAny_call→BD,bindL→BE,bindC→BF,typeLookup→BG,closureFor→BI,wpAny_newFunctionEnv→BM,setEntries→BO,setField→BP,wpAny_pyIter_valiter→BQ,wpAny_standAt→BU,seq_tuple_add→B0,wpAny_newList→Cb,Within→Cs,isTrue→Ct,wpAny_pyIter_tuple→CB,Arguments→CF,concat_meets→CI,wpAny_typeOf→CL,Fin→CM,call_meetsIn→CU,CmpOp→DC,Keyword→DD,newList→DE,wpAny_assign_Name→DI,slot_list_getitem→DZ,meets_dict_values→EG,wpAny_eqBool_int→EM,wpAny_execs_cons→EN,wpAny_Dict_empty→EO,wpAny_forIn_list→ER,getAttr?→ET,entryFor_of_tree→EU,relayAll→EW,raiseNew→EX,wpAny_Name→FD,wpAny_specialOf→FH,wpAny_rule→FK,typeLookup_type→FL,MeetsIn→F5,entryFor_alias→F8,firstArgMember→F9,isSubtype_stop→GA,cellsFrom→GH,drawOrder→GI,intBits_le_64→GS,evalPart_none→GV,call_list_seq→GW,Drawn→HL,wants→HV,seqIndex_neg→Ic,Slot→Iq,setAddHashed→Iy,setNextDrawn→IA,getAttr→IQ,operate→IS,collect→IT,ElemsOf→IU,Spec→Jn
open PySem.W renaming Frag→Ye,fnOf→d4,kia_one→eI,emptyDict→fh,findIn→fR,methodCall_KW→hU,instObj→ip,kla_obj→kr,keepIn→kP,codeIn→kQ,callWith_K→mn,envX→nV,tabObj→nX,plainGet→sF,kdl_dict→sN,kdl_call→sP,plainGet_of→ui,lookIn→uk,methodObj→wm,hasDictIn→w8,handedIn→xy,KasT→yB,takerIn→zt,cellsFrom_some→As,kitOne→AN,kla_fn→Bi,callWith_K0→Cn,kdu_collect→Co,isFn→CD,plainOver→DJ,specialIn→DM,kitx_list→DO,kitx_dict→DS,kcp_self→EV,codeHdIn→Fh,makesIn→FE,kat_nil→FU,OpenLaw→FV,CodeHd→GG,WalkO→HE
open PySem.Heap renaming get?_push_of_some→Yg,get?_push_size→Yq,lt_size→Yu,get?_update_other→br,get?_update_self→eB,SameBut→eT,size_push→ff,ExtBut→vi,get?_none_of_le→BA,get?_push_at→Ee
open List renaming length_map→Yi,mem_cons_of_mem→Yk,mem_cons_self→Yl,getElem?_eq_getElem→Yo,getElem?_eq_some_iff→Yp,getElem?_map→Yv,size_toArray→Yx,mem_singleton→Yy,mem_cons→YC,mem_of_getElem?→YE,mem_map→YF,length_append→YG,map_append→YK,map_cons→YQ,length_cons→YT,getD_eq_getElem?_getD→YU,mem_append_right→YW,take_length→Y5,mem_map_of_mem→Y6,length_take→ae,mem_append→ai,nodup_cons→aw,mem_filter→cc,append_nil→cy,length_range→cK,range→cS,eq_nil_of_length_eq_zero→dA,length_nil→eJ,any_eq_true→eR,getElem?_append_right→eW,mem_range→fb,nodup_append→fi,getElem?_append_left→fu,length_singleton→fv,mem_append_left→fN,sum_cons→gX,pairwise_iff_getElem→hX,map_map→iA,getElem?_of_mem→iE,take_sublist→iP,map_congr_left→i5,getElem_mem→ja,foldl_cons→kg,getElem?_eq_none→km,any_cons→kC,perm_ext_iff_of_nodup→kF,getElem?_zip_eq_some→kL,map_nil→kT,eraseIdx_eq_take_drop_succ→l9,filter_cons_of_pos→mf,filter_cons_of_neg→mh,find?_cons→mw,filter_append→mB,pairwise_lt_range→mI,append_assoc→mT,length_filter_le→nE,length_drop→oy,mem_of_mem_take→pe,lookup→pk,getElem_of_mem→pT,of_mem_zip→pV,range_succ→qh,exists_mem_of_ne_nil→qk,zip_cons_cons→qr,pairwise_map→rX,lookup_cons→sM,pairwise_append→tN,mem_of_mem_drop→ua,filterMap_cons→ub,pairwise_cons→vw,length_eraseIdx_of_lt→vS,perm_nil→we,any_eq_false→wx,ext_getElem?→xa,drop_eq_getElem_cons→xo,getElem?_take_of_lt→xA,filter_cons→xS,not_mem_nil→yy,Sublist→y7,nodup_range→y8,getElem?_replicate→y9,sum_append→z4,getElem?_set_self→Aq,take_of_length_le→AI,drop_of_length_le→AJ,length_replicate→AQ,nodup_nil→AR,getElem?_toArray→AW,take_succ→AZ,take_append_drop→Bn,getElem?_set_ne→BB,getElem_toArray→BS,mem_filterMap→CC,zip_nil_right→CH,find?_eq_none→C0,zip_nil_left→DV,getElem_take→EB,drop_sublist→EC,foldl_append→EF,getElem?_inj→EH,getElem?_set→EI,length→EK,map_id→EL,nil_sublist→Fc,cons_append→Fu,map_take→HI,map_drop→HK,sum_nil→IB,Perm→JY
open Nat renaming le_refl→Yn,ne_of_lt→YH,lt_of_lt_of_le→YM,zero_le→YZ,lt_irrefl→Y2,le_of_lt→Y7,mod_two_eq_zero_or_one→cq,zero_testBit→cE,le_trans→dy,add_right_cancel→d5,lt_of_le_of_lt→hV,le_succ→hZ,lt_succ_self→i8,ne_of_gt→j3,lt_succ_of_lt→kG,le_of_eq→kR,add_le_add_left→lP,testBit_two_pow→l5,succ_ne_self→oz,eq_of_testBit_eq→oB,pow_le_pow_right→oQ,testBit_and→qf,lt_or_ge→qE,testBit_or→rj,testBit_lt_two_pow→sg,lt_of_succ_lt_succ→sh,lt_pow_two_of_testBit→xk,lt_trans→xB,lt_succ_iff_lt_or_eq→xI,testBit_zero→yT,testBit_succ→yY,and_le_left→Ap,zero_add→CO,lt_trichotomy→EA,lt_of_not_le→Fn,min_eq_right→Fs,min_eq_left→FY,le_total→ID,not_lt→JA,mod_lt→JE
open PySem.Builtin renaming bitNot→Yw,bitAnd→Yz,bitOr→YD
open Int renaming toNat_natCast→YA,eq_ofNat_of_zero_le→cw,le_refl→fF,emod_lt_of_pos→hW,emod_nonneg→iN,toNat_of_nonneg→i6,natCast_nonneg→ml,toNat→ot,mul_le_mul_of_nonneg_right→t9,natCast_pow→z5,one_mul→AH,zero_add→Dx
open Array renaming getElem?_eq_getElem→YI,getElem?_toList→Y9,getD_eq_getD_getElem?→ay,length_toList→aT,getElem?_eq_none→fg,getElem_toList→tJ,perm_iff_toList_perm→wc,toList→CA,toList_push→ED,getD→JI
open Option.some renaming inj→YL
open Bool renaming false_ne_true→YS,eq_false_iff→dS,eq_iff_iff→eD,false_and→fe,and_eq_true→fy,false_or→iX,and_false→i9,false_eq_true→qB,or_eq_true→zD,or_eq_false_iff→BN,true_and→Cf,and_true→GY,or_assoc→G0,or_false→He,not_true→HG
open Sum renaming inl→YX,inr→xt
open PySem.Value renaming ref→Y0,none→ij,type→jI,int→jS,bool→ti,str→zk,notImplemented→BH,isInt_shape→DH,float→EJ,isStrOf→GO,isInt→IG,bytes→IH
open PySem.PassesOwn renaming never→Y8
open PySem.Str renaming ofString→af
open Option renaming map_eq_some_iff→ah,ne_none_iff_exists'→pj,isSome_map→DU,getD_none→ES,getD_some→EZ,map_some→FO,none→II,some→Ya,none→Yb
open PyProof.Rows renaming IntsAre→bg,boot_tuple→bE,boot_list→d6,boot_isinstance→gc,boot_dict→gN,boot_sorted→iL,slot_tuple_getitem→js,kws_cons→kq,envOfC→mv,firstMet→mM,boot_sum→oa,callWith_kw→og,AllBare→sQ,boot_max→sT,kws_nil→tP,callWith_type1→vn,listUpdate_at→wa,IsTup→zo,subscriptTail_builtinR→AB,boot_min→A0,subscriptTail→BY,firstMet_succ→Ck,args_sorted1→CS,lt_int→FA,callWith_builtin1→FF,Subscript_→FG,entry_list_sort→FI,get?_update_seq→FR,slicePart_none→F4,slot_list_sort→F6,gt_int→HM,isTrue_plain→HZ,listItems_at→IC,intBits_le→IF,bitAnd_pp→IJ,boot_bool→IM,boot_int→IZ,tuples'→JJ
open PySem.SetTable renaming below→bp,Probe→F7
open PySem.Paired renaming length→bS,snoc→sd
open PySem.Shared renaming TypeIs→ck
open PySem.NameKind renaming free→dk,cell→gS
open PySem.Heap.SameBut renaming update→dQ
open PySem.Builtin.Int renaming intBits→ed
open PySem.Obj renaming mapSeq→ez,mapFields→sq
open False renaming elim→eM
open PySem.F renaming slot_dict_values→fA,plainAttrs_dict→gi,plainAttrs_list→i4,type_dict_values→lj,args_tuple_add_2→qv,entry_tuple_add→rS,slot_dict_items→rV,slot_tuple_add→se,args_dict_values_1→vT,entry_dict_values→xl,slot_list_extend→y0,type_list_extend→y3,slot_list_append→y4,type_list_append→y6,type_dict_items→ze,plain_list_iadd→zh,entry_min_loop→AE,plain_min_loop→AF,slot_set_iter→AX,called_set→CY
open True renaming intro→fS
open PySem.Builtin.Dict_items renaming ownsTuple→fT,ownedTupleIsFree→DF,pairFromOwner→Fm
open PySem.SetTable.below renaming go→iS
open PySem.Calls renaming callWith_builtin→jJ,Name_function_global→vE
open PyProof.Rows.F renaming plain_set_update_loop→kc,entry_set_update_loop→qS
open PySem.Challenge renaming rw_groupcall_k78_suspecting_settles→kH,pw_groupcall_k78_suspecting_settles→xb
open PySem.Builtin.Slice renaming slicePlaces→kK,sliceAdjust→qc,sliceApplied→vF,slicePartIndex→F3,sliceFields→HU
open Sum.inl renaming inj→kN
open PySem.Builtin.Tuple renaming tupleExact→kU,tupleCompareSizes→sZ,tupleItemsOf→GU
open PySem.PyData.canLayAll0 renaming eq_2→mS
open PySem.PyData renaming canLayAll0→nh,list→AG,tuple→DB,str→FX,depthAll→F0,int→F2,depth→IE
open PySem.Builtin.Builtins renaming bindParams→oi
open PySem.Builtin.List renaming listTooLong→qA,listSameRef→yA,listUpdate→zi,listLengthHint→GL,listExtendWith→GN,listItems→IL
open PySem.SetTable.probe renaming go→r6
open ForInStep renaming yield→tI
open PySem.PyData.canLay0 renaming eq_5→uj,eq_6→JO,eq_7→JU
open PySem.Walks renaming list→xi
open Nat.succ renaming inj→yi
section
local macro_rules|`(tactic|omega)=>`(tactic|first|lia|omega +splitNatSub)
namespace L2
open PySem PySem.Spec PyProof.Rows
variable{us:List Yd}{x name m qual:Yj}{u:Yd}{a b it dx C:Yc}{h h':YR}{items:Array Yd}{P:YJ}{e c tg l value:YY}{pins:List (Yc×Y3)}{s s':Yh}{g':Array GenState}{t' i j k n:Nat}{d':HL}{ch fp:List Yc}{M:Model}{E Q:Yd->Yh->Prop}{pos pos' p tpos apos:hJ}{op:DC}{es:List YY}{body:List YN}{g:Int->Int->Int}{f:Yd->Yd->vj Yd}{mA:Yj->Option Yd}{pl:vj Bool}{kw:List (Yj×Yd)}{fd:Yt}{ps:List Yj}{kindOf:Yj->Option qo}{scope:jv}{id T:String}
abbrev dC:=Sum Int Yj
variable{xs:List (List dC×Yc×Yd)}
noncomputable def Iu:dC->Yd->Bool
 | .inl k,v=>IG k v
 | .inr x,v=>GO x v
noncomputable def anq(w:YV):dC->Int
 | .inl k=>hashInt k
 | .inr x=>hashStr w x
theorem dD:∀{k:dC} {v:Yd},Iu k v=true->(∃i t,k=YX i/\v=jS i t)∨(∃x t,k=xt x/\v=zk x t)
 | .inl i,v,h=>by
  obtain⟨t,e⟩:=DH (k:=i) (v:=v) h;exact .inl ⟨i,t,rfl,e⟩
 | .inr x,v,h=>by
  obtain⟨t,e⟩:=Value.isStrOf_shape (x:=x) (v:=v) h;exact .inr ⟨x,t,rfl,e⟩
theorem ac1(i:Int)(t:l7):Iu (.inl i) (.int i t)=true:=by simp[Iu,IG]
theorem acy(x:Yj)(t:l7):Iu (.inr x) (.str x t)=true:=by simp[Iu,GO]
theorem aje(a b:Int):decide ((YX a:dC)=YX b)=(a==b):=by
 by_cases e:a=b
 ·subst e;simp
 ·have h:¬ (YX a:dC)=YX b:=λq=>e (kN q);rw[decide_eq_false h];exact(beq_eq_false_iff_ne.mpr e).symm
theorem ajG(a b:Yj):decide ((xt a:dC)=xt b)=decide (a=b):=by
 by_cases e:a=b
 ·subst e;simp
 ·have h:¬ (xt a:dC)=xt b:=λq=>e (Sum.inr.inj q);rw[decide_eq_false h,decide_eq_false e]
theorem ajd(a:Int)(b:Yj):decide ((YX a:dC)=xt b)=false:=decide_eq_false (λq=>nomatch q)
theorem akM(a:Yj)(b:Int):decide ((xt a:dC)=YX b)=false:=decide_eq_false (λq=>nomatch q)
noncomputable def bK(prog:YJ)(w:YV):rL prog w dC where
 is:=Iu
 hash:=anq w
 inj:=λv a b ha hb=>by
  rcases dD ha with⟨i,t,rfl,rfl⟩|⟨x,t,rfl,rfl⟩
  ·rcases dD hb with⟨j,u,rfl,e⟩|⟨y,u,rfl,e⟩
   ·injection e with e1 _;rw[e1]
   ·exact nomatch e
  ·rcases dD hb with⟨j,u,rfl,e⟩|⟨y,u,rfl,e⟩
   ·exact nomatch e
   ·injection e with e1 _;rw[e1]
 byValue:=λk v h=>by
  rcases dD h with⟨i,t,rfl,rfl⟩|⟨x,t,rfl,rfl⟩<;>rfl
 pyHash:=λhv h=>by
  rcases dD hv with⟨i,t,rfl,rfl⟩|⟨x,t,rfl,rfl⟩
  ·exact wpAny_pyHash_int h
  ·exact wpAny_pyHash_str h
 eqBool:=λhu hv h=>by
  rcases dD hu with⟨i,t,rfl,rfl⟩|⟨x,t,rfl,rfl⟩
  ·rcases dD hv with⟨j,u,rfl,rfl⟩|⟨y,u,rfl,rfl⟩
   ·rw[aje]at h;exact EM h
   ·rw[ajd]at h;exact SeqAt.EqAt.int_str i t y u _ _ _ _ h
  ·rcases dD hv with⟨j,u,rfl,rfl⟩|⟨y,u,rfl,rfl⟩
   ·rw[akM]at h;exact SeqAt.EqAt.str_int x t j u _ _ _ _ h
   ·rw[ajG]at h;exact wpAny_eqBool_str h
 «strs»:=λk x t v h=>by
  rcases dD h with⟨i,u,rfl,e⟩|⟨y,u,rfl,e⟩
  ·exact nomatch e
  ·injection e with e1 _;subst e1;cases v<;>rfl
theorem BL(prog:YJ)(w:YV)(i:Int)(t:l7):(bK prog w).is (.inl i) (.int i t)=true:=ac1 i t
theorem XC(prog:YJ)(w:YV)(x:Yj)(t:l7):(bK prog w).is (.inr x) (.str x t)=true:=acy x t
inductive V where
 |non|bl (b:Bool)|int (i:Int)|str (x:Yj)|byt (b:Array UInt8)|flt (b:UInt64)|ref (a:Yc)|ty (n:String)
 deriving DecidableEq
variable{v y:V}{vs:List V}{kvs:List (List dC×V)}
def RelV:V->Yd->Prop
 | .non,u=>u=ij
 | .bl b,u=>u=ti b
 | .int i,u=>∃t,u=jS i t
 | .str x,u=>∃t,u=zk x t
 | .byt b,u=>∃t,u=IH b t
 | .flt b,u=>∃t,u=EJ b t
 | .ref a,u=>u=Y0 a
 | .ty n,u=>u=jI n
abbrev Vals:List V->List Yd->Prop:=d3 RelV
theorem Vals.length{xs:List V}(r:Vals xs us):xs.length=us.length:=bS r
theorem Vals.get:∀{xs:List V} {us:List Yd} {i:Nat} {x:V},Vals xs us->xs[i]?=Ya x->∃u,us[i]?=Ya u/\RelV x u:=by
 intro a b i x w
 induction w generalizing i with
 |nil=>exact λe=>by simp at e
 |cons r _ ih=>
  intro e;cases i with
  |zero=>simp at e;subst e;exact⟨_,rfl,r⟩
  |succ i=>
   obtain⟨p,h1,h2⟩:=ih (i:=i) (by simpa using e);exact⟨p,by simpa using h1,h2⟩
theorem Vals.set{x:V}{u:Yd}(r:RelV x u):∀{xs:List V} {us:List Yd} (i:Nat),Vals xs us->Vals (xs.set i x) (us.set i u)
 |_,_,_,.nil=>.nil
 |_,_,0,.cons _ t=>.cons r t
 |_,_,i+ 1,.cons q t=>.cons q (Vals.set r i t)
theorem Vals.append:∀{xs ys:List V} {us ws:List Yd},Vals xs us->Vals ys ws->Vals (xs++ys) (us++ws):=by
 intro a b c d w h
 induction w with
 |nil=>exact h
 |cons r _ ih=>exact .cons r ih
theorem Vals.take:∀{xs:List V} {us:List Yd} (n:Nat),Vals xs us->Vals (xs.take n) (us.take n)
 |_,_,0,_=>.nil
 |_,_,_+ 1,.nil=>.nil
 |_,_,n+ 1,.cons r t=>.cons r (Vals.take n t)
theorem Vals.drop:∀{xs:List V} {us:List Yd} (n:Nat),Vals xs us->Vals (xs.drop n) (us.drop n)
 |_,_,0,r=>r
 |_,_,_+ 1,.nil=>.nil
 |_,_,n+ 1,.cons _ t=>Vals.drop n t
def zE:Option V->Option Yd->Prop
 |some v,Ya u=>RelV v u
 |none,Yb=>True
 |_,_=>False
def KV{κ:Type}:List (κ×V)->List (κ×Yd)->Prop:=d3 fun(p:κ×V) (q:κ×Yd)=>p.1=q.1/\RelV p.2 q.2
noncomputable def kV:dC->V
 | .inl i=>.int i
 | .inr x=>.str x
inductive HO where
 |lst (xs:List V)
 |tup (xs:List V)
 |dK (kvs:List (dC×V))|dT (kvs:List (List dC×V))
 |set (S:Int->Bool) (n:Nat)
 |ins (C dx:Yc) (fs:List (Yj×V))
 |own (x:Yc)
 |xd (fs:List (Yj×V))
 |met (f x:Yc)
 |rng (lo hi:Int)
 |frz (o:Y3) (u:HO)
 |tbl (ps:Array Yd)
 |ext (φ:YR->Prop)
variable{o:HO}
abbrev Hp:=Yc->Option HO
variable{H H':Hp}{R:V->V->Hp->Prop}
noncomputable def upd(H:Hp)(a:Yc)(o:HO):Hp:=λb=>if b=a then Ya o else H b
theorem aB:upd H a o a=Ya o:=by unfold upd;rw[if_pos rfl]
theorem aK(h:b≠a):upd H a o b=H b:=by unfold upd;rw[if_neg h]
theorem agU{u:HO}:upd (upd H a o) a u=upd H a u:=by
 funext b;unfold upd;split<;>rfl
theorem bj{u:HO}(h:H a=Ya o)(h':H b=Ya u)(d:o≠u):a≠b:=by
 intro e;subst e;rw[h]at h';exact d (YL h')
theorem aP(h:H a=Ya o)(h':H b=Yb):a≠b:=by
 intro e;subst e;rw[h]at h';cases h'
def ut(h:YR)(a:Yc)(items:Array Yd):Prop:=∃o,h.get? a=Ya o/\o.cls=.type "tuple"/\∃n,o.data=.seq items n/\o.dict=Yb/\o.slots=#[]
theorem ut.tup(x:ut h a items):zo h a items:=let ⟨o,e,c,n,d,_⟩:=x;⟨o,e,c,n,d⟩
theorem ut.lt(x:ut h a items):a<h.objs.size:=x.tup.lt
theorem ut.new(h:YR)(items:Array Yd):ut (h.push {cls:=.type "tuple",data:=.seq items}) h.objs.size items:=⟨_,Yq _ rfl,rfl,_,rfl,rfl,rfl⟩
section
variable(P:YJ)(w:YV)
def fc(H:Hp)(h:YR)(a:Yc):HO->Prop
 | .lst xs=>xs.length<=YB/\∃(its:List Yd) (n:Nat),Vals xs its/\h.get? a=Ya {cls:=.type "list",data:=.seq its.toArray n}
 | .tup xs=>xs.length<=YB/\∃its:List Yd,Vals xs its/\ut h a its.toArray
 | .dK kvs=>kvs.length<=YB/\(a==ee)=false/\∃vs,KV kvs vs/\h.DictOf (bK P w) a vs
 | .dT kvs=>kvs.length<=YB/\(a==ee)=false/\∃xs:List (List dC×Yc×Yd),
   d3 (fun(p:List dC×V) (q:List dC×Yc×Yd)=>p.1=q.1/\H q.2.1=Ya (.tup (p.1.map kV))/\RelV p.2 q.2.2) kvs xs/\
   ∃o es ep,h.get? a=Ya o/\o.ExactDict/\o.data=.dict es ep/\es.toList=xs.map (Bz (j1 (bK P w)))/\(xs.map (·.1)).Nodup
 | .set S n=>h.SetOf (gz P w) a S n
 | .ins C dx fs=>H dx=Ya (.own a)/\fs.length<=1000/\dx≠a/\h.get? a=Ya (ip C dx)/\
   ∃mA,h.Ns1 dx mA/\(∀f,zE (fs.lookup f) (mA f))/\Cs mA (fs.map (·.1))
 | .own _=>∃o,h.get? a=Ya o
 | .xd fs=>∃mA,h.Ns1 a mA/\∀f,zE (fs.lookup f) (mA f)
 | .rng lo hi=>∃t u v,h.get? a=Ya {cls:=.type "range",data:=.fields #[.int lo t,.int hi u,.int 1 v]}
 | .frz o u=>h.get? a=Ya o/\fc H h a u
 | .tbl ps=>h.get? a=Ya {cls:=.none,data:=.fields ps}
 | .met f x=>h.get? a=Ya (wm (.ref f) (.ref x))
 | .ext φ=>φ h/\(∃o,h.get? a=Ya o)/\∀h1 h2:YR,φ h1->(∀o,h1.get? a=Ya o->h2.get? a=Ya o)->φ h2
def vd(H:Hp)(h:YR):Prop:=∀a o,H a=Ya o->fc P w H h a o
end
section
variable{w:YV}
theorem fc.lt(x:fc P w H h a o):a<h.objs.size:=by
 cases o with
 |lst xs=>obtain⟨_,_,_,_,e⟩:=x;exact Yu e
 |tup xs=>obtain⟨_,_,_,p⟩:=x;exact p.lt
 |dK kvs=>obtain⟨_,_,_,_,o,_,_,e,_⟩:=x;exact Yu e
 |dT kvs=>obtain⟨_,_,_,_,o,_,_,e,_⟩:=x;exact Yu e
 |set S n=>obtain⟨o,_,_,_,e,_⟩:=x;exact Yu e
 |ins C dx fs=>obtain⟨_,_,_,e,_⟩:=x;exact Yu e
 |own y=>obtain⟨_,e⟩:=x;exact Yu e
 |xd fs=>obtain⟨_,⟨_,_,_,e,_⟩,_⟩:=x;exact Yu e
 |rng lo hi=>obtain⟨_,_,_,e⟩:=x;exact Yu e
 |frz ob u=>obtain⟨e,_⟩:=x;exact Yu e
 |tbl ps=>exact Yu (show h.get? a=Ya _ from x)
 |met f y=>exact Yu (show h.get? a=Ya _ from x)
 |ext φ=>obtain⟨_,⟨_,e⟩,_⟩:=x;exact Yu e
theorem d3.mapP{α β:Type}{F G:α->β->Prop}:∀{l₁:List α} {l₂:List β},d3 F l₁ l₂->(∀a b,F a b->G a b)->d3 G l₁ l₂:=by
 intro a b w f
 induction w with
 |nil=>exact .nil
 |cons r _ ih=>exact .cons (f _ _ r) ih
theorem fc.stay(x:fc P w H h a o)(k:∀b u,(b=a∨H b=Ya (.own a))->h.get? b=Ya u->h'.get? b=Ya u)
  (ho:∀b,H b=Ya (.own a)->H' b=Ya (.own a)) (ht:∀b xs,H b=Ya (.tup xs)->H' b=Ya (.tup xs)):fc P w H' h' a o:=by
 induction o with
 |lst xs=>obtain⟨z,its,n,r,e⟩:=x;exact⟨z,its,n,r,k _ _ (.inl rfl) e⟩
 |tup xs=>obtain⟨z,its,r,ob,e,c⟩:=x;exact⟨z,its,r,ob,k _ _ (.inl rfl) e,c⟩
 |dK kvs=>obtain⟨z,y,vs,r,ob,es,ep,e,c⟩:=x;exact⟨z,y,vs,r,ob,es,ep,k _ _ (.inl rfl) e,c⟩
 |dT kvs=>
  obtain⟨z,y,xs,r,ob,es,ep,e,c⟩:=x;exact⟨z,y,xs,d3.mapP r λp q z=>⟨z.1,ht _ _ z.2.1,z.2.2⟩,ob,es,ep,k _ _ (.inl rfl) e,c⟩
 |set S n=>obtain⟨ob,es,ep,t,e,c⟩:=x;exact⟨ob,es,ep,t,k _ _ (.inl rfl) e,c⟩
 |ins C dx fs=>
  obtain⟨d,z,ne,e,mA,⟨od,es,ep,e2,c⟩,r⟩:=x;exact⟨ho _ d,z,ne,k _ _ (.inl rfl) e,mA,⟨od,es,ep,k _ _ (.inr d) e2,c⟩,r⟩
 |own y=>obtain⟨ob,e⟩:=x;exact⟨ob,k _ _ (.inl rfl) e⟩
 |xd fs=>obtain⟨mA,⟨od,es,ep,e,c⟩,r⟩:=x;exact⟨mA,⟨od,es,ep,k _ _ (.inl rfl) e,c⟩,r⟩
 |rng lo hi=>obtain⟨t,u,v,e⟩:=x;exact⟨t,u,v,k _ _ (.inl rfl) e⟩
 |frz ob u ih=>obtain⟨e,q⟩:=x;exact⟨k _ _ (.inl rfl) e,ih q⟩
 |tbl ps=>
  have e:h.get? a=Ya {cls:=.none,data:=.fields ps}:=x;show h'.get? a=Ya {cls:=.none,data:=.fields ps};exact k a _ (.inl rfl) e
 |met f y=>
  have e:h.get? a=Ya (wm (.ref f) (.ref y)):=x;show h'.get? a=Ya (wm (.ref f) (.ref y));exact k a _ (.inl rfl) e
 |ext φ=>obtain⟨p,⟨o,e⟩,st⟩:=x;exact⟨st _ _ p λo q=>k _ _ (.inl rfl) q,⟨o,k _ _ (.inl rfl) e⟩,st⟩
theorem vd.lt(x:vd P w H h)(e:H a=Ya o):a<h.objs.size:=(x a o e).lt
theorem vd.fresh(x:vd P w H h)(e:h.objs.size<=a):H a=none:=by
 cases q:H a with
 |none=>rfl
 |some u=>exact absurd (YM (x.lt q) e) (Y2 _)
theorem vd.kept(x:vd P w H h)(k:∀b u,h.get? b=Ya u->h'.get? b=Ya u):vd P w H h':=λa o e=>
 (x a o e).stay (λb u _ q=>k b u q) (λ_ q=>q) λ_ _ q=>q
theorem vd.laid(x:vd P w H h)(k:∀b u,h.get? b=Ya u->h'.get? b=Ya u)(hp:h.objs.size<=a)(new:fc P w (upd H a o) h' a o):vd P w (upd H a o) h':=λb u e=>by
 have hn:=x.fresh hp;by_cases hb:b=a
 ·subst hb;rw[aB]at e;cases e;exact new
 ·rw[aK hb]at e;exact(x b u e).stay (λc v _ q=>k c v q) (λc q=>by rw[aK (aP q hn)];exact q) λc xs q=>by rw[aK (aP q hn)];exact q
end
def Rd(H:Hp)(a:Yc)(u:HO):Prop:=H a=Ya u∨∃o,H a=Ya (.frz o u)
theorem Rd.ok{w:YV}{u:HO}(r:Rd H a u)(x:vd P w H h):fc P w H h a u:=by
 rcases r with r|⟨o,r⟩
 ·exact x a u r
 ·obtain⟨_,q⟩:=x a _ r;exact q
def Mut:Option HO->Prop
 |some (.lst _)=>True
 |some (.dK _)=>True
 |some (.dT _)=>True
 |some (.set _ _)=>True
 |some (.ins _ _ _)=>True
 |some (.ext _)=>True
 |_=>False
section
variable{w:YV}{x e:Yc}{o':HO}
theorem vd.write(ok:vd P w H h)(mu:Mut (H x))(he:e=x∨H e=Ya (.own x))(k:∀b u,b≠e->h.get? b=Ya u->h'.get? b=Ya u)(heo:∃u,h'.get? e=Ya u)
  (new:fc P w (upd H x o') h' x o'):vd P w (upd H x o') h':=λb u q=>by
 have nown:∀c y,H c=Ya (.own y)->c≠x:=λc y r z=>by subst z;rw[r]at mu;exact mu
 have ntup:∀c xs,H c=Ya (.tup xs)->c≠x:=λc xs r z=>by subst z;rw[r]at mu;exact mu
 by_cases hb:b=x
 ·subst hb;rw[aB]at q;cases q;exact new
 ·rw[aK hb]at q;by_cases hbe:b=e
  ·have q':H b=Ya (.own x):=by
    rcases he with z|z
    ·exact absurd (hbe.trans z) hb
    ·rw[hbe];exact z
   rw[q]at q';cases q';obtain⟨v,hv⟩:=heo;exact⟨v,by rw[hbe];exact hv⟩
  ·refine(ok b u q).stay (λc v hc r=>k c v ?_ r) (λc r=>by rw[aK (nown c b r)];exact r) λc xs r=>by rw[aK (ntup c xs r)];exact r
   rcases hc with rfl|hc
   ·exact hbe
   ·rintro rfl;rcases he with z|z
    ·exact nown c b hc z
    ·rw[hc]at z;cases z;exact hb rfl
end
structure Un(fs ex:List Yc)(H H':Hp)(h h':YR):Prop where
 keep:∀b o,h.get? b=Ya o->H b=Yb->b∉fs->b∉ex->h'.get? b=Ya o
 slot:∀b o,h.get? b=Ya o->H b=Yb->b∈fs->b∉ex->∃sl,h'.get? b=Ya {o with slots:=sl}
 free:∀b o,h.get? b=Ya o->H b=Yb->b∉ex->H' b=Yb
 there:∀b o,h.get? b=Ya o->b∉ex->∃o',h'.get? b=Ya o'
 tups:∀b xs,H b=Ya (.tup xs)->H' b=Ya (.tup xs)
 frzs:∀b o u,H b=Ya (.frz o u)->H' b=Ya (.frz o u)
 tbls:∀b ps,H b=Ya (.tbl ps)->∃more,H' b=Ya (.tbl (ps++more))
section
variable{fs fs' ex ex':List Yc}{H1 H2:Hp}{h1 h2:YR}{x e:Yc}
theorem Un.any(u:Un fs ex H H1 h h1){ob:Y3}(q:h.get? b=Ya ob)(n:H b=Yb)(hx:b∉ex):∃sl,h1.get? b=Ya {ob with slots:=sl}:=by
 by_cases hb:b∈fs
 ·exact u.slot b ob q n hb hx
 ·exact⟨ob.slots,u.keep b ob q n hb hx⟩
theorem Un.kept(k:∀b u,h.get? b=Ya u->h'.get? b=Ya u):Un fs ex H H h h':=
 ⟨λb ob q _ _ _=>k b ob q,λb ob q _ _ _=>⟨ob.slots,k b ob q⟩,λ_ _ _ n _=>n,λb ob q _=>⟨ob,k b ob q⟩,λ_ _ q=>q,λ_ _ _ q=>q,λ_ ps q=>⟨#[],by rw[q];simp⟩⟩
theorem Un.refl:Un fs ex H H h h:=Un.kept λ_ _ q=>q
theorem Un.laid(k:∀b u,h.get? b=Ya u->h'.get? b=Ya u)(hp:h.objs.size<=a)(hn:H a=Yb):Un fs ex H (upd H a o) h h' where
 keep:=λb u q _ _ _=>k b u q
 slot:=λb u q _ _ _=>⟨u.slots,k b u q⟩
 free:=λb u q n _=>by rw[aK (YH (YM (Yu q) hp))];exact n
 there:=λb u q _=>⟨u,k b u q⟩
 tups:=λb xs q=>by rw[aK (aP q hn)];exact q
 frzs:=λb u xs q=>by rw[aK (aP q hn)];exact q
 tbls:=λb ps q=>⟨#[],by rw[aK (aP q hn),q];simp⟩
theorem Un.write(mu:Mut (H x))(he:e=x∨H e=Ya (.own x))(k:∀b u,b≠e->h.get? b=Ya u->h'.get? b=Ya u)(heo:∃u,h'.get? e=Ya u):Un fs ex H (upd H x o) h h':=by
 have hx:∀b,H b=Yb->b≠x:=λb n z=>by subst z;rw[n]at mu;exact mu
 have hb:∀b,H b=Yb->b≠e:=λb n z=>by
  subst z;rcases he with r|r
  ·exact hx b n r
  ·rw[n]at r;cases r
 have hm:∀b u,H b=Ya u->¬ Mut (Ya u)->b≠x:=λb u q nm z=>by subst z;rw[q]at mu;exact nm mu
 refine⟨λb u q n _ _=>k b u (hb b n) q,λb u q n _ _=>⟨u.slots,k b u (hb b n) q⟩,λb u q n _=>by rw[aK (hx b n)];exact n,λb u q _=>?_,
  λb xs q=>by rw[aK (hm b _ q λz=>z)];exact q,λb u xs q=>by rw[aK (hm b _ q λz=>z)];exact q,λb ps q=>⟨#[],by rw[aK (hm b _ q λz=>z),q];simp⟩⟩
 by_cases hbe:b=e
 ·subst hbe;exact heo
 ·exact⟨u,k b u hbe q⟩
end
noncomputable def trk(h:YR)(H:Hp):List Yc:=(cS h.objs.size).filter λa=>(H a).isSome
noncomputable def Tf(h:YR)(H:Hp):YR:=PySem.W.hideAll h (trk h H)
theorem ac9(h:YR)(H:Hp):(Tf h H).objs.size=h.objs.size:=PySem.W.hideAll_size _ _
theorem Nt{o:Y3}(e:h.get? b=Ya o)(n:H b=Yb):(Tf h H).get? b=Ya o:=
 PySem.W.hideAll_get _ e λhm=>by
  have q:(H b).isSome=true:=(cc.mp hm).2;rw[n]at q;simp at q
theorem agS{o:Y3}(e:(Tf h H).get? b=Ya o):h.get? b=Ya o/\H b=none:=by
 have e':h.get? b=Ya o:=PySem.W.of_hideAll (trk h H) e;refine⟨e',?_⟩;cases q:H b with
 |none=>rfl
 |some x=>
  have hm:b∈trk h H:=cc.mpr ⟨fb.mpr (Yu e'),by simp[q]⟩;have z:(Tf h H).get? b=none:=PySem.W.hideAll_none (trk h H) hm;rw[z]at e;cases e
structure Mod(K:Ye)(mg:Yj->Option Yd)(base:YR):Prop where
 kin:K.In base
 glob:base.Ns Y1 mg
 blt:∃mb,base.Ns xc mb/\∀x:Yj,x≠"__name__"->mb x=iq x
 nolimit:base.NoLimit
structure Cx where
 prog:YJ
 w:YV
 K:Ye
 mg:Yj->Option Yd
 base:YR
 A:Y4
 N:List Yj
 s₀:Yh
 H₀:Hp
 env:l8
 outer:List l8
 stack:List l8
 ex:List Yc
 fn:Yj->Bool
 calm:Bool
 pn:List (Yc×Y3)
 xe:Yd->Yh->Prop
variable{w:YV}{X:Cx}{N:List Yj}{A:Y4}{K:Ye}{prog:YJ}{env:l8}{mg:Yj->Option Yd}{outer:List l8}
noncomputable def frs(l:List l8):List Yc:=l.filterMap (·.frame)
noncomputable abbrev Cx.fs(X:Cx):List Yc:=frs X.outer
variable{fs:List (Yj×V)}
def Vis(sc:jv)(x:Yj):Prop:=sc.names.lookup x=Ya .local∨sc.names.lookup x=Ya .cell∨sc.names.lookup x=Ya .free
def Loc(sc:jv)(x:Yj):Prop:=sc.names.lookup x=Ya .local∨sc.names.lookup x=Ya .cell
def am4(env:l8)(h:YR)(m:Yj->Option Yd)(x:Yj)(u:Yd):Prop:=
 (env.kindOf x=Ya .local/\m x=Ya u)∨((env.kindOf x=Ya .cell∨env.kindOf x=Ya .free)/\∃c,env.cells.lookup x=Ya c/\h.IsCell c (Ya u))
structure Cx.Ok(X:Cx):Prop where
 mod:Mod X.K X.mg X.base
 kind:X.env.scope.kind=.function
 glob:X.env.globals=Y1
 blt:X.env.builtins=xc
 above:X.s₀.heap.objs.size<=X.env.locals
 inj:∀x y c,X.env.cells.lookup x=Ya c->X.env.cells.lookup y=Ya c->x=y
 has:∀x,(X.env.kindOf x=Ya .cell∨X.env.kindOf x=Ya .free)->∃c,X.env.cells.lookup x=Ya c
 cab:∀x c,X.fn x=true->X.env.cells.lookup x=Ya c->X.s₀.heap.objs.size<=c
 hd:X.calm=true->X.A.handled=Yb
 frames:X.A.frames=Ya X.stack
 stk:X.stack=X.outer∨(X.stack=X.env::X.outer/\X.env.frame=Ya X.env.locals)
 exf:∀b∈X.ex,b≠X.env.locals/\∀x c,X.env.cells.lookup x=Ya c->c≠b
 bs:∀b o,X.base.get? b=Ya o->X.s₀.heap.get? b=Ya o/\X.H₀ b=Yb
 bsz:X.base.objs.size<=X.s₀.heap.objs.size
 noex:∀b o,X.base.get? b=Ya o->b∉X.ex
 exfs:∀b∈X.ex,b∉X.fs
 funs:X.s₀.heap.FunFrames X.base X.outer
 frf:∀b∈X.fs,X.H₀ b=Yb
structure bw(X:Cx)(pins:List (Yc×Y3))(σ:List (Option V))(H:Hp)(s:Yh):Prop where
 ok:X.Ok
 os:s.os=X.s₀.os
 bare:sQ s.gens
 base:Un X.fs X.ex X.H₀ H X.s₀.heap s.heap
 loc:∃m,s.heap.Ns X.env.locals m/\∀(i:Nat) (x:Yj) (v:V),X.N[i]?=Ya x->σ[i]?=Ya (Ya v)->Vis X.env.scope x->∃u,RelV v u/\am4 X.env s.heap m x u
 cell:∀x c,X.env.cells.lookup x=Ya c->∃v,s.heap.IsCell c v
 free:H X.env.locals=Yb
 freeC:∀x c,X.env.cells.lookup x=Ya c->H c=Yb
 pin:∀p∈X.pn++pins,s.heap.get? p.1=Ya p.2/\H p.1=Yb/\p.1≠X.env.locals/\p.1∉X.fs/\∀v,p.2.data≠.cell v
 hok:vd X.prog X.w H s.heap
 len:σ.length=X.N.length
variable{base:YR}
section
variable{σ:List (Option V)}
theorem Cx.Ok.nofr(ok:X.Ok){o:Y3}(e:X.base.get? b=Ya o):b∉X.fs:=λhb=>by
 have:=(ok.funs.mem hb).1;rw[e]at this;cases this
theorem bw.bs(I:bw X pins σ H s):∀b o,X.base.get? b=Ya o->s.heap.get? b=Ya o/\H b=none:=λb o e=>
 ⟨I.base.keep b o (I.ok.bs b o e).1 (I.ok.bs b o e).2 (I.ok.nofr e) (I.ok.noex b o e),I.base.free b o (I.ok.bs b o e).1 (I.ok.bs b o e).2 (I.ok.noex b o e)⟩
theorem bw.bk(I:bw X pins σ H s):∀b o,X.base.get? b=Ya o->s.heap.get? b=Ya o:=λb o e=>(I.bs b o e).1
theorem bw.mod(I:bw X pins σ H s):Mod X.K X.mg X.base:=I.ok.mod
theorem bw.kIn(I:bw X pins σ H s):X.K.In s.heap:=I.ok.mod.kin.keeps I.bk
theorem bw.lt(I:bw X pins σ H s):X.env.locals<s.heap.objs.size:=let ⟨_,hn,_⟩:=I.loc;hn.lt
theorem bw.sz(I:bw X pins σ H s):X.s₀.heap.objs.size<=s.heap.objs.size:=dy I.ok.above (Y7 I.lt)
theorem bw.nofs(I:bw X pins σ H s)(h:s.heap.objs.size<=a):a∉X.fs:=λhb=>by
 obtain⟨_,o,ho,_⟩:=I.ok.funs.mem hb;exact absurd (YM (Yu ho) (dy I.sz h)) (Y2 _)
theorem bw.cne(I:bw X pins σ H s):∀x c,X.env.cells.lookup x=Ya c->c≠X.env.locals:=λx c e z=>by
 obtain⟨v,o,ho,hd⟩:=I.cell x c e;obtain⟨m,⟨o',es,ep,ho',hd',_⟩,_⟩:=I.loc;rw[z,ho']at ho;cases ho;rw[hd']at hd;cases hd
theorem bw.funs(I:bw X pins σ H s):s.heap.FunFrames X.base X.outer:=by
 have all:∀(l:List l8),(∀b∈frs l,b∈X.fs)->X.s₀.heap.FunFrames X.base l->s.heap.FunFrames X.base l:=by
  intro l
  induction l with
  |nil=>intro _ _;trivial
  |cons env r ih=>
   intro hs hl;obtain⟨hk,⟨L,o,hf,hn,ho,hd⟩,hr⟩:=hl;have hL:L∈X.fs:=hs L (by unfold frs;rw[ub,hf];exact Yl);obtain⟨sl,e⟩:=I.base.slot L o ho (I.ok.frf L hL) hL λz=>I.ok.exfs L z hL;exact⟨hk,⟨L,_,hf,hn,e,hd⟩,ih (λb hb=>hs b (by unfold frs;rw[ub,hf];exact Yk _ hb)) hr⟩
 exact all X.outer (λ_ hb=>hb) I.ok.funs
theorem bw.stack(I:bw X pins σ H s):s.heap.FunFrames X.base X.stack:=by
 rcases I.ok.stk with e|⟨e,hf⟩
 ·rw[e];exact I.funs
 ·rw[e];obtain⟨m,hn,_⟩:=I.loc;refine .cons (by rw[I.ok.kind];decide) hf hn ?_ I.funs;exact BA (dy I.ok.bsz I.ok.above)
theorem bw.stkSub(I:bw X pins σ H s):∀b∈frs X.stack,b∈X.env.locals::X.fs:=λb hb=>by
 rcases I.ok.stk with e|⟨e,hf⟩
 ·rw[e]at hb;exact Yk _ hb
 ·rw[e]at hb;unfold frs at hb;rw[ub,hf]at hb;exact hb
theorem bw.stkFree(I:bw X pins σ H s):∀b∈frs X.stack,H b=none:=λb hb=>by
 rcases YC.mp (I.stkSub b hb)with e|hb
 ·rw[e];exact I.free
 ·obtain⟨_,o,ho,_⟩:=I.ok.funs.mem hb;exact I.base.free b o ho (I.ok.frf b hb) λz=>I.ok.exfs b z hb
theorem bw.step(I:bw X pins σ H s)(hch:∀b∈ch,(b∈X.ex∨X.s₀.heap.objs.size<=b)/\b≠X.env.locals/\(∀x c,X.env.cells.lookup x=Ya c->c≠b)/\∀p∈X.pn++pins,p.1≠b)(keep:∀b o,b≠X.env.locals->b∉X.fs->b∉ch->s.heap.get? b=Ya o->H b=Yb->h'.get? b=Ya o)(slot:∀b o,b≠X.env.locals->b∈X.fs->b∉ch->s.heap.get? b=Ya o->H b=Yb->∃sl,h'.get? b=Ya {o with slots:=sl})(free:∀b o,b∉ch->s.heap.get? b=Ya o->H b=Yb->H' b=Yb)(there:∀b o,b∉ch->s.heap.get? b=Ya o->∃o',h'.get? b=Ya o')(tups:∀b xs,H b=Ya (.tup xs)->H' b=Ya (.tup xs))(frzs:∀b o u,H b=Ya (.frz o u)->H' b=Ya (.frz o u))(tbls:∀b ps,H b=Ya (.tbl ps)->∃more,H' b=Ya (.tbl (ps++more)))(ns:∀m,s.heap.Ns X.env.locals m->h'.Ns X.env.locals m)(hok:vd X.prog X.w H' h')(hg:sQ g'):
  bw X pins σ H' {s with heap:=h',gens:=g',drawn:=d',toks:=t'}:=by
 have neL:∀b o,X.s₀.heap.get? b=Ya o->b≠X.env.locals:=λb o e=>YH (YM (Yu e) I.ok.above);have neC:∀b o,X.s₀.heap.get? b=Ya o->b∉X.ex->b∉ch:=λb o e hx hb=>by
  rcases(hch b hb).1 with z|z
  ·exact hx z
  ·exact absurd (YM (Yu e) z) (Y2 _)
 have cellK:∀x c,X.env.cells.lookup x=Ya c->∀v,s.heap.IsCell c v->h'.IsCell c v:=λx c e v ⟨o,ho,hd⟩=>by
  have nch:c∉ch:=λz=>(hch c z).2.2.1 x c e rfl;by_cases hc:c∈X.fs
  ·obtain⟨sl,q⟩:=slot c o (I.cne x c e) hc nch ho (I.freeC x c e);exact⟨_,q,hd⟩
  ·exact⟨o,keep c o (I.cne x c e) hc nch ho (I.freeC x c e),hd⟩
 refine⟨I.ok,I.os,hg,⟨λb o e n hb hx=>?_,λb o e n hb hx=>?_,λb o e n hx=>?_,λb o e hx=>?_,λb xs e=>tups b xs (I.base.tups b xs e),λb o xs e=>frzs b o xs (I.base.frzs b o xs e),λb ps e=>?_⟩,?_,λx c e=>?_,?_,λx c e=>?_,λp hp=>?_,hok,I.len⟩
 ·exact keep b o (neL b o e) hb (neC b o e hx) (I.base.keep b o e n hb hx) (I.base.free b o e n hx)
 ·obtain⟨sl,e1⟩:=I.base.slot b o e n hb hx;obtain⟨sl',e2⟩:=slot b _ (neL b o e) hb (neC b o e hx) e1 (I.base.free b o e n hx);exact⟨sl',e2⟩
 ·obtain⟨o',e1⟩:=I.base.there b o e hx;exact free b o' (neC b o e hx) e1 (I.base.free b o e n hx)
 ·obtain⟨o',e1⟩:=I.base.there b o e hx;exact there b o' (neC b o e hx) e1
 ·obtain⟨m1,e1⟩:=I.base.tbls b ps e;obtain⟨m2,e2⟩:=tbls b _ e1;exact⟨m1++m2,by rw[e2,Array.append_assoc]⟩
 ·obtain⟨m,hn,hl⟩:=I.loc;refine⟨m,ns m hn,λi x v e1 e2 e3=>?_⟩;obtain⟨u,r,l⟩:=hl i x v e1 e2 e3;refine⟨u,r,?_⟩;rcases l with l|⟨k,c,e,z⟩
  ·exact .inl l
  ·exact .inr ⟨k,c,e,cellK x c e _ z⟩
 ·obtain⟨v,z⟩:=I.cell x c e;exact⟨v,cellK x c e v z⟩
 ·obtain⟨m,⟨o,_,_,ho,_⟩,_⟩:=I.loc;exact free _ o (λz=>(hch _ z).2.1 rfl) ho I.free
 ·obtain⟨v,o,ho,hd⟩:=I.cell x c e;exact free c o (λz=>(hch c z).2.2.1 x c e rfl) ho (I.freeC x c e)
 ·obtain⟨e,n,ne,nf,d⟩:=I.pin p hp;have nch:p.1∉ch:=λz=>(hch p.1 z).2.2.2 p hp rfl;exact⟨keep p.1 p.2 ne nf nch e n,free p.1 p.2 nch e n,ne,nf,d⟩
theorem bw.un(I:bw X pins σ H s)(u:Un X.fs [] H H' s.heap h')(hok:vd X.prog X.w H' h'):bw X pins σ H' {s with heap:=h',toks:=t'}:=by
 obtain⟨m,⟨o,es,ep,ho,r⟩,_⟩:=id I.loc;obtain⟨sl,hL⟩:=u.any ho I.free (by simp);exact I.step (g':=s.gens) (d':=s.drawn) (ch:=[]) (λ_ z=>nomatch z) (λb o _ hb _ e n=>u.keep b o e n hb (by simp)) (λb o _ hb _ e n=>u.slot b o e n hb (by simp)) (λb o _ e n=>u.free b o e n (by simp)) (λb o _ e=>u.there b o e (by simp)) u.tups u.frzs u.tbls (λm' hm=>by
  obtain⟨o',es',ep',ho',r'⟩:=hm;rw[ho]at ho';cases ho';exact⟨_,es',ep',hL,r'⟩) hok I.bare
theorem bw.call(I:bw X pins σ H s)(u:Un (frs X.stack) ch H H' s.heap h')(hok:vd X.prog X.w H' h')(hg:sQ g')(hch:∀b∈ch,(b∈X.ex∨X.s₀.heap.objs.size<=b)/\b≠X.env.locals/\(∀x c,X.env.cells.lookup x=Ya c->c≠b)/\∀p∈X.pn++pins,p.1≠b):
  bw X pins σ H' {s with heap:=h',gens:=g',drawn:=d',toks:=t'}:=by
 obtain⟨m,⟨o,es,ep,ho,r⟩,_⟩:=id I.loc;obtain⟨sl,hL⟩:=u.any ho I.free λz=>(hch _ z).2.1 rfl;exact I.step (ch:=ch) hch (λb o hL hb hc e n=>u.keep b o e n (λz=>(YC.mp (I.stkSub b z)).elim hL hb) hc) (λb o _ _ hc e n=>u.any e n hc) (λb o hc e n=>u.free b o e n hc) (λb o hc e=>u.there b o e hc) u.tups u.frzs u.tbls (λm' hm=>by
  obtain⟨o',es',ep',ho',r'⟩:=hm;rw[ho]at ho';cases ho';exact⟨_,es',ep',hL,r'⟩) hok hg
theorem bw.turned(I:bw X pins σ H s)(k:∀b o,b≠it->s.heap.get? b=Ya o->h'.get? b=Ya o)(hn:H it=Yb)(hL:it≠X.env.locals)(h1:it∈X.ex∨X.s₀.heap.objs.size<=it)(h2:∀x c,X.env.cells.lookup x=Ya c->c≠it)(h3:∀p∈X.pn++pins,p.1≠it):bw X pins σ H {s with heap:=h',toks:=t'}:=by
 have nit:∀b u,H b=Ya u->b≠it:=λb u e z=>by rw[z,hn]at e;cases e
 refine I.step (g':=s.gens) (d':=s.drawn) (ch:=[it]) (λb hb=>?_) (λb o _ _ hc e _=>k b o (λz=>hc (by simp[z])) e) (λb o _ _ hc e _=>⟨o.slots,k b o (λz=>hc (by simp[z])) e⟩) (λ_ _ _ _ n=>n)
  (λb o hc e=>⟨o,k b o (λz=>hc (by simp[z])) e⟩) (λ_ _ e=>e) (λ_ _ _ e=>e) (λb ps e=>⟨#[],by rw[e];simp⟩) (λm hm=>?_) (λb u e=>?_) I.bare
 ·have e:b=it:=by simpa using hb
  subst e;exact⟨h1,hL,h2,h3⟩
 ·obtain⟨o,es,ep,ho,r⟩:=hm;exact⟨o,es,ep,k _ o (Ne.symm hL) ho,r⟩
 ·refine(I.hok b u e).stay (λc v hc q=>k c v ?_ q) (λ_ q=>q) λ_ _ q=>q;rcases hc with z|z
  ·rw[z];exact nit b u e
  ·exact nit c _ z
theorem bw.tok(I:bw X pins σ H s)(t:Nat):bw X pins σ H {s with toks:=t}:=I.un (h':=s.heap) (t':=t) Un.refl I.hok
theorem bw.kept(I:bw X pins σ H s)(k:∀b u,s.heap.get? b=Ya u->h'.get? b=Ya u):bw X pins σ H {s with heap:=h',toks:=t'}:=I.un (Un.kept k) (I.hok.kept k)
theorem bw.laid(I:bw X pins σ H s)(k:∀b u,s.heap.get? b=Ya u->h'.get? b=Ya u)(hp:s.heap.objs.size<=a)(new:fc X.prog X.w (upd H a o) h' a o):
  bw X pins σ (upd H a o) {s with heap:=h',toks:=t'}:=I.un (Un.laid k hp (I.hok.fresh hp)) (I.hok.laid k hp new)
theorem bw.write{x e:Yc}{o:HO}{t':Nat}(I:bw X pins σ H s)(mu:Mut (H x))(he:e=x∨H e=Ya (.own x))(k:∀b u,b≠e->s.heap.get? b=Ya u->h'.get? b=Ya u)(heo:∃u,h'.get? e=Ya u)
  (new:fc X.prog X.w (upd H x o) h' x o):bw X pins σ (upd H x o) {s with heap:=h',toks:=t'}:=I.un (Un.write mu he k heo) (I.hok.write mu he k heo new)
theorem bw.pins_of{pins':List (Yc×Y3)}(I:bw X pins σ H s)(h:∀p∈pins',s.heap.get? p.1=Ya p.2/\H p.1=Yb/\p.1≠X.env.locals/\p.1∉X.fs/\∀v,p.2.data≠.cell v):bw X pins' σ H s:=
 ⟨I.ok,I.os,I.bare,I.base,I.loc,I.cell,I.free,I.freeC,λp hp=>(ai.mp hp).elim (λz=>I.pin p (fN _ z)) (h p),I.hok,I.len⟩
theorem Xz(hN:N.Nodup)(a:N[i]?=Ya x)(b:N[j]?=Ya x):i=j:=by
 obtain⟨h1,e1⟩:=Yp.mp a;obtain⟨h2,e2⟩:=Yp.mp b;exact(List.getElem_inj hN).mp (e1.trans e2.symm)
theorem Rf{Q:Unit->Yh->Prop}(I:bw X pins σ H s)(hN:X.N.Nodup)(hi:X.N[i]?=Ya x)(hx:Loc X.env.scope x)(r:RelV v u)(h:∀s',bw X pins (σ.set i (Ya v)) H s'->(∃a,eT a s.heap s'.heap/\(a=X.env.locals∨X.env.cells.lookup x=Ya a))->Q () s')(hf:X.fn x=true∨X.env.scope.names.lookup x=Ya .local:=by first|exact .inl rfl|exact .inr rfl|assumption):Ym M A (storeName X.env x u) Q E s:=by
 obtain⟨m,hn,hl⟩:=id I.loc;have hcls:(X.env.scope.kind==.class||(X.env.scope.kind==.module&&X.env.locals !=X.env.globals))=false:=by rw[I.ok.kind];rfl
 have hiσ:i<σ.length:=by rw[I.len];exact(Yp.mp hi).1
 have cne:=I.cne;have tracked:∀{a:Yc} {h':YR},(∃o,s.heap.get? a=Ya o/\H a=Yb)->eT a s.heap h'->vd X.prog X.w H h':=fun{a h'} ha hs b ob e=>by
  obtain⟨_,_,hfree⟩:=ha;refine(I.hok b ob e).stay (λc w' hc q=>(hs.2 c ?_).trans q) (λ_ q=>q) λ_ _ q=>q;rintro rfl;rcases hc with rfl|hc
  ·rw[hfree]at e;cases e
  ·rw[hfree]at hc;cases hc
 rcases hx with hk|hk
 ·refine wpAny_storeName_local hk hn (λh' hn' hs=>?_) hcls;obtain⟨oL,_,_,hoL,_⟩:=id hn;refine h _ ⟨I.ok,I.os,I.bare,⟨λb o e n hb hx=>?_,λb o e n hb hx=>?_,I.base.free,λb o e hx=>?_,I.base.tups,I.base.frzs,I.base.tbls⟩,⟨_,hn',λj y v' e1 e2 e3=>?_⟩,λy c e=>?_,I.free,I.freeC,λp hp=>?_,tracked ⟨oL,hoL,I.free⟩ hs,by simpa using I.len⟩ ⟨_,hs,.inl rfl⟩
  ·exact(hs.2 b (YH (YM (Yu e) I.ok.above))).trans (I.base.keep b o e n hb hx)
  ·obtain⟨sl,e1⟩:=I.base.slot b o e n hb hx;exact⟨sl,(hs.2 b (YH (YM (Yu e) I.ok.above))).trans e1⟩
  ·obtain⟨o',e1⟩:=I.base.there b o e hx;exact⟨o',(hs.2 b (YH (YM (Yu e) I.ok.above))).trans e1⟩
  ·by_cases hj:j=i
   ·subst hj;rw[hi]at e1;cases e1;rw[Aq hiσ]at e2;cases e2;exact⟨u,r,.inl ⟨hk,by simp⟩⟩
   ·rw[BB (Ne.symm hj)]at e2;obtain⟨u',r',q⟩:=hl j y v' e1 e2 e3;refine⟨u',r',?_⟩;rcases q with⟨k,e⟩|⟨k,c,e,z⟩
    ·refine .inl ⟨k,?_⟩;have:y≠x:=λe=>hj (Xz hN e1 (e▸hi));simp[this,e]
    ·exact .inr ⟨k,c,e,z.sameBut hs (cne y c e)⟩
  ·obtain⟨w',z⟩:=I.cell y c e;exact⟨w',z.sameBut hs (cne y c e)⟩
  ·obtain⟨e,n,ne,nf,d⟩:=I.pin p hp;exact⟨(hs.2 p.1 ne).trans e,n,ne,nf,d⟩
 ·have hfn:X.fn x=true:=by
   rcases hf with z|z
   ·exact z
   ·rw[z]at hk;cases hk
  obtain⟨c,hc⟩:=I.ok.has x (.inl hk);obtain⟨w',z⟩:=I.cell x c hc;refine wpAny_storeName_cell I.ok.kind hk hc z (λh' hc' hs=>?_);obtain⟨oc,hoc,hocd⟩:=id z;refine h {s with heap:=h'} ⟨I.ok,I.os,I.bare,⟨λb o e n hb hx=>?_,λb o e n hb hx=>?_,I.base.free,λb o e hx=>?_,I.base.tups,I.base.frzs,I.base.tbls⟩,⟨m,hn.sameBut hs (Ne.symm (cne x c hc)),λj y v' e1 e2 e3=>?_⟩,λy c' e=>?_,I.free,I.freeC,λp hp=>?_,tracked ⟨oc,hoc,I.freeC x c hc⟩ hs,by simpa using I.len⟩ ⟨c,hs,.inr hc⟩
  ·exact(hs.2 b (YH (YM (Yu e) (I.ok.cab x c hfn hc)))).trans (I.base.keep b o e n hb hx)
  ·obtain⟨sl,e1⟩:=I.base.slot b o e n hb hx;exact⟨sl,(hs.2 b (YH (YM (Yu e) (I.ok.cab x c hfn hc)))).trans e1⟩
  ·obtain⟨o',e1⟩:=I.base.there b o e hx;exact⟨o',(hs.2 b (YH (YM (Yu e) (I.ok.cab x c hfn hc)))).trans e1⟩
  ·by_cases hj:j=i
   ·subst hj;rw[hi]at e1;cases e1;rw[Aq hiσ]at e2;cases e2;exact⟨u,r,.inr ⟨.inl hk,c,hc,hc'⟩⟩
   ·rw[BB (Ne.symm hj)]at e2;obtain⟨u',r',q⟩:=hl j y v' e1 e2 e3;refine⟨u',r',?_⟩;rcases q with q|⟨k,c',e,z'⟩
    ·exact .inl q
    ·refine .inr ⟨k,c',e,z'.sameBut hs ?_⟩;rintro rfl;exact hj (Xz hN e1 (I.ok.inj _ _ _ e hc▸hi))
  ·by_cases hcc:c'=c
   ·subst hcc;exact⟨_,hc'⟩
   ·obtain⟨w2,z2⟩:=I.cell y c' e;exact⟨w2,z2.sameBut hs hcc⟩
  ·obtain⟨e,n,ne,nf,d⟩:=I.pin p hp;refine⟨(hs.2 p.1 ?_).trans e,n,ne,nf,d⟩;intro q;rw[q,hoc]at e;have q':oc=p.2:=YL e;exact d w' (by rw[←q'];exact hocd)
theorem VP{Q:Unit->Yh->Prop}(I:bw X pins σ H s)(hN:X.N.Nodup)(hi:X.N[i]?=Ya x)(hx:Loc X.env.scope x)(r:RelV v u)(h:∀s',bw X pins (σ.set i (Ya v)) H s'->Q () s')(hf:X.fn x=true∨X.env.scope.names.lookup x=Ya .local:=by first|exact .inl rfl|exact .inr rfl|assumption):Ym M A (storeName X.env x u) Q E s:=
 Rf I hN hi hx r (λs' I' _=>h s' I') hf
theorem bw.call'(I:bw X pins σ H s)(ho:s'.os=s.os)(u:Un (frs X.stack) ch H H' s.heap s'.heap)(hok:vd X.prog X.w H' s'.heap)(hg:sQ s'.gens)(hch:∀b∈ch,(b∈X.ex∨X.s₀.heap.objs.size<=b)/\b≠X.env.locals/\(∀x c,X.env.cells.lookup x=Ya c->c≠b)/\∀p∈X.pn++pins,p.1≠b):bw X pins σ H' s':=by
 obtain⟨h',g',d',t',o'⟩:=s';have e:o'=s.os:=ho;subst e;exact I.call (g':=g') (t':=t') (d':=d') u hok hg hch
end
abbrev XK:=Yd->Option Yc->Hp->Prop
abbrev St:=List (Option V)
variable{σ:St}
abbrev VK:=V->Hp->Prop
abbrev TE:=St->Hp->VK->Prop
variable{ta tb te tl tv td ty:TE}{trs:List (TE×TE)}
abbrev TT:=St->Hp->(Bool->Hp->Prop)->Prop
variable{tc:TT}
abbrev TA:=St->Hp->(List V->Hp->Prop)->Prop
variable{t:TA}
structure Er where
 nx:St->Hp->Prop
 rt:VK
 bk:St->Hp->Prop:=λ_ _=>False
 ct:St->Hp->Prop:=λ_ _=>False
variable{D:Er}
abbrev TS:=Er->St->Hp->Prop
def EP(X:Cx)(pins:List (Yc×Y3))(σ:St)(Q:VK)(u:Yd)(s':Yh):Prop:=∃v H',bw X pins σ H' s'/\RelV v u/\Q v H'
def TP(X:Cx)(pins:List (Yc×Y3))(σ:St)(Q:Bool->Hp->Prop)(b:Bool)(s':Yh):Prop:=∃H',bw X pins σ H' s'/\Q b H'
def AP(X:Cx)(pins:List (Yc×Y3))(σ:St)(Q:List V->Hp->Prop)(us:List Yd)(s':Yh):Prop:=∃vs H',bw X pins σ H' s'/\Vals vs us/\Q vs H'
def SP(X:Cx)(pins:List (Yc×Y3))(D:Er)(f:Flow)(s':Yh):Prop:=
 match f with
 | .next=>∃σ' H',bw X pins σ' H' s'/\D.nx σ' H'
 | .brk=>∃σ' H',bw X pins σ' H' s'/\D.bk σ' H'
 | .cont=>∃σ' H',bw X pins σ' H' s'/\D.ct σ' H'
 | .ret u=>∃v σ' H',bw X pins σ' H' s'/\RelV v u/\D.rt v H'
def PE(X:Cx)(e:YY)(t:TE):Prop:=
 ∀(pins:List (Yc×Y3)) (s:Yh) (σ:St) (H:Hp) (Q:VK),bw X pins σ H s->t σ H Q->Ym (Ys X.prog X.w) X.A (aE e X.env) (EP X pins σ Q) X.xe s
def PT(X:Cx)(e:YY)(t:TT):Prop:=
 ∀(pins:List (Yc×Y3)) (s:Yh) (σ:St) (H:Hp) (Q:Bool->Hp->Prop),bw X pins σ H s->t σ H Q->Ym (Ys X.prog X.w) X.A (Ct e X.env (aE e X.env)) (TP X pins σ Q) X.xe s
def PW(X:Cx)(e:YY)(t:TT):Prop:=
 ∀(whole:vj Yd) (pins:List (Yc×Y3)) (s:Yh) (σ:St) (H:Hp) (Q:Bool->Hp->Prop),bw X pins σ H s->t σ H Q->Ym (Ys X.prog X.w) X.A (Ct e X.env whole) (TP X pins σ Q) X.xe s
theorem PW.pt{t:TT}(h:PW X e t):PT X e t:=h _
def PA(X:Cx)(es:List YY)(t:TA):Prop:=
 ∀(pos:hJ) (pins:List (Yc×Y3)) (s:Yh) (σ:St) (H:Hp) (Q:List V->Hp->Prop),bw X pins σ H s->t σ H Q->Ym (Ys X.prog X.w) X.A (spliced (dE pos (YO es X.env))) (AP X pins σ Q) X.xe s
def PS(X:Cx)(st:YN)(t:TS):Prop:=
 ∀(pins:List (Yc×Y3)) (s:Yh) (σ:St) (H:Hp) (D:Er),bw X pins σ H s->t D σ H->Ym (Ys X.prog X.w) X.A (exec st X.env) (SP X pins D) X.xe s
def XN(X:Cx)(st:List YN)(t:TS):Prop:=
 ∀(pins:List (Yc×Y3)) (s:Yh) (σ:St) (H:Hp) (D:Er),bw X pins σ H s->t D σ H->Ym (Ys X.prog X.w) X.A (execs st X.env) (SP X pins D) X.xe s
theorem dN{α:Type}{t:vj α}{Q Q':α->Yh->Prop}(h:Ym M A t Q E s)(hQ:∀a s,Q a s->Q' a s):Ym M A t Q' E s:=ax h hQ λ_ _ x=>x
section
theorem bin{a b:YY}(ha:PE X a ta)(hb:PE X b tb)(I:bw X pins σ H s)(h:ta σ H λx H1=>tb σ H1 λy H2=>R x y H2){α:Type}{Q:α->Yh->Prop}{f:Yd->Yd->vj α}(hf:∀v u s2 x y H2,bw X pins σ H2 s2->RelV x v->RelV y u->R x y H2->Ym (Ys X.prog X.w) X.A (f v u) Q X.xe s2):
  Ym (Ys X.prog X.w) X.A (aE a X.env) (λv s₁=>Ym (Ys X.prog X.w) X.A (aE b X.env) (λu s₂=>Ym (Ys X.prog X.w) X.A (f v u) Q X.xe s₂) X.xe s₁) X.xe s:=by
 refine dN (ha pins s σ H _ I h) λv s1 zz=>?_;obtain⟨x,H1,I1,r1,q1⟩:=zz;refine dN (hb pins s1 σ H1 _ I1 q1) λu s2 zz=>?_;obtain⟨y,H2,I2,r2,q2⟩:=zz;exact hf v u s2 x y H2 I2 r1 r2 q2
def Tv(i:Nat):TE:=λσ H Q=>∃v,σ[i]?=Ya (Ya v)/\Q v H
def tC(v:V):TE:=λ_ H Q=>Q v H
theorem ake(hN:X.N[i]?=Ya x)(hv:Vis X.env.scope x)(hd:(x==("__debug__":Yj))=false:=by decide)(hcd:(x==("__classdict__":Yj))=false:=by decide):PE X (.Name x pos) (Tv i):=by
 intro pins s σ H Q I h;obtain⟨v,e,h⟩:=h;obtain⟨m,hn,hl⟩:=I.loc;obtain⟨u,r,l⟩:=hl i x v hN e hv;have fin:EP X pins σ Q u s:=⟨v,H,I,r,h⟩;rcases l with⟨hk,hm⟩|⟨hk,c,hc,hcell⟩
 ·exact FD (wpAny_loadName_local I.ok.kind hk hn hm fin) hd
 ·rcases hk with hk|hk
  ·exact FD (wpAny_loadName_cell I.ok.kind hk hc hcell fin) hd
  ·exact FD (wpAny_loadName_free I.ok.kind hk hc hcell fin hcd) hd
theorem aC{i j pos}:PE X (.Constant (.int i) j pos) (tC (.int i)):=λ_ _ _ H _ I h=>wpAny_Constant_int ⟨.int i,H,I.tok _,⟨_,rfl⟩,h⟩
theorem qQ{b j pos}:PE X (.Constant (.bool b) j pos) (tC (.bl b)):=λ_ _ _ H _ I h=>Constant_bool ⟨.bl b,H,I,rfl,h⟩
theorem bV{j pos}:PE X (.Constant .none j pos) (tC .non):=λ_ _ _ H _ I h=>Constant_none ⟨.non,H,I,rfl,h⟩
theorem Fe{x j pos}:PE X (.Constant (.str x) j pos) (tC (.str x)):=λ_ _ _ H _ I h=>Calls.Constant_str ⟨.str x,H,I.tok _,⟨_,rfl⟩,h⟩
def Gl(X:Cx)(x:Yj):Prop:=X.env.kindOf x=Ya .globalImplicit
theorem Gg(I:bw X pins σ H s)(hg:Gl X x)(hm:X.mg x=Ya u)(h:Q u s)(hd:(x==("__debug__":Yj))=false:=by decide):Ym (Ys X.prog X.w) X.A (aE (.Name x pos) X.env) Q E s:=
 vE I.ok.kind hg (Calls.loadGlobal_global (by rw[I.ok.glob];exact I.mod.glob.keeps I.bk) hm h) hd
theorem wR(I:bw X pins σ H s)(hg:Gl X x)(hm:X.mg x=Yb)(hv:iq x=Ya u)(h:Q u s)(hn:x≠"__name__":=by decide)(hd:(x==("__debug__":Yj))=false:=by decide):Ym (Ys X.prog X.w) X.A (aE (.Name x pos) X.env) Q E s:=by
 obtain⟨mb,h1,h2⟩:=I.mod.blt;exact vE I.ok.kind hg (Calls.loadGlobal_builtin (by rw[I.ok.glob];exact I.mod.glob.keeps I.bk) hm (by rw[I.ok.blt];exact h1.keeps I.bk) ((h2 x hn).trans hv) h) hd
theorem T6(hg:Gl X x)(hm:X.mg x=Ya u)(r:RelV v u)(hd:(x==("__debug__":Yj))=false:=by decide):PE X (.Name x pos) (tC v):=
 λ_ _ _ H _ I h=>Gg I hg hm ⟨v,H,I,r,h⟩ hd
theorem ag9(hg:Gl X x)(hm:X.mg x=Yb)(hv:iq x=Ya u)(r:RelV v u)(hn:x≠"__name__":=by decide)(hd:(x==("__debug__":Yj))=false:=by decide):PE X (.Name x pos) (tC v):=
 λ_ _ _ H _ I h=>wR I hg hm hv ⟨v,H,I,r,h⟩ hn hd
variable{a b:YY}
def PC(X:Cx)(op:DC)(a b:YY)(t:TE):Prop:=
 ∀(pins:List (Yc×Y3)) (s:Yh) (σ:St) (H:Hp) (Q:VK),bw X pins σ H s->t σ H Q->
  Ym (Ys X.prog X.w) X.A (aE a X.env) (λv s₁=>Ym (Ys X.prog X.w) X.A (aE b X.env) (λu s₂=>Ym (Ys X.prog X.w) X.A (bX op v u) (EP X pins σ Q) X.xe s₂) X.xe s₁) X.xe s
def tB(t:TE):TT:=λσ H Q=>t σ H λx H1=>∃c,x=.bl c/\Q c H1
theorem akj{t:TE}(h:PC X op a b t)(h1:sj op b=false:=by first|exact nobehind _ (by decide) (by decide)|rfl):PT X (.Compare a [op] [b] pos) (tB t):=by
 intro pins s σ H Q I hw;refine AK (dN (h pins s σ H _ I hw) λv s1 h1=>dN h1 λu s2 h2=>dN h2 λc s3 zz=>?_) h1;obtain⟨x,H1,I1,r1,q1⟩:=zz;obtain⟨d,rfl,q⟩:=q1;cases r1;exact gm ⟨H1,I1,q⟩
theorem agk{t:TE}(h:PE X e t)(he:∀whole,Ct e X.env whole=(do let v←whole;qV e.pos;mi [v] (truthy v)):=by intro _;rfl):PT X e (tB t):=by
 intro pins s σ H Q I hw;refine HZ (dN (h pins s σ H _ I hw) λv s1 zz=>?_) (he _);obtain⟨x,H1,I1,r1,q1⟩:=zz;obtain⟨d,rfl,q⟩:=q1;cases r1;exact gm ⟨H1,I1,q⟩
variable{tA tB':TT}{rest:List YY}
def alE(t u:TT):TT:=λσ H Q=>t σ H λc H1=>if c=true then u σ H1 Q else Q false H1
def tOr(t u:TT):TT:=λσ H Q=>t σ H λc H1=>if c=true then Q true H1 else u σ H1 Q
def alG(t:TT):TT:=λσ H Q=>t σ H λc H1=>Q (!c) H1
theorem kJ(ha:PT X a tA):PW X (.BoolOp .And [a] pos) tA:=by
 intro wh pins s σ H Q I h;refine isTrue_and (dN (ha pins s σ H Q I h) λc s1 e=>?_);cases c with
 |true=>exact isTrue_and_nil e
 |false=>exact e
theorem Fz(ha:PT X a tA):PW X (.BoolOp .Or [a] pos) tA:=by
 intro wh pins s σ H Q I h;refine isTrue_or (dN (ha pins s σ H Q I h) λc s1 e=>?_);cases c with
 |false=>exact isTrue_or_nil e
 |true=>exact e
theorem pK(ha:PT X a tA)(hb:PW X (.BoolOp .And (b::rest) pos) tB'):PW X (.BoolOp .And (a::b::rest) pos) (alE tA tB'):=by
 intro wh pins s σ H Q I h;refine isTrue_and (dN (ha pins s σ H _ I h) λc s1 zz=>?_);obtain⟨H1,I1,q1⟩:=zz;cases c with
 |true=>exact hb wh pins s1 σ H1 Q I1 q1
 |false=>exact⟨H1,I1,q1⟩
theorem Ka(ha:PT X a tA)(hb:PW X (.BoolOp .Or (b::rest) pos) tB'):PW X (.BoolOp .Or (a::b::rest) pos) (tOr tA tB'):=by
 intro wh pins s σ H Q I h;refine isTrue_or (dN (ha pins s σ H _ I h) λc s1 zz=>?_);obtain⟨H1,I1,q1⟩:=zz;cases c with
 |true=>exact⟨H1,I1,q1⟩
 |false=>exact hb wh pins s1 σ H1 Q I1 q1
theorem Bh(ha:PT X a tA):PT X (.UnaryOp .Not a pos) (alG tA):=by
 intro pins s σ H Q I h;exact isTrue_not (ha pins s σ H (λc H1=>Q (!c) H1) I h)
def aiE(ta tb:TE):TE:=λσ H Q=>ta σ H λx H1=>∃c,x=.bl c/\if c=true then tb σ H1 Q else Q (.bl false) H1
def alI(ta tb:TE):TE:=λσ H Q=>ta σ H λx H1=>∃c,x=.bl c/\if c=true then Q (.bl true) H1 else tb σ H1 Q
def aik(ta:TE):TE:=λσ H Q=>ta σ H λx H1=>∃c,x=.bl c/\Q (.bl (!c)) H1
theorem xN{op}{t:TE}(h:PE X a t):PE X (.BoolOp op [a] pos) t:=λpins s σ H Q I hw=>BoolOp_one (h pins s σ H Q I hw)
theorem xF(ha:PE X a ta)(hb:PE X (.BoolOp .And (b::rest) pos) tb):PE X (.BoolOp .And (a::b::rest) pos) (aiE ta tb):=by
 intro pins s σ H Q I h;refine BoolOp_and (dN (ha pins s σ H _ I h) λv s1 zz=>?_);obtain⟨x,H1,I1,r1,q1⟩:=zz;obtain⟨c,rfl,q1⟩:=q1;cases r1;refine gm ?_;cases c with
 |true=>exact hb pins s1 σ H1 Q I1 q1
 |false=>exact⟨.bl false,H1,I1,rfl,q1⟩
theorem ald(ha:PE X a ta)(hb:PE X (.BoolOp .Or (b::rest) pos) tb):PE X (.BoolOp .Or (a::b::rest) pos) (alI ta tb):=by
 intro pins s σ H Q I h;refine BoolOp_or (dN (ha pins s σ H _ I h) λv s1 zz=>?_);obtain⟨x,H1,I1,r1,q1⟩:=zz;obtain⟨c,rfl,q1⟩:=q1;cases r1;refine gm ?_;cases c with
 |false=>exact hb pins s1 σ H1 Q I1 q1
 |true=>exact⟨.bl true,H1,I1,rfl,q1⟩
theorem ajj(ha:PE X a ta):PE X (.UnaryOp .Not a pos) (aik ta):=by
 intro pins s σ H Q I h;refine UnaryOp_ (dN (ha pins s σ H _ I h) λv s1 zz=>?_);obtain⟨x,H1,I1,r1,q1⟩:=zz;obtain⟨c,rfl,q1⟩:=q1;cases r1;exact not_of (gm ⟨.bl (!c),H1,I1,rfl,q1⟩)
def tIf(t:TT)(ta tb:TE):TE:=λσ H Q=>t σ H λc H1=>if c=true then ta σ H1 Q else tb σ H1 Q
theorem oJ(hc:PT X c tA)(ha:PE X a ta)(hb:PE X b tb):PE X (.IfExp c a b pos) (tIf tA ta tb):=by
 intro pins s σ H Q I h;refine wpAny_IfExp (dN (hc pins s σ H _ I h) λd s1 zz=>?_);obtain⟨H1,I1,q1⟩:=zz;cases d with
 |true=>exact ha pins s1 σ H1 Q I1 q1
 |false=>exact hb pins s1 σ H1 Q I1 q1
end
def bI(K:Ye)(H:Hp)(a:Yc)(xs:List V):Prop:=
 Rd H a (.lst xs)∨
  ∃(o:Y3) (its:Array Yd) (n:Nat),K.lookup a=Ya o/\o.cls=.type "list"/\o.dict=Yb/\o.data=.seq its n/\its.size<=YB/\Vals xs its.toList
def cN(K:Ye)(H:Hp)(a:Yc)(xs:List V):Prop:=
 Rd H a (.tup xs)∨
  ∃(o:Y3) (its:Array Yd) (n:Nat),K.lookup a=Ya o/\o.cls=.type "tuple"/\o.data=.seq its n/\its.size<=YB/\Vals xs its.toList
noncomputable def ant:Yd->Option V
 | .none=>Ya .non
 | .bool b=>Ya (.bl b)
 | .int i _=>Ya (.int i)
 | .str x _=>Ya (.str x)
 | .bytes b _=>Ya (.byt b)
 | .float b _=>Ya (.flt b)
 | .ref a=>Ya (.ref a)
 | .type n=>Ya (.ty n)
 |_=>Yb
theorem RelV.abs{x:V}(r:RelV x u):ant u=Ya x:=by
 cases x with
 |non=>cases r;rfl
 |bl _=>cases r;rfl
 |int _=>obtain⟨t,rfl⟩:=r;rfl
 |str _=>obtain⟨t,rfl⟩:=r;rfl
 |byt _=>obtain⟨t,rfl⟩:=r;rfl
 |flt _=>obtain⟨t,rfl⟩:=r;rfl
 |ref _=>cases r;rfl
 |ty _=>cases r;rfl
theorem RelV.inj{x:V}(r:RelV x u)(q:RelV y u):x=y:=YL (r.abs.symm.trans q.abs)
theorem Vals.inj:∀{xs ys:List V} {us:List Yd},Vals xs us->Vals ys us->xs=ys:=by
 intro xs ys us h
 induction h generalizing ys with
 |nil=>
  intro h;cases h;rfl
 |cons r t ih=>
  intro h;cases h with|cons r' t'=>
  rw[r.inj r',ih t']
section
variable{xs ys:List V}
theorem bI.of(h:H a=Ya (.lst xs)):bI K H a xs:=.inl (.inl h)
theorem cN.of(h:H a=Ya (.tup xs)):cN K H a xs:=.inl (.inl h)
theorem bw.list(I:bw X pins σ H s)(h:bI X.K H a xs):∃its:List Yd,Vals xs its/\PlainL s.heap a its.toArray/\xs.length<=YB:=by
 rcases h with h|⟨o,its,n,hk,hc,hd,hs,hz,r⟩
 ·obtain⟨z,its,n,r,e⟩:=h.ok I.hok;exact⟨its,r,⟨_,n,e,rfl,rfl,rfl⟩,z⟩
 ·refine⟨its.toList,r,⟨o,n,I.kIn a o hk,hc,hd,by simpa using hs⟩,?_⟩;have e:=r.length;simp only[aT]at e;omega
theorem bw.tuple(I:bw X pins σ H s)(h:cN X.K H a xs):∃its:List Yd,Vals xs its/\zo s.heap a its.toArray/\xs.length<=YB:=by
 rcases h with h|⟨o,its,n,hk,hc,hs,hz,r⟩
 ·obtain⟨z,its,r,p⟩:=h.ok I.hok;exact⟨its,r,p.tup,z⟩
 ·refine⟨its.toList,r,⟨o,I.kIn a o hk,hc,n,by simpa using hs⟩,?_⟩;have e:=r.length;simp only[aT]at e;omega
theorem bw.list_inj(I:bw X pins σ H s)(h:bI X.K H a xs)(h':bI X.K H a ys):xs=ys:=by
 obtain⟨its,r,⟨o,n,e,_,_,d⟩,_⟩:=I.list h;obtain⟨its',r',⟨o',n',e',_,_,d'⟩,_⟩:=I.list h';rw[e]at e';cases e';rw[d]at d';injection d' with d1 _;have:its=its':=by simpa using congrArg CA d1
 subst this;exact r.inj r'
theorem bw.tuple_inj(I:bw X pins σ H s)(h:cN X.K H a xs)(h':cN X.K H a ys):xs=ys:=by
 obtain⟨its,r,⟨o,e,_,n,d⟩,_⟩:=I.tuple h;obtain⟨its',r',⟨o',e',_,n',d'⟩,_⟩:=I.tuple h';rw[e]at e';cases e';rw[d]at d';injection d' with d1 _;have:its=its':=by simpa using congrArg CA d1
 subst this;exact r.inj r'
end
noncomputable abbrev Cx.wish(X:Cx)(E:Yd->Yh->Prop):Cx:={X with xe:=E}
noncomputable abbrev Cx.nox(X:Cx):Cx:=X.wish λ_ _=>False
theorem Cx.Ok.wish(ok:X.Ok)(E:Yd->Yh->Prop):(X.wish E).Ok:=
 ⟨ok.mod,ok.kind,ok.glob,ok.blt,ok.above,ok.inj,ok.has,ok.cab,ok.hd,ok.frames,ok.stk,ok.exf,ok.bs,ok.bsz,ok.noex,ok.exfs,ok.funs,ok.frf⟩
theorem Cx.Ok.unwish(ok:(X.wish E).Ok):X.Ok:=
 ⟨ok.mod,ok.kind,ok.glob,ok.blt,ok.above,ok.inj,ok.has,ok.cab,ok.hd,ok.frames,ok.stk,ok.exf,ok.bs,ok.bsz,ok.noex,ok.exfs,ok.funs,ok.frf⟩
section
theorem bw.wish(I:bw X pins σ H s)(E:Yd->Yh->Prop):bw (X.wish E) pins σ H s:=⟨I.ok.wish E,I.os,I.bare,I.base,I.loc,I.cell,I.free,I.freeC,I.pin,I.hok,I.len⟩
theorem bw.unwish(I:bw (X.wish E) pins σ H s):bw X pins σ H s:=⟨I.ok.unwish,I.os,I.bare,I.base,I.loc,I.cell,I.free,I.freeC,I.pin,I.hok,I.len⟩
theorem SP.unwish{f:Flow}(h:SP (X.wish E) pins D f s'):SP X pins D f s':=by
 cases f with
 |next=>obtain⟨σ',H',I,q⟩:=h;exact⟨σ',H',I.unwish,q⟩
 |brk=>obtain⟨σ',H',I,q⟩:=h;exact⟨σ',H',I.unwish,q⟩
 |cont=>obtain⟨σ',H',I,q⟩:=h;exact⟨σ',H',I.unwish,q⟩
 |ret u=>obtain⟨v,σ',H',I,r,q⟩:=h;exact⟨v,σ',H',I.unwish,r,q⟩
theorem XN.nox{st:List YN}{t:TS}(h:XN X.nox st t):XN X st t:=λpins s σ H D I hw=>
 ax (h pins s σ H D (I.wish _) hw) (λ_ _ q=>q.unwish) λ_ _ z=>eM z
end
section
variable{st:YN}{rest:List YN}{t u:TS}
def abZ:TS:=λD σ H=>D.nx σ H
def aM(t u:TS):TS:=λD σ H=>t {D with nx:=u D} σ H
theorem bG:XN X [] abZ:=λ_ _ σ H _ I h=>tj ⟨σ,H,I,h⟩
theorem ak(h1:PS X st t)(h2:XN X rest u):XN X (st::rest) (aM t u):=by
 intro pins s σ H D I h;refine EN (dN (h1 pins s σ H {D with nx:=u D} I h) λf s1 q=>?_);cases f with
 |next=>
  obtain⟨σ',H',I',q⟩:=q;exact h2 pins s1 σ' H' D I' q
 |ret v=>exact q
 |brk=>exact q
 |cont=>exact q
theorem aq(h1:PS X st t):XN X [st] t:=by
 intro pins s σ H D I h;refine EN (dN (h1 pins s σ H D I h) λf s1 q=>?_);cases f with
 |next=>exact tj q
 |ret v=>exact q
 |brk=>exact q
 |cont=>exact q
theorem bw.quiet(I:bw X pins σ H s):interactive X.env=false:=by simp[interactive,I.ok.kind]
def ab6(te:TE):TS:=λD σ H=>te σ H λ_ H1=>D.nx σ H1
theorem bT(he:PE X e te)(hs:vk e Yb pos.line X.env=pure false:=by rfl):PS X (.Expr e pos) (ab6 te):=by
 intro pins s σ H D I h;exact wpAny_Expr_any (dN (he pins s σ H _ I h) λv s1 ⟨x,H1,I1,r1,q1⟩=>⟨σ,H1,I1,q1⟩) I.quiet hs
def aiR(te:TE):TS:=λD σ H=>te σ H D.rt
theorem aR(he:PE X e te):PS X (.Return (Ya e) pos) (aiR te):=by
 intro pins s σ H D I h;exact wpAny_Return_some (dN (he pins s σ H _ I h) λv s1 ⟨x,H1,I1,r1,q1⟩=>⟨x,σ,H1,I1,r1,q1⟩)
def ak9:TS:=λD _ H=>D.rt .non H
theorem RL:PS X (.Return Yb pos) ak9:=λ_ _ σ H _ I h=>wpAny_Return_none ⟨.non,σ,H,I,rfl,h⟩
def ahA(c:TT)(t u:TS):TS:=λD σ H=>c σ H λb H1=>if b=true then t D σ H1 else u D σ H1
theorem cF{a b:List YN}(hc:PT X c tc)(ha:XN X a t)(hb:XN X b u):PS X (.If c a b pos) (ahA tc t u):=by
 intro pins s σ H D I h;refine wpAny_If (dN (hc pins s σ H _ I h) λd s1 zz=>?_);obtain⟨H1,I1,q1⟩:=zz;cases d with
 |true=>exact ha pins s1 σ H1 D I1 q1
 |false=>exact hb pins s1 σ H1 D I1 q1
def afx:TS:=λ_ _ _=>False
theorem cz:PS X st afx:=λ_ _ _ _ _ _ h=>h.elim
end
abbrev TG:=V->St->Hp->(St->Hp->Prop)->Prop
abbrev TGs:=List V->St->Hp->(St->Hp->Prop)->Prop
def PG(X:Cx)(target:YY)(t:TG):Prop:=
 ∀(pins:List (Yc×Y3)) (s:Yh) (σ:St) (H:Hp) (v:V) (u:Yd) (Q:St->Hp->Prop),bw X pins σ H s->RelV v u->t v σ H Q->
  Ym (Ys X.prog X.w) X.A (AL target X.env u) (λ_ s'=>∃σ' H',bw X pins σ' H' s'/\Q σ' H') X.xe s
def PGs(X:Cx)(ts:List YY)(t:TGs):Prop:=
 ∀(pins:List (Yc×Y3)) (s:Yh) (σ:St) (H:Hp) (vs:List V) (us:List Yd) (Q:St->Hp->Prop),bw X pins σ H s->Vals vs us->t vs σ H Q->
  Ym (Ys X.prog X.w) X.A (assignInOrder ((rf ts X.env).map (·.2)) us) (λ_ s'=>∃σ' H',bw X pins σ' H' s'/\Q σ' H') X.xe s
section
def abk(i:Nat):TG:=λv σ H Q=>Q (σ.set i (Ya v)) H
theorem aW(hN:X.N.Nodup)(hi:X.N[i]?=Ya x)(hx:Loc X.env.scope x)(hf:X.fn x=true∨X.env.scope.names.lookup x=Ya .local:=by first|exact .inl rfl|exact .inr rfl|assumption):PG X (.Name x pos) (abk i):=by
 intro pins s σ H v u Q I r h;exact DI (VP I hN hi hx r (λs' I'=>⟨_,H,I',h⟩) hf)
def alK:TGs:=λvs σ H Q=>vs=[]/\Q σ H
def aiP(t:TG)(u:TGs):TGs:=λvs σ H Q=>∃v r,vs=v::r/\t v σ H λσ' H'=>u r σ' H' Q
theorem Hk:PGs X [] alK:=by
 intro pins s σ H vs us Q I r h;obtain⟨e,h⟩:=h;subst e;cases r;exact assignInOrder_nil ⟨σ,H,I,h⟩
theorem jK{t:TG}{u:TGs}(h1:PG X e t)(h2:PGs X es u)(hs:(rf (e::es) X.env).map (·.2)=AL e X.env::(rf es X.env).map (·.2):=by rfl):PGs X (e::es) (aiP t u):=by
 intro pins s σ H vs us Q I r h;obtain⟨v,vr,e1,h⟩:=h;subst e1;cases r with
 |cons r rr=>
  rw[hs];refine assignInOrder_cons (dN (h1 pins s σ H _ _ _ I r h) λ_ s1 zz=>?_);obtain⟨σ1,H1,I1,q1⟩:=zz;exact h2 pins s1 σ1 H1 _ _ Q I1 rr q1
def akJ(K:Ye)(n:Nat)(t:TGs):TG:=λv σ H Q=>∃a xs,v=.ref a/\cN K H a xs/\xs.length=n/\t xs σ H Q
theorem akG{t:TGs}(hc:X.calm=true)(h:PGs X es t)(hn:(rf es X.env).length=n:=by rfl)(hst:(rf es X.env).findIdx? (·.1)=none:=by rfl):PG X (.Tuple es k pos) (akJ X.K n t):=by
 intro pins s σ H v u Q I r hw;obtain⟨a,xs,e1,hq,hl,hw⟩:=hw;subst e1;cases r;obtain⟨its,rv,ht,hz⟩:=I.tuple hq;refine assign_Tuple_tuple (I.ok.hd hc) ht (by simp[hn,←hl,rv.length]) hst λh' hx=>?_;have I1:bw X pins σ H {s with heap:=h'}:=I.kept (t':=s.toks) λb o e=>hx b o (YH (Yu e)) e;exact h pins _ σ H xs _ Q I1 (by simpa using rv) hw
def ag0(te:TE)(g:TG):TS:=λD σ H=>te σ H λx H1=>g x σ H1 D.nx
theorem aV(hN:X.N.Nodup)(hi:X.N[i]?=Ya x)(hx:Loc X.env.scope x)(he:PE X e te)(hs:vk e (Ya (.Name x pos')) pos.line X.env=pure false:=by rfl)(hf:X.fn x=true∨X.env.scope.names.lookup x=Ya .local:=by first|exact .inl rfl|exact .inr rfl|assumption):
  PS X (.Assign [.Name x pos'] e pos) (ag0 te (abk i)):=by
 intro pins s σ H D I h;refine wpAny_Assign_Name (dN (he pins s σ H _ I h) λv s1 zz=>?_) hs;obtain⟨y,H1,I1,r1,q1⟩:=zz;exact VP I1 hN hi hx r1 (λs2 I2=>⟨_,H1,I2,q1⟩) hf
end
section
def aan(c:TT)(tb:TS):TS:=λD σ H=>∃W:Nat->St->Hp->Prop,(∃m,W m σ H)/\∀m σ H,W m σ H->
 c σ H λb H1=>if b=true then∃N:St->Hp->Prop,(∀σ' H',N σ' H'->∃m',m'<m/\W m' σ' H')/\tb {D with nx:=N,ct:=N,bk:=D.nx} σ H1 else D.nx σ H1
theorem Ng{tb:TS}(hp:PassesOwn (Ys X.prog X.w) X.A X.env X.xe)(hc:PT X c tc)(hb:XN X body tb):PS X (.While c body [] pos) (aan tc tb):=by
 intro pins s σ H D I h;obtain⟨W,⟨m0,w0⟩,turn⟩:=h;refine wpAny_While (codeAny_whileLoop (λn s'=>∃σ' H',bw X pins σ' H' s'/\W n σ' H') ?_ m0 ⟨σ,H,I,w0⟩);rintro n s1 ⟨σ1,H1,I1,w1⟩;refine kf hp (dN (hc pins s1 σ1 H1 _ I1 (turn n σ1 H1 w1)) λb s2 zz=>?_);obtain⟨H2,I2,q2⟩:=zz;cases b with
 |true=>
  obtain⟨N,hN,q2⟩:=q2;rw[if_pos rfl];refine kf hp (dN (hb pins s2 σ1 H2 _ I2 q2) λf s3 q3=>?_);cases f with
  |next=>
   obtain⟨σ3,H3,I3,n3⟩:=q3;obtain⟨m',hm,w3⟩:=hN σ3 H3 n3;exact⟨m',hm,σ3,H3,I3,w3⟩
  |cont=>
   obtain⟨σ3,H3,I3,n3⟩:=q3;obtain⟨m',hm,w3⟩:=hN σ3 H3 n3;exact⟨m',hm,σ3,H3,I3,w3⟩
  |brk=>exact q3
  |ret v=>exact q3
 |false=>
  rw[if_neg YS];exact tj ⟨σ1,H2,I2,q2⟩
end
structure It where
 go:Nat->Hp->Prop
 yld:Nat->Hp->V->Hp->Prop
 stop:Nat->Hp->Prop
def Hv(X:Cx)(pins:List (Yc×Y3))(H:Hp)(b:Yc):Prop:=
 H b=Yb/\b≠X.env.locals/\b∉X.fs/\(b∈X.ex∨X.s₀.heap.objs.size<=b)/\(∀x c,X.env.cells.lookup x=Ya c->c≠b)/\∀p∈X.pn++pins,p.1≠b
theorem bw.fpOk(I:bw X pins σ H s)(hb:s.heap.objs.size<=b)(hn:H' b=Yb):Hv X pins H' b:=by
 refine⟨hn,j3 (YM I.lt hb),I.nofs hb,.inr (dy I.sz hb),λx c e z=>?_,λp hp z=>?_⟩
 ·obtain⟨v,q⟩:=I.cell x c e;exact absurd (YM q.lt (by rw[z];exact hb)) (Y2 _)
 ·exact absurd (YM (Yu (I.pin p hp).1) (by rw[z];exact hb)) (Y2 _)
structure Turn(P:YJ)(w:YV)(K:Ye)(tg:YY)(J:It)(fp:List Yc)(it:Yc)(tn:Nat->YR->Prop):Prop where
 mem:it∈fp
 obj:∀i h,tn i h->∀b∈fp,∃o,h.get? b=Ya o/\∀v,o.data≠.cell v
 keep:∀i h h',tn i h->(∀b∈fp,∀o,h.get? b=Ya o->h'.get? b=Ya o)->tn i h'
 item:∀(X:Cx),X.prog=P->X.w=w->X.K=K->X.calm=true->∀(i:Nat) (pins:List (Yc×Y3)) (s:Yh) (σ:St) (H:Hp) (E:Yd->Yh->Prop),bw X pins σ H s->(∀b∈fp,Hv X pins H b)->tn i s.heap->J.go i H->
  Ym (Ys P w) X.A (fw (.ref it)) (λr s1=>∃u,r=Ya u/\
   Ym (Ys P w) X.A (tm tg (.ref it) u) (λ_ s2=>∃x H',bw X pins σ H' s2/\RelV x u/\J.yld i H x H'/\tn (i+ 1) s2.heap/\∀b∈fp,H' b=Yb) E s1) E s
 done:∀(X:Cx),X.prog=P->X.w=w->X.K=K->X.calm=true->∀(i:Nat) (pins:List (Yc×Y3)) (s:Yh) (σ:St) (H:Hp) (E:Yd->Yh->Prop),bw X pins σ H s->(∀b∈fp,Hv X pins H b)->tn i s.heap->J.stop i H->
  Ym (Ys P w) X.A (fw (.ref it)) (λr s1=>r=Yb/\bw X pins σ H s1) E s
 self:∀(A:Y4) (i:Nat) (s:Yh) (Q:Yd->Yh->Prop) (E:Yd->Yh->Prop),tn i s.heap->Q (.ref it) s->Ym (Ys P w) A (tq (.ref it)) Q E s
abbrev TI:=St->Hp->(It->Hp->Prop)->Prop
def PIE(X:Cx)(pins:List (Yc×Y3))(σ:St)(tg:YY)(R:It->Hp->Prop)(itv:Yd)(s2:Yh):Prop:=
 ∃(it:Yc) (fp:List Yc) (tn:Nat->YR->Prop) (J:It) (H':Hp),itv=.ref it/\bw X pins σ H' s2/\Turn X.prog X.w X.K tg J fp it tn/\tn 0 s2.heap/\(∀b∈fp,Hv X pins H' b)/\R J H'
def PI(X:Cx)(tg iter:YY)(wi:TI):Prop:=
 ∀(pins:List (Yc×Y3)) (s:Yh) (σ:St) (H:Hp) (R:It->Hp->Prop),bw X pins σ H s->wi σ H R->
  Ym (Ys X.prog X.w) X.A (aE iter X.env) (λv s1=>Ym (Ys X.prog X.w) X.A (tq v) (PIE X pins σ tg R) X.xe s1) X.xe s
theorem acr{o:Y3}{n:String}{vs:Array Yd}{Q:Unit->Yh->Prop}(ho:s.heap.get? it=Ya o)(hc:o.cls=.type n)(hd:o.data=.fields vs)(hn:["enumerate","zip","dict_itemiterator","dict_reverseitemiterator","odict_iterator","itertools.zip_longest","itertools.pairwise"].contains n=false)(hQ:Q () s):Ym M A (tm tg (.ref it) u) Q E s:=by
 unfold tm;cases tg<;>first
  |exact Yr hQ
  |(cases u<;>first
    |exact Yr hQ
    |(refine Yf (wpAny_load ho ?_)
      rw[hc,hd];show Ym M A (if(["enumerate","zip","dict_itemiterator","dict_reverseitemiterator","odict_iterator","itertools.zip_longest","itertools.pairwise"].contains n&&vs[0]?==Ya (rawInt _))=true then _ else _) Q E s;rw[if_neg (by intro h;rw[hn,fe]at h;cases h)];exact Yr hQ))
noncomputable def Itl(K:Ye)(a:Yc):It:=
 ⟨λi H=>∃xs x,bI K H a xs/\xs[i]?=Ya x,λi H x H'=>H'=H/\∀xs,bI K H a xs->xs[i]?=Ya x,λi H=>∃xs,bI K H a xs/\xs.length<=i⟩
noncomputable def Itt(K:Ye)(a:Yc):It:=
 ⟨λi H=>∃xs x,cN K H a xs/\xs[i]?=Ya x,λi H x H'=>H'=H/\∀xs,cN K H a xs->xs[i]?=Ya x,λi H=>∃xs,cN K H a xs/\xs.length<=i⟩
noncomputable def Itr(lo:Int)(n:Nat):It:=⟨λi _=>i<n,λi H x H'=>H'=H/\x=.int (lo+ i),λi _=>n<=i⟩
theorem Rq(a it:Yc):Turn P w K tg (Itl K a) [it] it (λi h=>h.IsListIter it a i) where
 mem:=by simp
 obj:=λi h st b hb=>by
  have e:b=it:=by simpa using hb
  subst e;obtain⟨o,e,c,d⟩:=st;exact⟨o,e,λv z=>by rw[d]at z;cases z⟩
 keep:=λi h h' st k=>st.at λo e=>k it (by simp) o e
 item:=by
  intro X hP hw hK hc i pins s σ H E I hf st hg;subst hP hw hK;obtain⟨xs,x,hq,hx⟩:=hg;obtain⟨its,rv,p,hz⟩:=I.list hq;obtain⟨u,hu,ru⟩:=rv.get hx;obtain⟨f0,f1,f2,f3,f4,f5⟩:=hf it (by simp);refine wpAny_pyNext_list_item st p.isList (x:=u) (by simpa using hu) λh' st' sb=>?_;have I1:bw X pins σ H {s with heap:=h'}:=I.turned (t':=s.toks) (λb o hb e=>(sb.2 b hb).trans e) f0 f1 f3 f4 f5;obtain⟨o,e,c,d⟩:=id st';exact⟨u,rfl,acr (s:={s with heap:=h'}) e c d (by decide) ⟨x,H,I1,ru,⟨rfl,λys hy=>by rw[I.list_inj hy hq];exact hx⟩,st',λb hb=>(hf b hb).1⟩⟩
 done:=by
  intro X hP hw hK hc i pins s σ H E I hf st hg;subst hP hw hK;obtain⟨xs,hq,hx⟩:=hg;obtain⟨its,rv,p,hz⟩:=I.list hq;obtain⟨f0,f1,f2,f3,f4,f5⟩:=hf it (by simp);have hl:=rv.length;exact wpAny_pyNext_list_end (I.ok.hd hc) st p.isList (by simp;omega) λh' eb=>⟨rfl,I.turned (t':=s.toks) (λb o hb e=>eb b o hb e) f0 f1 f3 f4 f5⟩
 self:=λ_ _ _ _ _ st h=>wpAny_pyIter_listiter st h
theorem Mu(a it:Yc):Turn P w K tg (Itt K a) [it] it (λi h=>h.IsTupleIter it a i) where
 mem:=by simp
 obj:=λi h st b hb=>by
  have e:b=it:=by simpa using hb
  subst e;obtain⟨o,e,c,d⟩:=st;exact⟨o,e,λv z=>by rw[d]at z;cases z⟩
 keep:=λi h h' st k=>st.at λo e=>k it (by simp) o e
 item:=by
  intro X hP hw hK hc i pins s σ H E I hf st hg;subst hP hw hK;obtain⟨xs,x,hq,hx⟩:=hg;obtain⟨its,rv,p,hz⟩:=I.tuple hq;obtain⟨u,hu,ru⟩:=rv.get hx;obtain⟨f0,f1,f2,f3,f4,f5⟩:=hf it (by simp);refine wpAny_pyNext_tuple_item st (show s.heap.IsTuple a its.toArray from p) (x:=u) (by simpa using hu) λh' st' sb=>?_;have I1:bw X pins σ H {s with heap:=h'}:=I.turned (t':=s.toks) (λb o hb e=>(sb.2 b hb).trans e) f0 f1 f3 f4 f5;obtain⟨o,e,c,d⟩:=id st';exact⟨u,rfl,acr (s:={s with heap:=h'}) e c d (by decide) ⟨x,H,I1,ru,⟨rfl,λys hy=>by rw[I.tuple_inj hy hq];exact hx⟩,st',λb hb=>(hf b hb).1⟩⟩
 done:=by
  intro X hP hw hK hc i pins s σ H E I hf st hg;subst hP hw hK;obtain⟨xs,hq,hx⟩:=hg;obtain⟨its,rv,p,hz⟩:=I.tuple hq;obtain⟨f0,f1,f2,f3,f4,f5⟩:=hf it (by simp);have hl:=rv.length;exact wpAny_pyNext_tuple_end (I.ok.hd hc) st (show s.heap.IsTuple a its.toArray from p) (by simp;omega) λh' eb=>⟨rfl,I.turned (t':=s.toks) (λb o hb e=>eb b o hb e) f0 f1 f3 f4 f5⟩
 self:=λ_ _ _ _ _ st h=>wpAny_pyIter_tupleiter st h
theorem aav(it:Yc)(lo:Int)(n:Nat):Turn P w K tg (Itr lo n) [it] it (λi h=>IsRangeIter h it (lo+ (i:Nat)*1) ((n:Int)-(i:Nat)) 1) where
 mem:=by simp
 obj:=λi h st b hb=>by
  have e:b=it:=by simpa using hb
  subst e;exact⟨_,st,λv z=>by
   have z':Data.fields _=Data.cell v:=z;cases z'⟩
 keep:=λi h h' st k=>k it (by simp) _ st
 item:=by
  intro X hP hw hK hc i pins s σ H E I hf st hg;subst hP hw hK;obtain⟨f0,f1,f2,f3,f4,f5⟩:=hf it (by simp);have W:=Walks.range (prog:=X.prog) (w:=X.w) (I.ok.hd hc) it lo 1 n;refine W.item i s _ _ hg st λv h' tk hv st' kk=>?_;obtain⟨t,rfl⟩:=hv;have I1:bw X pins σ H {s with heap:=h',toks:=tk}:=I.turned (λb o hb e=>kk b o (by simpa using hb) e) f0 f1 f3 f4 f5;refine⟨_,rfl,acr (s:={s with heap:=h',toks:=tk}) (n:="range_iterator") st' rfl rfl (by decide) ⟨.int (lo+ i),H,I1,⟨t,?_⟩,⟨rfl,rfl⟩,st',λb hb=>(hf b hb).1⟩⟩;rw[Int.mul_one]
 done:=by
  intro X hP hw hK hc i pins s σ H E I hf st hg;subst hP hw hK;obtain⟨f0,f1,f2,f3,f4,f5⟩:=hf it (by simp);exact wpAny_pyNext_range_end (I.ok.hd hc) st (by have:n<=i:=hg;omega) λh' eb=>⟨rfl,I.turned (t':=s.toks) (λb o hb e=>eb b o hb e) f0 f1 f3 f4 f5⟩
 self:=λ_ _ _ _ _ st h=>wpAny_pyIter_rangeiter st h
section
def ad8(K:Ye)(tl:TE):TI:=λσ H R=>tl σ H λx H1=>∃a,x=.ref a/\(∃xs,bI K H1 a xs)/\R (Itl K a) H1
def akt(K:Ye)(tl:TE):TI:=λσ H R=>tl σ H λx H1=>∃a,x=.ref a/\(∃xs,cN K H1 a xs)/\R (Itt K a) H1
theorem ahP(hl:PE X l tl):PI X tg l (ad8 X.K tl):=by
 intro pins s σ H R I h;refine dN (hl pins s σ H _ I h) λv s1 zz=>?_;obtain⟨x,H1,I1,r1,q1⟩:=zz;obtain⟨a,e,⟨xs,hq⟩,q⟩:=q1;subst e;cases r1;obtain⟨its,rv,p,hz⟩:=I1.list hq;refine gx p.isList ?_;refine⟨s1.heap.objs.size,[s1.heap.objs.size],_,_,H1,rfl,I1.kept (t':=s1.toks) λb o e=>Yg _ e,Rq a _,⟨_,Yq _ rfl,rfl,rfl⟩,λb hb=>?_,q⟩;have e:b=s1.heap.objs.size:=by simpa using hb
 subst e;exact I1.fpOk (Yn _) (I1.hok.fresh (Yn _))
theorem akl(hl:PE X l tl):PI X tg l (akt X.K tl):=by
 intro pins s σ H R I h;refine dN (hl pins s σ H _ I h) λv s1 zz=>?_;obtain⟨x,H1,I1,r1,q1⟩:=zz;obtain⟨a,e,⟨xs,hq⟩,q⟩:=q1;subst e;cases r1;obtain⟨its,rv,p,hz⟩:=I1.tuple hq;refine CB (show s1.heap.IsTuple a its.toArray from p) ?_;refine⟨s1.heap.objs.size,[s1.heap.objs.size],_,_,H1,rfl,I1.kept (t':=s1.toks) λb o e=>Yg _ e,Mu a _,⟨_,Yq _ rfl,rfl,rfl⟩,λb hb=>?_,q⟩;have e:b=s1.heap.objs.size:=by simpa using hb
 subst e;exact I1.fpOk (Yn _) (I1.hok.fresh (Yn _))
theorem af6{R:It->Hp->Prop}{lo hi:Int}{t u v:l7}{tk:Nat}(I:bw X pins σ H s)(h1:-(2^62)<=lo)(h2:lo<2^62)(h3:-(2^62)<=hi)(h4:hi<2^62)(q:R (Itr lo (hi-lo).toNat) H):Ym (Ys X.prog X.w) X.A (tq (.ref s.heap.objs.size)) (PIE X pins σ tg R) E {s with heap:=s.heap.push {cls:=.type "range",data:=.fields #[.int lo t,.int hi u,.int 1 v]},toks:=tk}:=by
 refine wpAny_pyIter_range (IsRange.new ..) (small_one h1 h2 h3 h4) ?_;have I1:bw X pins σ H {s with heap:=s.heap.push {cls:=.type "range",data:=.fields #[.int lo t,.int hi u,.int 1 v]},toks:=tk}:=I.kept λb o e=>Yg _ e;refine⟨(s.heap.push {cls:=.type "range",data:=.fields #[.int lo t,.int hi u,.int 1 v]}).objs.size,[(s.heap.push {cls:=.type "range",data:=.fields #[.int lo t,.int hi u,.int 1 v]}).objs.size],_,_,H,rfl,
  I1.kept (t':=tk) λb o e=>Yg _ e,aav _ lo (hi-lo).toNat,?_,λb hb=>?_,q⟩
 ·have e1:lo+ ((0:Nat):Int)*1=lo:=by simp
  have e2:(((hi-lo).toNat:Nat):Int)-((0:Nat):Int)=Builtin.Range.rangeSize lo hi 1:=by rw[rangeSize_one];split<;>omega
  show IsRangeIter _ _ (lo+ ((0:Nat):Int)*1) ((((hi-lo).toNat:Nat):Int)-((0:Nat):Int)) 1;rw[e1,e2];exact Yq _ rfl
 ·have e:b=(s.heap.push {cls:=.type "range",data:=.fields #[.int lo t,.int hi u,.int 1 v]}).objs.size:=by simpa using hb
  subst e;exact I1.fpOk (Yn _) (I1.hok.fresh (Yn _))
def aiD(ta:TA):TI:=λσ H R=>ta σ H λvs H1=>∃j:Int,vs=[.int j]/\-(2^62)<=j/\j<2^62/\R (Itr 0 j.toNat) H1
theorem Jx{a:YY}{ta:TA}(hg:Gl X "range")(hm:X.mg "range"=Yb)(ha:PA X [a] ta)(hs:YO [a] X.env=[(false,aE a X.env)]:=by rfl):PI X tg (.Call (.Name "range" p) [a] [] pos) (aiD ta):=by
 intro pins s σ H R I h;refine Call_ (wR I hg hm boot_range (vn (dN (ha pos pins s σ H _ I h) λus s1 zz=>?_) hs rfl));obtain⟨vs,H1,I1,r1,q1⟩:=zz;obtain⟨j,e,q1,q2,q⟩:=q1;subst e;cases r1 with
 |cons r rr=>
  cases rr;obtain⟨t,rfl⟩:=r;exact call_range_1 (af6 I1 (by omega) (by omega) q1 q2 (by simpa using q))
def agY(wi:TI)(g:TG)(tb:TS):TS:=λD σ H=>wi σ H λJ H1=>∃W:Nat->Nat->St->Hp->Prop,(∃m,W 0 m σ H1)/\∀i m σ H,W i m σ H->
 (J.stop i H/\D.nx σ H)∨(J.go i H/\∃N:St->Hp->Prop,(∀σ' H',N σ' H'->∃m',m'<m/\W (i+ 1) m' σ' H')/\∀x H',J.yld i H x H'->g x σ H' λσ2 H2=>tb {D with nx:=N,ct:=N,bk:=D.nx} σ2 H2)
noncomputable def Jq(fp:List Yc)(h:YR):List (Yc×Y3):=fp.filterMap λb=>(h.get? b).map λo=>(b,o)
theorem ni{o:Y3}(hb:b∈fp)(e:h.get? b=Ya o):(b,o)∈Jq fp h:=CC.mpr ⟨b,hb,by rw[e];rfl⟩
theorem ac6{p:Yc×Y3}(hp:p∈Jq fp h):p.1∈fp/\h.get? p.1=Ya p.2:=by
 obtain⟨b,hb,e⟩:=CC.mp hp;cases q:h.get? b with
 |none=>rw[q]at e;cases e
 |some o=>
  rw[q]at e;have e':(b,o)=p:=YL e;subst e';exact⟨hb,q⟩
theorem bw.pinned(I:bw X pins σ H s)(hf:∀b∈fp,Hv X pins H b)(ho:∀b∈fp,∃o,s.heap.get? b=Ya o/\∀v,o.data≠.cell v):bw X (pins++Jq fp s.heap) σ H s:=
 I.pins_of λp hp=>(ai.mp hp).elim (λz=>I.pin p (YW _ z)) λz=>by
  obtain⟨hb,e⟩:=ac6 z;obtain⟨f0,f1,f2,_⟩:=hf p.1 hb;obtain⟨o,e',d⟩:=ho p.1 hb;rw[e]at e';cases e';exact⟨e,f0,f1,f2,d⟩
theorem bw.unpinned{pl:List (Yc×Y3)}(I:bw X (pins++pl) σ H s):bw X pins σ H s:=I.pins_of λp hp=>I.pin p (YW _ (fN _ hp))
theorem jc{iter:YY}{wi:TI}{g:TG}{tb:TS}(hp:PassesOwn (Ys X.prog X.w) X.A X.env X.xe)(hc:X.calm=true)(hi:PI X tg iter wi)(hg:PG X tg g)(hb:XN X body tb)(hs:∀x,wq iter X.env x=pure x:=by intro _;rfl):PS X (.For tg iter body [] pos) (agY wi g tb):=by
 intro pins s σ H D I h;refine wpAny_For (dN (hi pins s σ H _ I h) λv s1 h1=>dN h1 λitv s2 h2=>?_) hs;obtain⟨it,fp,tn,J,H2,e,I2,T,st2,f2,W,⟨m0,w0⟩,turn⟩:=h2;subst e
 -- what stays true of the iterator's objects through the loop
 have stat:∀{H':Hp},(∀b∈fp,H' b=Yb)->∀b∈fp,Hv X pins H' b:=λhn b hb=>⟨hn b hb,(f2 b hb).2⟩;refine codeAny_forLoop_any (λn s'=>∃i σ' H',bw X pins σ' H' s'/\tn i s'.heap/\(∀b∈fp,H' b=Yb)/\W i n σ' H') ?_ m0 ⟨0,σ,H2,I2,st2,λb hb=>(f2 b hb).1,w0⟩;rintro n s3 ⟨i,σ3,H3,I3,st3,fr3,w3⟩;rcases turn i n σ3 H3 w3 with⟨stop,qn⟩|⟨go,N,hN,step⟩
 ·refine kf hp (dN (T.done X rfl rfl rfl hc i pins s3 σ3 H3 X.xe I3 (stat fr3) st3 stop) λr s4 zz=>?_);obtain⟨hr,I4⟩:=zz;subst hr;exact tj ⟨σ3,H3,I4,qn⟩
 ·refine kf hp (dN (T.item X rfl rfl rfl hc i pins s3 σ3 H3 X.xe I3 (stat fr3) st3 go) λr s4 zz=>?_);obtain⟨u,hr,h4⟩:=zz;subst hr;refine kf hp (dN h4 λ_ s5 zz=>?_);obtain⟨x,H5,I5,r5,y5,st5,fr5⟩:=zz;have I5':=I5.pinned (stat fr5) (T.obj _ _ st5);refine kf hp (dN (hg _ s5 σ3 H5 x u _ I5' r5 (step x H5 y5)) λ_ s6 zz=>?_);obtain⟨σ6,H6,I6,q6⟩:=zz;refine kf hp (dN (hb _ s6 σ6 H6 _ I6 q6) λf s7 q7=>?_);have again:∀{σ7:St} {H7:Hp},bw X (pins++Jq fp s5.heap) σ7 H7 s7->N σ7 H7->∃m,m<n/\∃i σ' H',bw X pins σ' H' s7/\tn i s7.heap/\(∀b∈fp,H' b=Yb)/\W i m σ' H':=fun{σ7 H7} I7 n7=>by
   obtain⟨m',hm,w7⟩:=hN σ7 H7 n7;refine⟨m',hm,i+ 1,σ7,H7,I7.unpinned,T.keep _ _ _ st5 λb hb o e=>(I7.pin (b,o) (YW _ (YW _ (ni hb e)))).1,λb hb=>?_,w7⟩;obtain⟨o,e,d⟩:=T.obj _ _ st5 b hb;exact(I7.pin (b,o) (YW _ (YW _ (ni hb e)))).2.1
  cases f with
  |next=>obtain⟨σ7,H7,I7,n7⟩:=q7;exact again I7 n7
  |cont=>obtain⟨σ7,H7,I7,n7⟩:=q7;exact again I7 n7
  |brk=>obtain⟨σ7,H7,I7,q7⟩:=q7;exact⟨σ7,H7,I7.unpinned,q7⟩
  |ret v=>obtain⟨x7,σ7,H7,I7,r7,q7⟩:=q7;exact⟨x7,σ7,H7,I7.unpinned,r7,q7⟩
end
theorem gf{xs:List V}{g:TG}{tb:TS}(Pv:Nat->St->Hp->Prop)(h0:Pv 0 σ H)(hl:∀i σ H,i<=xs.length->Pv i σ H->bI K H a xs)(hs:∀i x σ H,xs[i]?=Ya x->Pv i σ H->g x σ H λσ2 H2=>tb {D with nx:=Pv (i+ 1),ct:=Pv (i+ 1),bk:=D.nx} σ2 H2)(hd:∀σ H,Pv xs.length σ H->D.nx σ H):
  ∃W:Nat->Nat->St->Hp->Prop,(∃m,W 0 m σ H)/\∀i m σ H,W i m σ H->
   ((Itl K a).stop i H/\D.nx σ H)∨((Itl K a).go i H/\∃N:St->Hp->Prop,(∀σ' H',N σ' H'->∃m',m'<m/\W (i+ 1) m' σ' H')/\∀x H',(Itl K a).yld i H x H'->g x σ H' λσ2 H2=>tb {D with nx:=N,ct:=N,bk:=D.nx} σ2 H2):=by
 refine⟨λi m σ H=>m=xs.length-i/\i<=xs.length/\Pv i σ H,⟨xs.length,by simp,YZ _,h0⟩,?_⟩;rintro i m σ H ⟨rfl,hi,p⟩;have q:=hl i σ H hi p;by_cases hlt:i<xs.length
 ·refine .inr ⟨⟨xs,xs[i],q,by simp[hlt]⟩,Pv (i+ 1),λσ' H' p'=>⟨xs.length-(i+ 1),by omega,rfl,hlt,p'⟩,λx H' y=>?_⟩;obtain⟨e,y⟩:=y;subst e;exact hs i x σ _ (y xs q) p
 ·have e:i=xs.length:=by omega
  subst e;exact .inl ⟨⟨xs,q,Yn _⟩,hd σ H p⟩
theorem Sd{xs:List V}{g:TG}{tb:TS}(Pv:Nat->St->Hp->Prop)(h0:Pv 0 σ H)(hl:∀i σ H,i<=xs.length->Pv i σ H->cN K H a xs)(hs:∀i x σ H,xs[i]?=Ya x->Pv i σ H->g x σ H λσ2 H2=>tb {D with nx:=Pv (i+ 1),ct:=Pv (i+ 1),bk:=D.nx} σ2 H2)(hd:∀σ H,Pv xs.length σ H->D.nx σ H):
  ∃W:Nat->Nat->St->Hp->Prop,(∃m,W 0 m σ H)/\∀i m σ H,W i m σ H->
   ((Itt K a).stop i H/\D.nx σ H)∨((Itt K a).go i H/\∃N:St->Hp->Prop,(∀σ' H',N σ' H'->∃m',m'<m/\W (i+ 1) m' σ' H')/\∀x H',(Itt K a).yld i H x H'->g x σ H' λσ2 H2=>tb {D with nx:=N,ct:=N,bk:=D.nx} σ2 H2):=by
 refine⟨λi m σ H=>m=xs.length-i/\i<=xs.length/\Pv i σ H,⟨xs.length,by simp,YZ _,h0⟩,?_⟩;rintro i m σ H ⟨rfl,hi,p⟩;have q:=hl i σ H hi p;by_cases hlt:i<xs.length
 ·refine .inr ⟨⟨xs,xs[i],q,by simp[hlt]⟩,Pv (i+ 1),λσ' H' p'=>⟨xs.length-(i+ 1),by omega,rfl,hlt,p'⟩,λx H' y=>?_⟩;obtain⟨e,y⟩:=y;subst e;exact hs i x σ _ (y xs q) p
 ·have e:i=xs.length:=by omega
  subst e;exact .inl ⟨⟨xs,q,Yn _⟩,hd σ H p⟩
abbrev R2:=V->V->Hp->VK->Prop
variable{r:R2}
def yV(X:Cx)(f:Yd->Yd->vj Yd)(r:R2):Prop:=
 ∀(pins:List (Yc×Y3)) (s:Yh) (σ:St) (H:Hp) (x y:V) (v u:Yd) (Q:VK),bw X pins σ H s->RelV x v->RelV y u->r x y H Q->
  Ym (Ys X.prog X.w) X.A (f v u) (EP X pins σ Q) X.xe s
def UnR(X:Cx)(f:Yd->vj Yd)(r:V->Hp->VK->Prop):Prop:=
 ∀(pins:List (Yc×Y3)) (s:Yh) (σ:St) (H:Hp) (x:V) (v:Yd) (Q:VK),bw X pins σ H s->RelV x v->r x H Q->
  Ym (Ys X.prog X.w) X.A (f v) (EP X pins σ Q) X.xe s
def iZ(X:Cx)(f:Yd)(r:List V->Hp->VK->Prop):Prop:=
 ∀(pins:List (Yc×Y3)) (s:Yh) (σ:St) (H:Hp) (xs:List V) (us:List Yd) (Q:VK),bw X pins σ H s->Vals xs us->r xs H Q->
  Ym (Ys X.prog X.w) X.A (call f us) (EP X pins σ Q) X.xe s
def anz(X:Cx)(r:V->Hp->(Bool->Hp->Prop)->Prop):Prop:=
 ∀(pins:List (Yc×Y3)) (s:Yh) (σ:St) (H:Hp) (x:V) (v:Yd) (Q:Bool->Hp->Prop),bw X pins σ H s->RelV x v->r x H Q->
  Ym (Ys X.prog X.w) X.A (truthy v) (TP X pins σ Q) X.xe s
def tOp(r:R2)(ta tb:TE):TE:=λσ H Q=>ta σ H λx H1=>tb σ H1 λy H2=>r x y H2 Q
def tUn(r:V->Hp->VK->Prop)(ta:TE):TE:=λσ H Q=>ta σ H λx H1=>r x H1 Q
def rI(C:Int->Int->Prop)(g:Int->Int->V):R2:=λx y H Q=>∃i j,x=.int i/\y=.int j/\C i j/\Q (g i j) H
def rI0(g:Int->Int->V):R2:=λx y H Q=>∃i j,x=.int i/\y=.int j/\Q (g i j) H
def rU(g:Int->V):V->Hp->VK->Prop:=λx H Q=>∃i,x=.int i/\Q (g i) H
section
variable{a b:YY}{tc:TE}
theorem aku(ha:PE X a ta)(hb:PE X b tb)(I:bw X pins σ H s)(h:ta σ H λx H1=>tb σ H1 λy H2=>R x y H2)(hf:∀v u s2 x y H2,bw X pins σ H2 s2->RelV x v->RelV y u->R x y H2->Ym (Ys X.prog X.w) X.A (f v u) Q X.xe s2):
  Ym (Ys X.prog X.w) X.A (aE a X.env) (λv s₁=>Ym (Ys X.prog X.w) X.A (aE b X.env) (λu s₂=>Ym (Ys X.prog X.w) X.A (f v u) Q X.xe s₂) X.xe s₁) X.xe s:=by
 refine dN (ha pins s σ H _ I h) λv s1 zz=>?_;obtain⟨x,H1,I1,r1,q1⟩:=zz;refine dN (hb pins s1 σ H1 _ I1 q1) λu s2 zz=>?_;obtain⟨y,H2,I2,r2,q2⟩:=zz;exact hf v u s2 x y H2 I2 r1 r2 q2
theorem bL{op:Operator}(ho:yV X (i7 op) r)(ha:PE X a ta)(hb:PE X b tb):PE X (.BinOp a op b pos) (tOp r ta tb):=by
 intro pins s σ H Q I h;exact wpAny_BinOp (aku ha hb I h λv u s2 x y H2 I2 rx ry q=>ho pins s2 σ H2 x y v u Q I2 rx ry q)
theorem Ri{op:UnaryOp}{r:V->Hp->VK->Prop}(ho:UnR X (unaryOp op) r)(ha:PE X a ta):PE X (.UnaryOp op a pos) (tUn r ta):=by
 intro pins s σ H Q I h;exact UnaryOp_ (dN (ha pins s σ H _ I h) λv s1 ⟨x,H1,I1,r1,q1⟩=>ho pins s1 σ H1 x v Q I1 r1 q1)
theorem opI{C:Int->Int->Prop}(rule:∀(i j:Int) (t u:l7) (s:Yh) (Q:Yd->Yh->Prop) (E:Yd->Yh->Prop),C i j->Q (.int (g i j) s.toks) {s with toks:=s.toks+ 1}->Ym (Ys X.prog X.w) X.A (f (.int i t) (.int j u)) Q E s):
  yV X f (rI C λi j=>.int (g i j)):=by
 intro pins s σ H x y v u Q I rx ry h;obtain⟨i,j,rfl,rfl,hc,q⟩:=h;obtain⟨t,rfl⟩:=rx;obtain⟨t',rfl⟩:=ry;exact rule i j t t' s _ _ hc ⟨.int (g i j),H,I.tok _,⟨_,rfl⟩,q⟩
theorem ahi(rule:∀(i j:Int) (t u:l7) (s:Yh) (Q:Yd->Yh->Prop) (E:Yd->Yh->Prop),Q (.int (g i j) s.toks) {s with toks:=s.toks+ 1}->Ym (Ys X.prog X.w) X.A (f (.int i t) (.int j u)) Q E s):
  yV X f (rI0 λi j=>.int (g i j)):=by
 intro pins s σ H x y v u Q I rx ry h;obtain⟨i,j,rfl,rfl,q⟩:=h;obtain⟨t,rfl⟩:=rx;obtain⟨t',rfl⟩:=ry;exact rule i j t t' s _ _ ⟨.int (g i j),H,I.tok _,⟨_,rfl⟩,q⟩
theorem agJ{g:Int->Int->Bool}(rule:∀(i j:Int) (t u:l7) (s:Yh) (Q:Yd->Yh->Prop) (E:Yd->Yh->Prop),Q (.bool (g i j)) s->Ym (Ys X.prog X.w) X.A (f (.int i t) (.int j u)) Q E s):
  yV X f (rI0 λi j=>.bl (g i j)):=by
 intro pins s σ H x y v u Q I rx ry h;obtain⟨i,j,rfl,rfl,q⟩:=h;obtain⟨t,rfl⟩:=rx;obtain⟨t',rfl⟩:=ry;exact rule i j t t' s _ _ ⟨.bl (g i j),H,I,rfl,q⟩
def anI(i j:Int):Prop:=0<j/\j<1073741824
def acX(i j:Int):Prop:=0<=j/\j<=1000000/\i.natAbs<2^64
def adE(i j:Int):Prop:=(-(2^64)<i/\i<2^64)∨(-(2^64)<j/\j<2^64)
theorem adE.ok{i j:Int}(h:adE i j):IntMulOk i j:=by
 rcases h with⟨h1,h2⟩|⟨h1,h2⟩
 ·exact .of_left (GS h1 h2)
 ·exact .of_right (GS h1 h2)
theorem iw(k:Nat):(0:Int)<=2^k:=by
 rw[two_pow_cast];exact ml _
theorem mJ:yV X (i7 .Add) (rI0 λi j=>.int (i+ j)):=ahi λ_ _ _ _ _ _ _ q=>add_int q
theorem af5:yV X (i7 .Sub) (rI0 λi j=>.int (i-j)):=ahi λ_ _ _ _ _ _ _ q=>sub_int q
theorem XX:yV X (i7 .Mult) (rI adE λi j=>.int (i*j)):=opI λ_ _ _ _ _ _ _ hc q=>mul_int q hc.ok
theorem xg:yV X (i7 .FloorDiv) (rI anI λi j=>.int (i / j)):=opI λi j _ _ _ _ _ hc q=>by
 have h1:(0:Int)<j:=hc.1;have h2:j<1073741824:=hc.2;exact floordiv_int (by omega) (by rw[Int.fdiv_eq_ediv_of_nonneg i (by omega)];exact q) (.inl (PyProof.noPylong_small (by omega)))
theorem mQ:yV X (i7 .Mod) (rI (λ_ j=>0<j) λi j=>.int (i%j)):=opI λi j _ _ _ _ _ hc q=>by
 have h1:(0:Int)<j:=hc;exact mod_int' (by omega) (by rw[Int.fmod_eq_emod_of_nonneg i (by omega)];exact q)
theorem aen:yV X (i7 .Pow) (rI acX λi j=>.int (i^j.toNat)):=opI λ_ _ _ _ _ _ _ hc q=>pow_int_small hc.1 hc.2.1 hc.2.2 q
theorem Av:yV X (i7 .LShift) (rI acX λi j=>.int (i*2^j.toNat)):=opI λ_ _ _ _ _ _ _ hc q=>lshift_int_small hc.1 hc.2.1 hc.2.2 q
theorem Ay:yV X (i7 .BitAnd) (rI0 λi j=>.int (Yz i j)):=ahi λ_ _ _ _ _ _ _ q=>and_int q
theorem NK:yV X (i7 .BitOr) (rI0 λi j=>.int (YD i j)):=ahi λ_ _ _ _ _ _ _ q=>or_int q
theorem unI{f:Yd->vj Yd}{g:Int->Int}
  (rule:∀(i:Int) (t:l7) (s:Yh) (Q:Yd->Yh->Prop) (E:Yd->Yh->Prop),Q (.int (g i) s.toks) {s with toks:=s.toks+ 1}->Ym (Ys X.prog X.w) X.A (f (.int i t)) Q E s):
  UnR X f (rU λi=>.int (g i)):=by
 intro pins s σ H x v Q I rx h;obtain⟨i,rfl,q⟩:=h;obtain⟨t,rfl⟩:=rx;exact rule i t s _ _ ⟨.int (g i),H,I.tok _,⟨_,rfl⟩,q⟩
theorem JK:UnR X (unaryOp .Invert) (rU λi=>.int (Yw i)):=unI λ_ _ _ _ _ q=>invert_int q
end
noncomputable def alo:V->V->Bool
 | .non,.non=>true| .non,.int _=>true| .int _,.non=>true| .non,.bl _=>true| .bl _,.non=>true| .non,.str _=>true| .str _,.non=>true
 | .int _,.int _=>true| .bl _,.bl _=>true| .str _,.str _=>true| .byt _,.byt _=>true
 | .int _,.str _=>true| .str _,.int _=>true| .bl _,.str _=>true| .str _,.bl _=>true
 |_,_=>false
def rEq:R2:=λx y H Q=>alo x y=true/\Q (.bl (decide (x=y))) H
def rNe:R2:=λx y H Q=>alo x y=true/\Q (.bl (!decide (x=y))) H
theorem abB{i j:Int}:decide (V.int i=V.int j)=(i==j):=by
 rw[eD];simp
theorem afq{i j:Bool}:decide (V.bl i=V.bl j)=(i==j):=by
 rw[eD];simp
theorem abJ{i j:Yj}:decide (V.str i=V.str j)=(i==j):=by
 rw[eD];simp
theorem abE{i j:Array UInt8}:decide (V.byt i=V.byt j)=(i.toList==j.toList):=by
 rw[eD];cases i;cases j;simp
section
variable{a b:YY}{tc:TE}
theorem dh{Q:VK}{k k':Bool}(I:bw X pins σ H s)(q:Q (.bl k) H)(e:k=k'):EP X pins σ Q (.bool k') s:=by
 subst e;exact⟨.bl k,H,I,rfl,q⟩
theorem yP:yV X (bX .Eq) rEq:=by
 intro pins s σ H x y v u Q I rx ry h;obtain⟨hs,q⟩:=h;cases x with
 |non=>
  cases rx;cases y with
  |non=>cases ry;exact PySem.EqNone.eq_none_none (dh I q (by simp))
  |bl j=>cases ry;exact PySem.EqNone.eq_none_bool (dh I q (by simp))
  |int j=>obtain⟨t',rfl⟩:=ry;exact PySem.EqNone.eq_none_int (dh I q (by simp))
  |str j=>obtain⟨t',rfl⟩:=ry;exact PySem.EqNone.eq_none_str (dh I q (by simp))
  |_=>exact absurd (show false=true from hs) YS
 |bl i=>
  cases rx;cases y with
  |non=>cases ry;exact PySem.EqNone.eq_bool_none (dh I q (by simp))
  |bl j=>cases ry;exact eq_bool (dh I q afq)
  |str j=>obtain⟨t',rfl⟩:=ry;exact PySem.EqMixed.eq_bool_str (dh I q (by simp))
  |_=>exact absurd (show false=true from hs) YS
 |int i=>
  obtain⟨t,rfl⟩:=rx;cases y with
  |non=>cases ry;exact PySem.EqNone.eq_int_none (dh I q (by simp))
  |int j=>obtain⟨t',rfl⟩:=ry;exact eq_int (dh I q abB)
  |str j=>obtain⟨t',rfl⟩:=ry;exact PySem.EqMixed.eq_int_str (dh I q (by simp))
  |_=>exact absurd (show false=true from hs) YS
 |str i=>
  obtain⟨t,rfl⟩:=rx;cases y with
  |non=>cases ry;exact PySem.EqNone.eq_str_none (dh I q (by simp))
  |bl j=>cases ry;exact PySem.EqMixed.eq_str_bool (dh I q (by simp))
  |int j=>obtain⟨t',rfl⟩:=ry;exact PySem.EqMixed.eq_str_int (dh I q (by simp))
  |str j=>obtain⟨t',rfl⟩:=ry;exact eq_str (dh I q abJ)
  |_=>exact absurd (show false=true from hs) YS
 |byt i=>
  obtain⟨t,rfl⟩:=rx;cases y with
  |byt j=>obtain⟨t',rfl⟩:=ry;exact PySem.W.eq_bytes (dh I q abE)
  |_=>exact absurd (show false=true from hs) YS
 |_=>cases y<;>exact absurd (show false=true from hs) YS
theorem ad9:yV X (bX .NotEq) rNe:=by
 intro pins s σ H x y v u Q I rx ry h;obtain⟨hs,q⟩:=h;cases x with
 |non=>
  cases rx;cases y with
  |non=>cases ry;exact PySem.EqNone.ne_none_none (dh I q (by simp))
  |bl j=>cases ry;exact PySem.EqNone.ne_none_bool (dh I q (by simp))
  |int j=>obtain⟨t',rfl⟩:=ry;exact PySem.EqNone.ne_none_int (dh I q (by simp))
  |str j=>obtain⟨t',rfl⟩:=ry;exact PySem.EqNone.ne_none_str (dh I q (by simp))
  |_=>exact absurd (show false=true from hs) YS
 |bl i=>
  cases rx;cases y with
  |non=>cases ry;exact PySem.EqNone.ne_bool_none (dh I q (by simp))
  |bl j=>cases ry;exact ne_bool (dh I q (congrArg not afq))
  |str j=>obtain⟨t',rfl⟩:=ry;exact PySem.EqMixed.ne_bool_str (dh I q (by simp))
  |_=>exact absurd (show false=true from hs) YS
 |int i=>
  obtain⟨t,rfl⟩:=rx;cases y with
  |non=>cases ry;exact PySem.EqNone.ne_int_none (dh I q (by simp))
  |int j=>obtain⟨t',rfl⟩:=ry;exact ne_int (dh I q (congrArg not abB))
  |str j=>obtain⟨t',rfl⟩:=ry;exact PySem.EqMixed.ne_int_str (dh I q (by simp))
  |_=>exact absurd (show false=true from hs) YS
 |str i=>
  obtain⟨t,rfl⟩:=rx;cases y with
  |non=>cases ry;exact PySem.EqNone.ne_str_none (dh I q (by simp))
  |bl j=>cases ry;exact PySem.EqMixed.ne_str_bool (dh I q (by simp))
  |int j=>obtain⟨t',rfl⟩:=ry;exact PySem.EqMixed.ne_str_int (dh I q (by simp))
  |str j=>obtain⟨t',rfl⟩:=ry;exact ne_str (dh I q (congrArg not abJ))
  |_=>exact absurd (show false=true from hs) YS
 |byt i=>
  obtain⟨t,rfl⟩:=rx;cases y with
  |byt j=>obtain⟨t',rfl⟩:=ry;exact PySem.W.ne_bytes (dh I q (congrArg not abE))
  |_=>exact absurd (show false=true from hs) YS
 |_=>cases y<;>exact absurd (show false=true from hs) YS
theorem U6:yV X (bX .Lt) (rI0 λi j=>.bl (decide (i<j))):=agJ λ_ _ _ _ _ _ _ q=>FA q
theorem aeL:yV X (bX .LtE) (rI0 λi j=>.bl (decide (i<=j))):=agJ λ_ _ _ _ _ _ _ q=>le_int q
theorem Qp:yV X (bX .Gt) (rI0 λi j=>.bl (decide (j<i))):=agJ λ_ _ _ _ _ _ _ q=>HM q
theorem amL:yV X (bX .GtE) (rI0 λi j=>.bl (decide (j<=i))):=agJ λ_ _ _ _ _ _ _ q=>ge_int q
theorem j8:yV X (bX .Is) (λx y H Q=>y=.non/\Q (.bl (decide (x=.non))) H):=by
 intro pins s σ H x y v u Q I rx ry h;obtain⟨rfl,q⟩:=h;cases ry;refine is_none_gen (dh I q ?_);cases x<;>first
  |(cases rx;rfl)
  |(obtain⟨t,rfl⟩:=rx;rfl)
theorem nQ:yV X (bX .IsNot) (λx y H Q=>y=.non/\Q (.bl (!decide (x=.non))) H):=by
 intro pins s σ H x y v u Q I rx ry h;obtain⟨rfl,q⟩:=h;cases ry;refine isnot_none_gen (dh I q ?_);cases x<;>first
  |(cases rx;rfl)
  |(obtain⟨t,rfl⟩:=rx;rfl)
theorem bc(b:YY)(h:op≠.In:=by decide)(h2:op≠.NotIn:=by decide):sj op b=false:=by
 have e1:(op==CmpOp.In)=false:=by cases op<;>first|rfl|exact absurd rfl h
 have e2:(op==CmpOp.NotIn)=false:=by cases op<;>first|rfl|exact absurd rfl h2
 cases b<;>simp[sj,e1,e2]
theorem jo(ho:yV X (bX op) r)(ha:PE X a ta)(hb:PE X b tb)(hm:sj op b=false):PE X (.Compare a [op] [b] pos) (tOp r ta tb):=by
 intro pins s σ H Q I h;exact wpAny_Compare1 (aku ha hb I h λv u s2 x y H2 I2 rx ry q=>ho pins s2 σ H2 x y v u Q I2 rx ry q) hm
def aiG(t:TE):TT:=λσ H Q=>t σ H λx H'=>∃k,x=.bl k/\Q k H'
theorem aX(ho:yV X (bX op) r)(ha:PE X a ta)(hb:PE X b tb)(hm:sj op b=false):PT X (.Compare a [op] [b] pos) (aiG (tOp r ta tb)):=by
 intro pins s σ H Q I h;refine AK (dN (ha pins s σ H _ I h) λv s1 zz=>?_) hm;obtain⟨x,H1,I1,r1,q1⟩:=zz;refine dN (hb pins s1 σ H1 _ I1 q1) λu s2 zz=>?_;obtain⟨y,H2,I2,r2,q2⟩:=zz;refine dN (ho pins s2 σ H2 x y v u _ I2 r1 r2 q2) λc s3 zz=>?_;obtain⟨z,H3,I3,r3,k,e,q3⟩:=zz;subst e;cases r3;exact gm ⟨H3,I3,q3⟩
def aji(r r':R2)(ta tb tc:TE):TE:=λσ H Q=>ta σ H λx H1=>tb σ H1 λy H2=>r x y H2 λz H3=>∃k,z=.bl k/\
 (if k=true then tc σ H3 λw' H4=>r' y w' H4 Q else Q (.bl false) H3)
theorem Vw{op':DC}{r':R2}(ho:yV X (bX op) r)(ho':yV X (bX op') r')(ha:PE X a ta)(hb:PE X b tb)(hc:PE X c tc)(hm:lastMarks [op,op'] [b,c]=false:=by with_unfolding_all rfl):PE X (.Compare a [op,op'] [b,c] pos) (aji r r' ta tb tc):=by
 intro pins s σ H Q I h;refine Compare_chain (dN (ha pins s σ H _ I h) λv s1 zz=>?_) hm;obtain⟨x,H1,I1,r1,q1⟩:=zz;refine chain_link (dN (hb pins s1 σ H1 _ I1 q1) λu s2 zz=>?_);obtain⟨y,H2,I2,r2,q2⟩:=zz;refine dN (ho pins s2 σ H2 x y v u _ I2 r1 r2 q2) λd s3 zz=>?_;obtain⟨z,H3,I3,r3,k,e,q3⟩:=zz;subst e;cases r3;refine gm ?_;cases k with
 |false=>exact ite_ff ⟨.bl false,H3,I3,rfl,q3⟩
 |true=>exact ite_tt (chain_last (dN (hc pins s3 σ H3 _ I3 q3) λw' s4 ⟨z',H4,I4,r4,q4⟩=>ho' pins s4 σ H4 y z' u w' Q I4 r2 r4 q4))
def afz(K:Ye)(x:V)(H:Hp)(k:Bool):Prop:=
 match x with
 | .non=>k=false
 | .bl b=>k=b
 | .int i=>k=(i !=0)
 | .str y=>y.length<=YB/\k=((y.length:Int) !=0)
 | .byt y=>y.size<=YB/\k=((y.size:Int) !=0)
 | .ref p=>(∃xs,bI K H p xs/\k=!xs.isEmpty)∨(∃xs,cN K H p xs/\k=!xs.isEmpty)∨∃kvs,H p=Ya (.dK kvs)/\k=!kvs.isEmpty
 |_=>False
theorem aaE{κ:Type}{kvs:List (κ×V)}{vs:List (κ×Yd)}(r:KV kvs vs):(!vs.isEmpty)=!kvs.isEmpty:=by
 cases r<;>rfl
theorem Ow{xs:List V}{its:List Yd}(r:Vals xs its):(!its.toArray.isEmpty)=!xs.isEmpty:=by
 cases r<;>simp
theorem Nq:(YB:Nat)<2^63:=by rw[gB];decide
theorem akS:anz X (λx H Q=>∃k,afz X.K x H k/\Q k H):=by
 intro pins s σ H x v Q I rx h;obtain⟨k,e,q⟩:=h;have hl:=Nq;have hs:YB=16777216:=gB;cases x with
 |non=>
  cases rx;have e':k=false:=e;subst e';exact truthy_none ⟨H,I,q⟩
 |bl b=>
  cases rx;have e':k=b:=e;subst e';exact gm ⟨H,I,q⟩
 |int i=>
  obtain⟨t,rfl⟩:=rx;have e':k=(i !=0):=e;subst e';exact PySem.P.truthy_int ⟨H,I,q⟩
 |str y=>
  obtain⟨t,rfl⟩:=rx;obtain⟨hy,e'⟩:y.length<=YB/\k=((y.length:Int) !=0):=e;subst e';exact PySem.P.truthy_str (by omega) ⟨H,I.tok _,q⟩
 |byt y=>
  obtain⟨t,rfl⟩:=rx;obtain⟨hy,e'⟩:y.size<=YB/\k=((y.size:Int) !=0):=e;subst e';exact PySem.W.truthy_bytes (by omega) ⟨H,I.tok _,q⟩
 |ref p=>
  cases rx;have e':(∃xs,bI X.K H p xs/\k=!xs.isEmpty)∨(∃xs,cN X.K H p xs/\k=!xs.isEmpty)∨∃kvs,H p=Ya (.dK kvs)/\k=!kvs.isEmpty:=e;rcases e' with⟨xs,hx,e'⟩|⟨xs,hx,e'⟩|⟨kvs,hx,e'⟩
  ·subst e';obtain⟨its,r,pl,hz⟩:=I.list hx;have hlen:=r.length;exact wpAny_truthy_list pl.isList (by simp only[Yx];omega) ⟨H,I.tok _,by rw[Ow r];exact q⟩
  ·subst e';obtain⟨its,r,pl,hz⟩:=I.tuple hx;have hlen:=r.length;exact truthy_tuple pl (by simp only[Yx];omega) ⟨H,I.tok _,by rw[Ow r];exact q⟩
  ·subst e';obtain⟨hz,hS,vs,r,m⟩:kvs.length<=YB/\(p==ee)=false/\∃vs,KV kvs vs/\s.heap.DictOf (bK X.prog X.w) p vs:=I.hok p _ hx;have hlen:kvs.length=vs.length:=bS r;exact wpAny_truthy_dict hS m (by omega) ⟨H,I.tok _,by rw[aaE r];exact q⟩
 |_=>exact(show False from e).elim
theorem V7(ha:PE X a ta)(he:∀whole,Ct a X.env whole=(do let v←whole;qV a.pos;mi [v] (truthy v))):
  PT X a (λσ H Q=>ta σ H λx H'=>∃k,afz X.K x H' k/\Q k H'):=by
 intro pins s σ H Q I h;exact HZ (dN (ha pins s σ H _ I h) λv s1 ⟨x,H1,I1,r1,q1⟩=>akS pins s1 σ H1 x v Q I1 r1 q1) (he _)
theorem j0{x:V}(r:Vals [x] us):∃u,us=[u]/\RelV x u:=by
 cases r with
 |cons r1 r2=>cases r2;exact⟨_,rfl,r1⟩
theorem Xk{x:V}(r:Vals [x,y] us):∃u w',us=[u,w']/\RelV x u/\RelV y w':=by
 cases r with
 |cons r1 r2=>
  cases r2 with
  |cons r3 r4=>cases r4;exact⟨_,_,rfl,r1,r3⟩
theorem QQ(hc:X.calm=true):iZ X (.builtin "max") (λxs H Q=>∃i j,xs=[.int i,.int j]/\Q (.int (if j>i then j else i)) H):=by
 intro pins s σ H xs us Q I r h;obtain⟨i,j,rfl,q⟩:=h;obtain⟨u,w',rfl,⟨t,rfl⟩,⟨t',rfl⟩⟩:=Xk r;refine max_two_ints (I.ok.hd hc) λh' tk k=>⟨_,H,I.kept k,?_,q⟩;by_cases hj:j>i
 ·rw[if_pos hj,if_pos hj];exact⟨_,rfl⟩
 ·rw[if_neg hj,if_neg hj];exact⟨_,rfl⟩
end
structure X4(h:YR)(x dx C:Yc)(mA:Yj->Option Yd):Prop where
 obj:h.get? x=Ya (ip C dx)
 ns:h.Ns1 dx mA
 ne:dx≠x
theorem adO(n:h.Ns1 dx mA):∃od,h.get? dx=Ya od/\∀name,uk name od=Ya (mA name):=by
 obtain⟨o,es,ep,ho,hd,hk,_,hm⟩:=n;refine⟨o,ho,λname=>?_⟩;have e:=hm name;unfold nsFind findBy at e;rw[←Array.find?_toList]at e;unfold uk;rw[hd];dsimp only;split
 ·rename_i y q;rw[q]at e;exact congrArg Ya e
 ·rename_i q;rw[q]at e;have a:es.toList.any (·.refKey)=false:=by
   rw[wx];intro y hy;obtain⟨z,t,hkey⟩:=hk y (Array.mem_toList_iff.mp hy);simp[DictEntry.refKey,hkey]
  have a':¬ es.toList.any (·.refKey)=true:=by rw[a];exact YS
  rw[if_neg a'];exact congrArg Ya e
theorem X4.look{x:Yc}(I:X4 h x dx C mA):∃od,PySem.W.InstAt h x (ip C dx) C (Ya od)/\∀name,uk name od=Ya (mA name):=
 let ⟨od,ho,hl⟩:=adO I.ns
 ⟨od,⟨I.obj,rfl,rfl,ho⟩,hl⟩
section
variable{x f:Yc}{v:Yd}
theorem ahO{expr:Bool}(X:K.In s.heap)(I:X4 s.heap x dx C mA)(hg:sF K C name=true)(hh:w8 K C=true)(ha:fR K (.ref C) name=Ya Yb)(hv:mA name=Ya v)(hv':xy v=true)(h:Q v {s with toks:=s.toks+ 1}):
  Ym (Ys prog w) A (IQ (.ref x) name expr) Q E s:=by
 obtain⟨od,J,hl⟩:=I.look;exact PySem.W.get_value X J (ui hg).1 (PySem.W.findObj_own hh ha rfl (by rw[hl,hv])) hv' h
theorem aeR{Q:Yd×List Yd->Yh->Prop}(X:K.In s.heap)(I:X4 s.heap x dx C mA)(hg:sF K C name=true)(hf:fR K (.ref C) name=Ya (Ya (.ref f)))(ht:CD K (.ref f)=true)(hv:mA name=Yb)(h:Q (.ref f,[.ref x]) s):
  Ym (Ys prog w) A (qq (.ref x) name pl) Q E s:=by
 obtain⟨od,J,hl⟩:=I.look;exact PySem.W.method_fn X J (ui hg).1 (ui hg).2 hf (beq_iff_eq.mp ht) (by show(uk name od).map (·.isSome)=Ya false;rw[hl,hv];rfl) h
theorem agZ{ns:List Yj}{Q:Unit->Yh->Prop}(X:K.In s.heap)(I:X4 s.heap x dx C mA)
  (hs:fR K (.ref C) "__setattr__"=Ya (Ya (.builtin "object.__setattr__"))) (hp:DJ K C=true) (ht:zt K C name=Ya Yb) (hh:w8 K C=true)
  (hw:Cs mA ns) (hsz:ns.length<=YB)
  (h:∀h',X4 h' x dx C (λy=>if y=name then Ya v else mA y)->eT dx s.heap h'->Q () {s with heap:=h',toks:=s.toks+ 2}):
  Ym (Ys prog w) A (setAttr (.ref x) name v) Q E s:=by
 obtain⟨od,J,hl⟩:=I.look;refine PySem.W.set_plain X J hs (PySem.W.osa_open (s:={s with toks:=s.toks+ 1}) (r:=Yb) X J hp ht λb=>?_);obtain⟨cd,hc,hd'⟩:=PySem.W.any_some hh;have hx:s.heap.get? x=Ya ⟨.ref C,Ya dx,.plain,#[]⟩:=I.obj;refine Yf (Yr (Yf (Yf (wpAny_loadPart hx (Yf (PySem.W.Looks.here (s:={s with toks:=s.toks+ 1}) (PySem.W.looks_clsIn X hc) ?_))))));rw[hd'];refine Yr (a:=Ya dx) (Yf (Yr (Yf ?_)));refine wpAny_nsSet1 (s:={s with toks:=s.toks+ 1}) I.ns λh' hn2 hs2=>?_;obtain⟨oD,esD,epD,hoD,hdD,hcD⟩:=hn2.count (PySem.Within.cons name v hw);refine Yf (wpAny_lookBehind hoD (by rw[hdD];exact pastItsLine_dict (dy hcD (by rw[YT];omega))) ?_);exact Yr (h _ ⟨(hs2.2 _ (Ne.symm I.ne)).trans I.obj,hn2,I.ne⟩ hs2)
theorem afd{R:pf->Yh->Prop}{vs:List Yd}(X:K.In s.heap)(hm:FE K C=true)(hi:fR K (.ref C) "__init__"=Ya (Ya (.ref f)))(hf:PySem.W.typeIn K (.ref f)=Ya (.type "function"))(h:de (Ys prog w) (A.under (.builtin "type.__call__" ⟨.ref C::vs,kw⟩)) (.call (.ref f) ⟨.ref (s.heap.objs.size+ 1)::vs,kw⟩) (PySem.W.InitBack (s.heap.objs.size+ 1) R)
   {s with heap:=(s.heap.push fh).push (ip C s.heap.objs.size)}):
  de (Ys prog w) A (.call (.ref C) ⟨vs,kw⟩) R s:=by
 obtain⟨hh,g,d,t,os⟩:=s;exact PySem.W.make_core (PySem.W.makes_of X hm) (PySem.W.looks_findIn X hi) (λself=>PySem.W.bind_fn X self hf) (.inl rfl) h
end
noncomputable def cU(f:Yj)(v:V):List (Yj×V)->List (Yj×V)
 |[]=>[(f,v)]
 |(g,x)::r=>if g=f then(g,v)::r else(g,x)::cU f v r
theorem J9(f g:Yj)(v:V):∀fs:List (Yj×V),(cU f v fs).lookup g=if g=f then Ya v else fs.lookup g
 |[]=>by
  show pk g [(f,v)]=_;by_cases h:g=f
  ·have hb:(g==f)=true:=beq_iff_eq.mpr h;simp only[pk,hb,if_pos h]
  ·have hb:(g==f)=false:=beq_eq_false_iff_ne.mpr h;simp only[pk,hb,if_neg h]
 |(k,x)::r=>by
  have ih:=J9 f g v r;rw[show cU f v ((k,x)::r)=(if k=f then(k,v)::r else(k,x)::cU f v r)from rfl];by_cases hk:k=f
  ·rw[if_pos hk];by_cases h:g=k
   ·have hb:(g==k)=true:=beq_iff_eq.mpr h;simp only[pk,hb,if_pos (h.trans hk)]
   ·have hb:(g==k)=false:=beq_eq_false_iff_ne.mpr h;simp only[pk,hb,if_neg (λe:g=f=>h (e.trans hk.symm))]
  ·rw[if_neg hk];by_cases h:g=k
   ·have hb:(g==k)=true:=beq_iff_eq.mpr h;simp only[pk,hb,if_neg (λe:g=f=>hk (h.symm.trans e))]
   ·have hb:(g==k)=false:=beq_eq_false_iff_ne.mpr h;simp only[pk,hb];exact ih
theorem JF(f:Yj)(v:V):∀fs:List (Yj×V),f∈(cU f v fs).map (·.1)/\∀g,g∈fs.map (·.1)->g∈(cU f v fs).map (·.1)
 |[]=>⟨by simp[cU],λg h=>by simp at h⟩
 |(k,x)::r=>by
  obtain⟨i1,i2⟩:=JF f v r;rw[show cU f v ((k,x)::r)=(if k=f then(k,v)::r else(k,x)::cU f v r)from rfl];by_cases hk:k=f
  ·rw[if_pos hk];subst hk;exact⟨by simp,λg h=>by simpa using h⟩
  ·rw[if_neg hk];refine⟨?_,λg h=>?_⟩
   ·rw[YQ];exact Yk _ i1
   ·rw[YQ]at h⊢;rcases YC.mp h with e|e
    ·exact YC.mpr (.inl e)
    ·exact Yk _ (i2 g e)
theorem Kc(f:Yj)(v:V):∀fs:List (Yj×V),(cU f v fs).length<=fs.length+ 1
 |[]=>by simp[cU]
 |(k,x)::r=>by
  have ih:=Kc f v r;rw[show cU f v ((k,x)::r)=(if k=f then(k,v)::r else(k,x)::cU f v r)from rfl];by_cases hk:k=f
  ·rw[if_pos hk,YT,YT];omega
  ·rw[if_neg hk,YT,YT];omega
theorem zE.some_of{o:Option Yd}(r:zE (Ya v) o):∃u,o=Ya u/\RelV v u:=by
 cases o with
 |none=>exact(show False from r).elim
 |some u=>exact⟨u,rfl,r⟩
theorem zE.none_of{o:Option Yd}(r:zE Yb o):o=none:=by
 cases o with
 |none=>rfl
 |some u=>exact(show False from r).elim
theorem adp(r:RelV v u):xy u=true:=by
 cases v with
 |non=>cases (show u=ij from r);rfl
 |bl b=>cases (show u=ti b from r);rfl
 |int i=>obtain⟨t,e⟩:=(show∃t,u=jS i t from r);cases e;rfl
 |str x=>obtain⟨t,e⟩:=(show∃t,u=zk x t from r);cases e;rfl
 |byt b=>obtain⟨t,e⟩:=(show∃t,u=IH b t from r);cases e;rfl
 |flt b=>obtain⟨t,e⟩:=(show∃t,u=EJ b t from r);cases e;rfl
 |ref a=>cases (show u=Y0 a from r);rfl
 |ty n=>cases (show u=jI n from r);rfl
section
variable{fs':List (Yj×V)}
theorem Ly(hok:vd P w H h)(e:H a=Ya (.ins C dx fs)):∃mA,X4 h a dx C mA/\(∀f,zE (fs.lookup f) (mA f))/\Cs mA (fs.map (·.1))/\fs.length<=1000/\H dx=Ya (.own a):=by
 obtain⟨d,z,ne,ob,mA,n,r,q⟩:=(show fc P w H h a (.ins C dx fs)from hok a _ e);exact⟨mA,⟨ob,n,ne⟩,r,q,z,d⟩
end
structure QL(K:Ye)(C:Yc):Prop where
 pg:sF K C Str.empty=true
 hd:w8 K C=true
 po:DJ K C=true
 sa:fR K (.ref C) "__setattr__"=Ya (Ya (.builtin "object.__setattr__"))
theorem QL.get(c:QL K C)(f:Yj):sF K C f=true:=c.pg
def bY(K:Ye)(C:Yc)(f:Yj):Prop:=fR K (.ref C) f=Ya Yb
theorem bY.taker{f:Yj}(n:bY K C f):zt K C f=Ya none:=by
 unfold zt;rw[show fR K (.ref C) f=Ya Yb from n];rfl
structure bU(K:Ye)(C:Yc)(m:Yj)(f:Yc):Prop where
 at_:fR K (.ref C) m=Ya (Ya (.ref f))
 fn:CD K (.ref f)=true
 kp:kP K (.ref f)=true
section
variable{f:Yj}
theorem aas{b:Bool}(I:bw X pins σ H s)(e:H a=Ya (.ins C dx fs))(c:QL X.K C)(n:bY X.K C f)(l:fs.lookup f=Ya v)(h:∀u s',bw X pins σ H s'->RelV v u->Q u s'):Ym (Ys X.prog X.w) A (IQ (.ref a) f b) Q E s:=by
 obtain⟨mA,O,r,_,_,_⟩:=Ly I.hok e;obtain⟨u,hu,ru⟩:=zE.some_of (v:=v) (o:=mA f) (by rw[←l];exact r f);exact ahO I.kIn O (c.get f) c.hd n hu (adp ru) (h u _ (I.tok _) ru)
theorem qU{g:Yc}{Q:Yd×List Yd->Yh->Prop}(I:bw X pins σ H s)(e:H a=Ya (.ins C dx fs))(c:QL X.K C)(k:bU X.K C m g)(l:fs.lookup m=Yb)(h:Q (.ref g,[.ref a]) s):Ym (Ys X.prog X.w) A (qq (.ref a) m pl) Q E s:=by
 obtain⟨mA,O,r,_,_,_⟩:=Ly I.hok e;have hn:mA m=none:=zE.none_of (by rw[←l];exact r m);exact aeR I.kIn O (c.get m) k.at_ k.fn hn h
theorem aaF{Q:Unit->Yh->Prop}(I:bw X pins σ H s)(e:H a=Ya (.ins C dx fs))(c:QL X.K C)(n:bY X.K C f)(hl:fs.length<1000)(ry:RelV y u)(h:∀s',bw X pins σ (upd H a (.ins C dx (cU f y fs))) s'->Q () s'):Ym (Ys X.prog X.w) A (setAttr (.ref a) f u) Q E s:=by
 obtain⟨mA,O,r,wi,_,ho⟩:=Ly I.hok e;have hz:(fs.map (·.1)).length<=YB:=by rw[Yi,gB];omega
 refine agZ I.kIn O c.sa c.po n.taker c.hd wi hz λh' O' sb=>h _ ?_;have hd:∃o,h'.get? dx=Ya o:=let ⟨o,_,_,e',_⟩:=O'.ns;⟨o,e'⟩;refine I.write (x:=a) (e:=dx) (by rw[e];exact fS) (.inr ho) (λb q hb z=>(sb.2 b hb).trans z) hd ?_;refine⟨by rw[aK O.ne];exact ho,?_,O.ne,O'.obj,_,O'.ns,λg=>?_,λg hg=>?_⟩
 ·have:=Kc f y fs;omega
 ·show zE ((cU f y fs).lookup g) (if g=f then Ya u else mA g);rw[J9];by_cases q:g=f
  ·rw[if_pos q,if_pos q];exact ry
  ·rw[if_neg q,if_neg q];exact r g
 ·by_cases q:g=f
  ·rw[q];exact(JF f y fs).1
  ·refine(JF f y fs).2 g (wi g λz=>hg ?_);show(if g=f then Ya u else mA g)=Yb;rw[if_neg q];exact z
theorem bw.made(I:bw X pins σ H s):bw X pins σ (upd (upd H s.heap.objs.size (.own (s.heap.objs.size+ 1))) (s.heap.objs.size+ 1) (.ins C s.heap.objs.size []))
  {s with heap:=(s.heap.push fh).push (ip C s.heap.objs.size)}:=by
 have e1:(s.heap.push fh).get? s.heap.objs.size=Ya fh:=Yq s.heap rfl;have e2:((s.heap.push fh).push (ip C s.heap.objs.size)).get? (s.heap.objs.size+ 1)=Ya (ip C s.heap.objs.size):=by
  have:=Yq (s.heap.push fh) (o:=ip C s.heap.objs.size) rfl;rwa [ff]at this
 have e3:(s.heap.push fh).Ns s.heap.objs.size (λ_=>Yb):=⟨fh,#[],_,e1,rfl,(λe he=>absurd he (by simp)),λ_=>rfl⟩;have I1:=I.laid (a:=s.heap.objs.size) (o:=.own (s.heap.objs.size+ 1)) (h':=s.heap.push fh) (t':=s.toks) (λb u q=>Yg _ q) (Yn _) ⟨_,e1⟩;refine I1.laid (a:=s.heap.objs.size+ 1) (o:=.ins C s.heap.objs.size []) (t':=s.toks) (λb u q=>Yg _ q) (kR (ff _ _)) ?_;have ne:s.heap.objs.size≠s.heap.objs.size+ 1:=YH (i8 _);refine⟨by rw[aK ne,aB],YZ _,ne,e2,λ_=>Yb,(Heap.Ns1.of_empty e3).at λo q=>Yg _ q,λ_=>fS,λy hy=>absurd rfl hy⟩
theorem ahp{f:Yj}(hb:ku e f env (aE e env)=aE e env)(h:Ym (Ys prog w) A (aE e env) (λo s₁=>Ym (Ys prog w) A (IQ o f true) Q E s₁) E s):Ym (Ys prog w) A (aE (.Attribute e f pos) env) Q E s:=
 Attribute_any_ h (by rw[arm_eval_Attribute,hb])
end
def ajB(K:Ye)(ta:TE)(f:Yj):TE:=λσ H Q=>ta σ H λx H1=>∃a C dx fs v,x=.ref a/\H1 a=Ya (.ins C dx fs)/\QL K C/\bY K C f/\fs.lookup f=Ya v/\Q v H1
def adM(K:Ye)(ta tv:TE)(f:Yj):TS:=λD σ H=>tv σ H λy H1=>ta σ H1 λx H2=>∃a C dx fs,x=.ref a/\H2 a=Ya (.ins C dx fs)/\QL K C/\bY K C f/\fs.length<1000/\
 D.nx σ (upd H2 a (.ins C dx (cU f y fs)))
section
variable{o:YY}{f:Yj}
theorem ajn(he:PE X e ta)(hb:ku e f X.env (aE e X.env)=aE e X.env):PE X (.Attribute e f pos) (ajB X.K ta f):=by
 intro pins s σ H Q I h;refine ahp hb (dN (he pins s σ H _ I h) λu s1 zz=>?_);obtain⟨x,H1,I1,rx,a,C,dx,fs,v,ex,ea,c,n,l,q⟩:=zz;subst ex;obtain rfl:u=Y0 a:=rx;exact aas I1 ea c n l λu' s2 I2 ru=>⟨v,H1,I2,ru,q⟩
theorem aki(ha:PE X o ta)(hv:PE X value tv)(hs:vk value (Ya (.Attribute o f pos')) pos.line X.env=pure false):PS X (.Assign [.Attribute o f pos'] value pos) (adM X.K ta tv f):=by
 intro pins s σ H D I h;refine plainObj_wpAny_Assign_Attribute (dN (hv pins s σ H _ I h) λu s1 zz=>?_) hs;obtain⟨y,H1,I1,ry,q⟩:=zz;refine dN (ha pins s1 σ H1 _ I1 q) λov s2 zz=>?_;obtain⟨x,H2,I2,rx,a,C,dx,fs,ex,ea,c,n,l,q2⟩:=zz;subst ex;obtain rfl:ov=Y0 a:=rx;exact aaF I2 ea c n l ry λs3 I3=>⟨σ,_,I3,q2⟩
theorem aix{args:List YY}(he:PE X e te)(I:bw X pins σ H s)(h:te σ H λx H1=>∃a C dx fs g,x=.ref a/\H1 a=Ya (.ins C dx fs)/\QL X.K C/\bU X.K C m g/\fs.lookup m=Yb/\
   ∀s1,bw X pins σ H1 s1->Ym (Ys X.prog X.w) X.A (uu pos (.ref g) [.ref a] (dE pos (YO args X.env)) (kz pos (fE [] X.env))) Q X.xe s1) (ht:aE (.Call (.Attribute e m apos) args [] pos) X.env=(do
   let ov←aE e X.env
   qV apos.atName
   let (f,first)←mi [ov] (qq ov m pl)
   uu pos f first (dE pos (YO args X.env)) (kz pos (fE [] X.env)))):
  Ym (Ys X.prog X.w) X.A (aE (.Call (.Attribute e m apos) args [] pos) X.env) Q X.xe s:=by
 refine hU (pl:=pl) (dN (he pins s σ H _ I h) λu s1 zz=>?_) ht;obtain⟨x,H1,I1,rx,a,C,dx,fs,g,ex,ea,c,k,l,q⟩:=zz;subst ex;obtain rfl:u=Y0 a:=rx;exact qU I1 ea c k l (q s1 I1)
end
section
variable{c:Yd}{b:Bool}
inductive Gx (K:Ye) (H:Hp):V->Yd->Prop where
 |non:Gx K H .non (.type "NoneType")
 |bl (x:Bool):Gx K H (.bl x) (.type "bool")
 |int (i:Int):Gx K H (.int i) (.type "int")
 |str (x:Yj):Gx K H (.str x) (.type "str")
 |flt (x:UInt64):Gx K H (.flt x) (.type "float")
 |lst {a:Yc} {xs:List V} (e:H a=Ya (.lst xs)):Gx K H (.ref a) (.type "list")
 |frz {a:Yc} {o:Y3} {xs:List V} (e:H a=Ya (.frz o (.lst xs))):Gx K H (.ref a) (.type "list")
 |tup {a:Yc} {xs:List V} (e:H a=Ya (.tup xs)):Gx K H (.ref a) (.type "tuple")
 |dK {a:Yc} {kvs:List (dC×V)} (e:H a=Ya (.dK kvs)):Gx K H (.ref a) (.type "dict")
 |dT {a:Yc} {kvs:List (List dC×V)} (e:H a=Ya (.dT kvs)):Gx K H (.ref a) (.type "dict")
 |ins {a C dx:Yc} {fs:List (Yj×V)} (e:H a=Ya (.ins C dx fs)) (cl:QL K C) (ha:fR K (.ref C) "__class__"=Ya (Ya (.builtin "object.__class__")))
   (hn:DM K (.builtin "object.__class__") "__get__"=Ya (Ya (.builtin "getset_descriptor.__get__"))) (htk:PySem.W.takesIn K (.builtin "object.__class__")=Ya true)
   (hm:PySem.W.mroIn K C (.type "object")=Ya true):Gx K H (.ref a) (.ref C)
theorem adF{x:V}{t:Yd}(I:bw X pins σ H s)(rx:RelV x u)(ty:Gx X.K H x t)(e:AN X.K t c=Ya b)(h:∀tk,Q (.bool b) {s with toks:=tk}):
  Ym (Ys X.prog X.w) A (call (.builtin "isinstance") [u,c]) Q E s:=by
 cases ty with
 |non=>cases (show u=ij from rx);exact eI PySem.W.kitx_none I.kIn fS e (λz=>nomatch z) h
 |bl y=>cases (show u=ti y from rx);exact eI PySem.W.kitx_bool I.kIn fS e (λz=>nomatch z) h
 |int i=>obtain⟨t,q⟩:=(show∃t,u=jS i t from rx);cases q;exact eI PySem.W.kitx_int I.kIn fS e (λz=>nomatch z) h
 |str y=>obtain⟨t,q⟩:=(show∃t,u=zk y t from rx);cases q;exact eI PySem.W.kitx_str I.kIn fS e (λz=>nomatch z) h
 |flt y=>obtain⟨t,q⟩:=(show∃t,u=EJ y t from rx);cases q;exact eI PySem.W.kitx_float I.kIn fS e (λz=>nomatch z) h
 |@lst a xs ea=>
  cases (show u=Y0 a from rx);obtain⟨_,_,n,_,h1⟩:=(show fc X.prog X.w H s.heap a (.lst xs)from I.hok a _ ea);exact eI DO I.kIn ⟨_,h1,rfl⟩ e (λz=>nomatch z) h
 |@frz a ob xs ea=>
  cases (show u=Y0 a from rx);obtain⟨_,_,_,n,_,h1⟩:=(show fc X.prog X.w H s.heap a (.frz ob (.lst xs))from I.hok a _ ea);exact eI DO I.kIn ⟨_,h1,rfl⟩ e (λz=>nomatch z) h
 |@tup a xs ea=>
  cases (show u=Y0 a from rx);obtain⟨_,_,_,p⟩:=(show fc X.prog X.w H s.heap a (.tup xs)from I.hok a _ ea);obtain⟨o,h1,h2,_⟩:=p;exact eI PySem.W.kitx_tuple I.kIn ⟨o,h1,h2⟩ e (λz=>nomatch z) h
 |@dK a kvs ea=>
  cases (show u=Y0 a from rx);obtain⟨_,_,vs,_,p⟩:=(show fc X.prog X.w H s.heap a (.dK kvs)from I.hok a _ ea);obtain⟨o,es,ep,h1,h2,_⟩:=p;exact eI DS I.kIn ⟨o,h1,h2.1⟩ e (λz=>nomatch z) h
 |@dT a kvs ea=>
  cases (show u=Y0 a from rx);obtain⟨_,_,xs,_,o,es,ep,h1,h2,_⟩:=(show fc X.prog X.w H s.heap a (.dT kvs)from I.hok a _ ea);exact eI DS I.kIn ⟨o,h1,h2.1⟩ e (λz=>nomatch z) h
 |@ins a C dx fs ea cl ha hn htk hm=>
  cases (show u=Y0 a from rx);obtain⟨mA,O,_⟩:=Ly I.hok ea;obtain⟨od,J,_⟩:=O.look;exact eI (PySem.W.kitx_own (cl.get _) cl.hd ha hn htk hm) I.kIn J e (λz=>nomatch z) h
end
structure eQ(k:Nat)(A:Y4):Prop where
 hd:A.handled=Yb
 dp:A.depth+ 3*k+ 5<uS
 un:A.units+ 16*k+ 200<fm
theorem eQ.mono(r:eQ k A)(h:j<=k):eQ j A:=⟨r.hd,by have:=r.dp;omega,by have:=r.un;omega⟩
theorem eQ.deeper(r:eQ (k+ 1) A)(env:l8):eQ k (A.deeper env):=
 ⟨r.hd,by have:=r.dp;show A.depth+ 1+ 3*k+ 5<_;omega,by have:=r.un;show A.units+ 3+ 16*k+ 200<_;omega⟩
theorem aam:(A.under (.builtin "type.__call__" ⟨.ref C::us,kw⟩)).depth=A.depth+ 1:=by
 first|rfl|simp[Around.under,Code.weight,Code.isCreation,Code.isGuard,Code.isCaller,Code.frames,Code.isFrame,guardIds]
theorem aa8:(A.under (.builtin "type.__call__" ⟨.ref C::us,kw⟩)).units=A.units+ 1:=by
 first|rfl|simp[Around.under,Code.cUnits,Code.frames,Code.isFrame]
theorem eQ.make(r:eQ (k+ 1) A)(C:Yc)(us:List Yd)(kw:List (Yj×Yd)):eQ k (A.under (.builtin "type.__call__" ⟨.ref C::us,kw⟩)):=
 ⟨r.hd,by have:=r.dp;rw[aam];omega,by have:=r.un;rw[aa8];omega⟩
theorem eQ.depth(r:eQ k A):A.depth<uS:=by have:=r.dp;omega
theorem eQ.units(r:eQ k A):A.units+ 64<fm:=by have:=r.un;omega
theorem eQ.units0(r:eQ k A):A.units<fm:=by have:=r.un;omega
def K7:TA:=λ_ H Q=>Q [] H
def Iz(ta:TE)(tr:TA):TA:=λσ H Q=>ta σ H λx H1=>tr σ H1 λxs H2=>Q (x::xs) H2
section
theorem ao:PA X [] K7:=λ_ _ _ _ H Q I h=>Calls.spliced_nil ⟨[],H,I,.nil,h⟩
theorem aj(ha:PE X e te)(hr:PA X es t)(hs:YO (e::es) X.env=(false,aE e X.env)::YO es X.env:=by rfl):PA X (e::es) (Iz te t):=by
 intro pos pins s σ H Q I h;rw[hs];show Ym _ _ (spliced ((false,aE e X.env)::dE pos (YO es X.env))) _ _ s;refine Calls.spliced_cons (dN (ha pins s σ H _ I h) λu s1 zz=>?_);obtain⟨x,H1,I1,r1,q1⟩:=zz;exact dN (hr pos pins s1 σ H1 _ I1 q1) λus s2 ⟨xs,H2,I2,r2,q2⟩=>⟨x::xs,H2,I2,.cons r1 r2,q2⟩
def akW(t:TA):TE:=λσ H Q=>t σ H λxs H1=>xs.length<=YB/\∀p,H1 p=Yb->Q (.ref p) (upd H1 p (.tup xs))
def alM(t:TA):TE:=λσ H Q=>t σ H λxs H1=>xs.length<=YB/\∀p,H1 p=Yb->Q (.ref p) (upd H1 p (.lst xs))
theorem eY{x1}(h:PA X es t):PE X (.Tuple es x1 pos) (akW t):=by
 intro pins s σ H Q I hq;refine wpAny_Tuple_spliced (dN (h pos pins s σ H _ I hq) λus s1 ⟨xs,H1,I1,r,z,q⟩=>⟨by rw[←r.length];exact z,?_⟩);have hf:H1 s1.heap.objs.size=none:=I1.hok.fresh (Yn _);refine⟨.ref s1.heap.objs.size,upd H1 s1.heap.objs.size (.tup xs),I1.laid (t':=s1.toks) (λb u e=>Yg _ e) (Yn _) ?_,rfl,q _ hf⟩;exact⟨z,us,r,ut.new _ _⟩
theorem eU(h:PA X es t):PE X (.List es pos) (alM t):=by
 intro pins s σ H Q I hq;refine wpAny_List_spliced (dN (h pos pins s σ H _ I hq) λus s1 ⟨xs,H1,I1,r,z,q⟩=>⟨by rw[←r.length];exact z,?_⟩);have hf:H1 s1.heap.objs.size=none:=I1.hok.fresh (Yn _);refine⟨.ref s1.heap.objs.size,upd H1 s1.heap.objs.size (.lst xs),I1.laid (t':=s1.toks) (λb u e=>Yg _ e) (Yn _) ?_,rfl,q _ hf⟩;exact⟨z,us,0,r,Yq _ rfl⟩
end
abbrev Sp:=List V->Hp->VK->XK->Prop
variable{sp:Sp}
abbrev CXT:=List l8->Hp->Yh->XK->Yd->Yh->Prop
variable{CX:CXT}
structure Te(P:YJ)(w:YV)(K:Ye)(mg:Yj->Option Yd)(base:YR)(A:Y4)(outer:List l8)(s:Yh)(H:Hp):Prop where
 frames:A.frames=Ya outer
 mod:Mod K mg base
 bs:∀b o,base.get? b=Ya o->s.heap.get? b=Ya o/\H b=Yb
 bsz:base.objs.size<=s.heap.objs.size
 funs:s.heap.FunFrames base outer
 frf:∀b∈frs outer,H b=Yb
 hok:vd P w H s.heap
 bare:sQ s.gens
def CE(outer:List l8)(P:YJ)(w:YV)(H:Hp)(s:Yh)(Q:VK)(u:Yd)(s':Yh):Prop:=
 ∃v H',s'.os=s.os/\sQ s'.gens/\Un (frs outer) [] H H' s.heap s'.heap/\vd P w H' s'.heap/\RelV v u/\Q v H'
def CR(CX:CXT)(outer:List l8)(P:YJ)(w:YV)(H:Hp)(s:Yh)(Q:VK)(E:XK)(r:pf)(s':Yh):Prop:=
 match r with
 | .ok (.ret u)=>CE outer P w H s Q u s'
 | .ok _=>False
 | .error e=>CX outer H s E e s'
structure aG(P:YJ)(w:YV)(K:Ye)(mg:Yj->Option Yd)(base:YR)(CX:CXT)(k:Nat)(f:Yc)(fd:Yt)(ps:List Yj)(sp:Sp):Prop where
 len:∀vs H Q E,sp vs H Q E->vs.length=ps.length
 run:∀(A:Y4) (outer:List l8) (s:Yh) (H:Hp) (args:Args) (us:List Yd) (vs:List V) (Q:VK) (E:XK),eQ k A->Te P w K mg base A outer s H->AO s fd args (ps.zip us)->Vals vs us->sp vs H Q E->
  de (Ys P w) A (.call (.ref f) args) (CR CX outer P w H s Q E) s
theorem aG.mono{f:Yc}(F:aG P w K mg base CX j f fd ps sp)(h:j<=k):
  aG P w K mg base CX k f fd ps sp:=⟨F.len,λA outer s H args us vs Q E hr=>F.run A outer s H args us vs Q E (hr.mono h)⟩
theorem Te.make(e:Te P w K mg base A outer s H)(C:Yc)(us:List Yd)(kw:List (Yj×Yd)):
  Te P w K mg base (A.under (.builtin "type.__call__" ⟨.ref C::us,kw⟩)) outer s H:=⟨by first|exact e.frames|(simpa [Around.under,Code.envs,Code.isFrame,pushEnvs]using e.frames),e.mod,e.bs,e.bsz,e.funs,e.frf,e.hok,e.bare⟩
section
theorem bw.env0(I:bw X pins σ H s):Te X.prog X.w X.K X.mg X.base X.A X.stack s H:=
 ⟨I.ok.frames,I.ok.mod,I.bs,dy I.ok.bsz I.sz,I.stack,I.stkFree,I.hok,I.bare⟩
theorem bw.after{Q:VK}(I:bw X pins σ H s)(h:CE X.stack X.prog X.w H s Q u s'):EP X pins σ Q u s':=by
 obtain⟨v,H',os,bare,un,hok,r,q⟩:=h;obtain⟨hh,g,d,t,os'⟩:=s';obtain rfl:os'=s.os:=os;exact⟨v,H',I.call (h':=hh) (g':=g) (d':=d) (t':=t) (ch:=[]) un hok bare (λb z=>absurd z (by simp)),r,q⟩
end
def ab5(sp:Sp)(dvs:List V)(E:XK)(t:TA):TE:=λσ H Q=>t σ H λvs H1=>sp (vs++dvs) H1 Q E
def abX(C:Yc)(m:Yj)(sp:Sp)(dvs:List V)(E:XK)(ta:TE)(t:TA):TE:=λσ H Q=>ta σ H λx H1=>∃a dx fs,x=.ref a/\H1 a=Ya (.ins C dx fs)/\fs.lookup m=Yb/\
 t σ H1 λvs H2=>sp (x::(vs++dvs)) H2 Q E
def agd(C:Yc)(sp:Sp)(dvs:List V)(E:XK)(t:TA):TE:=λσ H Q=>t σ H λvs H1=>∀x dx,H1 x=Yb->H1 dx=Yb->dx≠x->
 sp (.ref x::(vs++dvs)) (upd (upd H1 dx (.own x)) x (.ins C dx [])) (λv H2=>v=.non/\Q (.ref x) H2) E
def Binds(K:Ye)(fd:Yt)(ps:List Yj)(ds:List Yd):Prop:=
 ∀(s:Yh) (us:List Yd),K.In s.heap->(us++ds).length=ps.length->AO s fd ⟨us,[]⟩ (ps.zip (us++ds))
theorem Binds.all(h:∀us:List Yd,us.length=ps.length->BC fd ⟨us,[]⟩=pure (ps.zip us)):Binds K fd ps []:=λs us _ hl=>by
 rw[cy]at hl⊢;exact .of_eq (h us hl)
def zP(CX:CXT)(X:Cx)(E:XK):Prop:=∀(pins:List (Yc×Y3)) (σ:St) (H:Hp) (s:Yh) (e:Yd) (s':Yh),bw X pins σ H s->CX X.stack H s E e s'->X.xe e s'
section
variable{f:Yc}{dvs:List V}{ds:List Yd}{E:XK}{o:YY}
theorem Ak{Q:VK}(F:aG X.prog X.w X.K X.mg X.base CX k f fd ps sp)(hr:eQ k X.A)(hb:Binds X.K fd ps ds)(hd:Vals dvs ds)(hx:zP CX X E)(I:bw X pins σ H s)(r:Vals vs us)(h:sp (vs++dvs) H Q E):Ym (Ys X.prog X.w) X.A (call (.ref f) us) (EP X pins σ Q) X.xe s:=by
 have r2:Vals (vs++dvs) (us++ds):=r.append hd;have hl:(us++ds).length=ps.length:=by rw[←r2.length];exact F.len _ _ _ _ h
 refine BD (codeAny_mono (F.run X.A X.stack s H ⟨us,[]⟩ (us++ds) (vs++dvs) Q E hr I.env0 (hb s us I.kIn hl) r2 h) λr s' hq=>?_);cases r with
 |error e=>exact hx pins σ H s e s' I hq
 |ok fl=>
  cases fl with
  |ret u=>exact I.after hq
  |next=>exact eM hq
  |brk=>exact eM hq
  |cont=>exact eM hq
theorem ag1(F:aG X.prog X.w X.K X.mg X.base CX k f fd ps sp)(hr:eQ k X.A)(hg:Gl X x)(hm:X.mg x=Ya (.ref f))(hk:kP X.K (.ref f)=true)(hb:Binds X.K fd ps ds)(hd:Vals dvs ds)(hx:zP CX X E)
  (ha:PA X (e::es) t) (hdb:(x==("__debug__":Yj))=false:=by decide) (he:YO (e::es) X.env=(false,aE e X.env)::YO es X.env:=by rfl) (hpl:(dE pos (YO es X.env)).any (·.1)=false:=by rfl):
  PE X (.Call (.Name x p) (e::es) [] pos) (ab5 sp dvs E t):=by
 intro pins s σ H Q I h;refine eL (Gg I hg hm ?_ hdb);refine mn (h₀:=X.base) I.ok.mod.kin hk (dN (ha pos pins s σ H _ I h) λus s1 ⟨vs,H1,I1,r,q⟩=>⟨I1.kIn,?_⟩) he hpl;exact Ak F hr hb hd hx I1 r q
theorem Gq(he:PE X o ta)(c:QL X.K C)(hm:bU X.K C m f)(F:aG X.prog X.w X.K X.mg X.base CX k f fd ps sp)(hr:eQ k X.A)(hb:Binds X.K fd ps ds)(hd:Vals dvs ds)(hx:zP CX X E)(ht:aE (.Call (.Attribute o m apos) [] [] pos) X.env=(do
   let ov←aE o X.env
   qV apos.atName
   let (f,first)←mi [ov] (qq ov m pl)
   uu pos f first (dE pos (YO [] X.env)) (kz pos (fE [] X.env))):=by rfl):
  PE X (.Call (.Attribute o m apos) [] [] pos) (abX C m sp dvs E ta K7):=by
 intro pins s σ H Q I h;refine hU (pl:=pl) (dN (he pins s σ H _ I h) λu s1 zz=>?_) ht;obtain⟨x,H1,I1,rx,a,dx,fs,ex,ea,l,q⟩:=zz;subst ex;obtain rfl:u=Y0 a:=rx;refine qU I1 ea c hm l ?_;exact Cn (first:=[.ref a]) I1.kIn hm.kp (Ak (us:=[.ref a]) (vs:=[.ref a]) F hr hb hd hx I1 (.cons rfl .nil) q)
structure Mk(K:Ye)(C f:Yc):Prop where
 makes:FE K C=true
 init:fR K (.ref C) "__init__"=Ya (Ya (.ref f))
 fn:CD K (.ref f)=true
 kp:kP K (.ref C)=true
theorem ad0{Q:VK}(M:Mk X.K C f)(F:aG X.prog X.w X.K X.mg X.base CX k f fd ps sp)(hr:eQ (k+ 1) X.A)(hb:Binds X.K fd ps ds)(hd:Vals dvs ds)(hx:zP CX X E)(I:bw X pins σ H s)(r:Vals vs us)(h:∀x dx,H x=Yb->H dx=Yb->dx≠x->sp (.ref x::(vs++dvs)) (upd (upd H dx (.own x)) x (.ins C dx [])) (λv H2=>v=.non/\Q (.ref x) H2) E):
  Ym (Ys X.prog X.w) X.A (call (.ref C) us) (EP X pins σ Q) X.xe s:=by
 have hq:=h (s.heap.objs.size+ 1) s.heap.objs.size (I.hok.fresh (hZ _)) (I.hok.fresh (Yn _)) (YH (i8 _));have I2:=bw.made (C:=C) I;have r2:Vals (V.ref (s.heap.objs.size+ 1)::(vs++dvs)) (Y0 (s.heap.objs.size+ 1)::(us++ds)):=.cons rfl (r.append hd);have hl:(Y0 (s.heap.objs.size+ 1)::us++ds).length=ps.length:=by
  have e:=r2.length;rw[F.len _ _ _ _ hq]at e;exact e.symm
 refine BD (afd (f:=f) I.kIn M.makes M.init (beq_iff_eq.mp M.fn) (codeAny_mono (F.run _ X.stack _ _ ⟨Y0 (s.heap.objs.size+ 1)::us,[]⟩ (Y0 (s.heap.objs.size+ 1)::(us++ds)) _ _ E (hr.make C us [])
  (I2.env0.make C us []) (hb _ (Y0 (s.heap.objs.size+ 1)::us) I2.kIn hl) r2 hq) λr s' hq'=>?_))
 cases r with
 |error e=>exact hx pins σ _ _ e s' I2 hq'
 |ok fl=>
  cases fl with
  |ret u=>
   obtain⟨v,H',I3,rv,ev,q3⟩:=I2.after hq';subst ev;exact⟨rv,⟨V.ref (s.heap.objs.size+ 1),H',I3,rfl,q3⟩⟩
  |next=>exact eM hq'
  |brk=>exact eM hq'
  |cont=>exact eM hq'
theorem Hd(M:Mk X.K C f)(F:aG X.prog X.w X.K X.mg X.base CX k f fd ps sp)(hr:eQ (k+ 1) X.A)(hg:Gl X x)(hm:X.mg x=Ya (.ref C))(hb:Binds X.K fd ps ds)(hd:Vals dvs ds)(hx:zP CX X E)
  (ha:PA X (e::es) t) (hdb:(x==("__debug__":Yj))=false:=by decide) (he:YO (e::es) X.env=(false,aE e X.env)::YO es X.env:=by rfl) (hpl:(dE pos (YO es X.env)).any (·.1)=false:=by rfl):
  PE X (.Call (.Name x p) (e::es) [] pos) (agd C sp dvs E t):=by
 intro pins s σ H Q I h;refine eL (Gg I hg hm ?_ hdb);refine mn (h₀:=X.base) I.ok.mod.kin M.kp (dN (ha pos pins s σ H _ I h) λus s1 ⟨vs,H1,I1,r,q⟩=>⟨I1.kIn,?_⟩) he hpl;exact ad0 M F hr hb hd hx I1 r q
end
def PK(X:Cx)(kws:List DD)(t:TA):Prop:=
 ∀(pos:hJ) (pins:List (Yc×Y3)) (s:Yh) (σ:St) (H:Hp) (Q:List V->Hp->Prop),bw X pins σ H s->t σ H Q->Ym (Ys X.prog X.w) X.A (evalAll ((kz pos (fE kws X.env)).map (·.2))) (AP X pins σ Q) X.xe s
section
variable{f:Yc}{ks:List Yj}{E:XK}{kpos:hJ}{o:YY}{kws:List DD}{tk:TA}{nm:Option Yj}
theorem ai9:PK X [] K7:=λ_ _ _ _ H Q I h=>wpAny_evalAll_nil ⟨[],H,I,.nil,h⟩
theorem ahI(ha:PE X e te)(hr:PK X kws t):PK X (⟨nm,e,kpos⟩::kws) (Iz te t):=by
 intro pos pins s σ H Q I h;show Ym _ _ (evalAll ((do let v←aE e X.env;qV pos;pure v)::(kz pos (fE kws X.env)).map (·.2))) _ _ s;refine wpAny_evalAll_cons (Yf (dN (ha pins s σ H _ I h) λu s1 zz=>?_));obtain⟨x,H1,I1,r1,q1⟩:=zz;refine Yf (BU (Yr ?_));exact dN (hr pos pins s1 σ H1 _ I1 q1) λus s2 ⟨xs,H2,I2,r2,q2⟩=>⟨x::xs,H2,I2,.cons r1 r2,q2⟩
variable{g:List Yd->List Yd->List Yd}{gV:List V->List V->List V}
end
structure aD(N P:List Yj)(sc:jv):Prop where
 kind:sc.kind=.function
 co:sc.isCoroutine=false
 gen:sc.isGenerator=false
 nd:N.Nodup
 pre:N.take P.length=P
 par:∀x∈P,sc.names.lookup x=Ya .local∨sc.names.lookup x=Ya .cell
 nofree:∀y∈sc.names,y.2≠.free
theorem Rx{kindOf:Yj->Option qo}{x:Yj}:∀{binds:List (Yj×Yd)} {m:Yj->Option Yd},(∀v,(x,v)∉binds)->BE kindOf binds m x=m x
 |[],_,_=>rfl
 |(n,v)::r,m,h=>by
  unfold BE;rw[Rx λw hw=>h w (Yk _ hw)];split
  ·have:x≠n:=by rintro rfl;exact h v Yl
   simp[this]
  ·rfl
theorem Q9{kindOf:Yj->Option qo}{x:Yj}:∀{binds:List (Yj×Yd)} {m:Yj->Option Yd},(∀v,(x,v)∉binds)->BF kindOf binds m x=m x
 |[],_,_=>rfl
 |(n,v)::r,m,h=>by
  unfold BF;rw[Q9 λw hw=>h w (Yk _ hw)];split
  ·rfl
  ·have:x≠n:=by rintro rfl;exact h v Yl
   simp[this]
theorem QW{kindOf:Yj->Option qo}{x:Yj}{v:Yd}:∀{P:List Yj} {vs:List Yd} {i:Nat} {m:Yj->Option Yd},P.Nodup->P[i]?=Ya x->vs[i]?=Ya v->kindOf x=Ya .local->
  BE kindOf (P.zip vs) m x=Ya v
 |[],_,_,_,_,h,_,_=>by simp at h
 |_::_,[],_,_,_,_,h,_=>by simp at h
 |p::P,w::vs,0,m,nd,h1,h2,hk=>by
  simp at h1 h2;subst h1;subst h2;show BE kindOf ((p,w)::P.zip vs) m p=_;unfold BE;rw[Rx λv hv=>(aw.mp nd).1 (pV hv).1,if_pos hk];simp
 |p::P,w::vs,i+ 1,m,nd,h1,h2,hk=>by
  show BE kindOf ((p,w)::P.zip vs) m x=_;unfold BE;exact QW (i:=i) (aw.mp nd).2 (by simpa using h1) (by simpa using h2) hk
theorem QK{kindOf:Yj->Option qo}{x:Yj}{v:Yd}:∀{P:List Yj} {vs:List Yd} {i:Nat} {m:Yj->Option Yd},P.Nodup->P[i]?=Ya x->vs[i]?=Ya v->kindOf x≠Ya .local->
  BF kindOf (P.zip vs) m x=Ya v
 |[],_,_,_,_,h,_,_=>by simp at h
 |_::_,[],_,_,_,_,h,_=>by simp at h
 |p::P,w::vs,0,m,nd,h1,h2,hk=>by
  simp at h1 h2;subst h1;subst h2;show BF kindOf ((p,w)::P.zip vs) m p=_;unfold BF;rw[Q9 λv hv=>(aw.mp nd).1 (pV hv).1,if_neg hk];simp
 |p::P,w::vs,i+ 1,m,nd,h1,h2,hk=>by
  show BF kindOf ((p,w)::P.zip vs) m x=_;unfold BF;exact QK (i:=i) (aw.mp nd).2 (by simpa using h1) (by simpa using h2) hk
noncomputable def lX(N:List Yj)(vs:List V):St:=vs.map Ya++List.replicate (N.length-vs.length) Yb
noncomputable def RN(CX:CXT)(P:YJ)(w:YV)(K:Ye)(mg:Yj->Option Yd)(base:YR)(N:List Yj)(qual:Yj)(scope:jv)(f:Yc)(cd:Yd)(A:Y4)(outer:List l8)(s:Yh)(H:Hp)(E:XK):Cx where
 prog:=P
 w:=w
 K:=K
 mg:=mg
 base:=base
 A:=A.deeper (mv qual scope s.heap.objs.size f cd)
 N:=N
 s₀:=s
 H₀:=H
 env:=mv qual scope s.heap.objs.size f cd
 outer:=outer
 stack:=mv qual scope s.heap.objs.size f cd::outer
 ex:=[]
 calm:=true
 fn:=λ_=>true
 pn:=[]
 xe:=λe s'=>Ym (Ys P w) (A.deeper (mv qual scope s.heap.objs.size f cd)) (leaving (mv qual scope s.heap.objs.size f cd) e) (λ_ s''=>CX outer H s E e s'') (λe' s''=>CX outer H s E e' s'') s'
theorem Vc{sc:jv}(h:sc.names.lookup x=Ya .cell):∃c,(GH n sc.names []).lookup x=Ya c:=by
 have q:=As sc.names n [] (.inl h);exact Option.isSome_iff_exists.mp q
theorem adw{f:Yc}{cd:Yd}{s1:Yh}{E:XK}(S:aD N ps scope)(hd:A.handled=Yb)(e0:Te P w K mg base A outer s H)(hl:vs.length=ps.length)(r:Vals vs us)(x:InCallC s s.heap.objs.size (BE (mv qual scope s.heap.objs.size f cd).kindOf (ps.zip us) λ_=>Yb) (GH (s.heap.objs.size+ 1) scope.names []) (BF (mv qual scope s.heap.objs.size f cd).kindOf (ps.zip us) λ_=>Yb) s1):
  bw (RN CX P w K mg base N qual scope f cd A outer s H E) [] (lX N vs) H s1:=by
 have hpl:ps.length<=N.length:=by have:=congrArg EK S.pre;rw[ae]at this;omega
 obtain⟨h1,tk,rfl,hk⟩:=x.done;have noA:∀b:Yc,b∉(RN CX P w K mg base N qual scope f cd A outer s H E).ex:=λb z=>absurd (show b∈([]:List Yc)from z) (by simp);refine⟨⟨e0.mod,S.kind,rfl,rfl,Yn _,λy z c h1 h2=>?_,λy hy=>?_,λy c _ h=>?_,λ_=>hd,Around.frames_deeper e0.frames,.inr ⟨rfl,rfl⟩,λb z=>absurd z (noA b),e0.bs,e0.bsz,λb _ _=>noA b,λb z=>absurd z (noA b),e0.funs,e0.frf⟩,
  rfl,e0.bare,Un.kept hk,⟨_,x.toInCall.ns,λi y v h1 h2 h3=>?_⟩,λy c h=>⟨_,x.cell y c h⟩,e0.hok.fresh (Yn _),λy c h=>?_,λp hp=>absurd (show p∈([]:List (Yc×Y3))from hp) (by simp),e0.hok.kept hk,?_⟩
 ·exact name_of_addr x.apart (df h1) (df h2)
 ·have hy:scope.names.lookup y=Ya .cell∨scope.names.lookup y=Ya .free:=hy;rcases hy with hy|hy
  ·exact Vc hy
  ·exact absurd rfl (S.nofree _ (df hy))
 ·exact Y7 (x.above y c (df h))
 ·have hi:i<vs.length:=by
   unfold lX at h2;by_cases hi:i<vs.length
   ·exact hi
   ·rw[eW (by simpa using hi)]at h2;rw[y9]at h2;split at h2<;>cases h2
  have ha:vs[i]?=Ya v:=by
   unfold lX at h2;rw[fu (by simpa using hi),Yv]at h2;cases e:vs[i]? with
   |none=>rw[e]at h2;cases h2
   |some a=>rw[e]at h2;cases h2;rfl
  obtain⟨u,hu,rv⟩:=r.get ha;have hp:ps[i]?=Ya y:=by
   rw[←S.pre,xA (by omega)];exact h1
  have ndP:ps.Nodup:=by rw[←S.pre];exact S.nd.sublist (iP _ _)
  refine⟨u,rv,?_⟩;rcases S.par y (YE hp)with k|k
  ·exact .inl ⟨k,QW ndP hp hu k⟩
  ·obtain⟨c,e⟩:=Vc (n:=s.heap.objs.size+ 1) k;refine .inr ⟨.inl k,c,e,?_⟩;have q:=x.cell y c e;rw[QK ndP hp hu (by show scope.names.lookup y≠_;rw[k];decide)]at q;exact q
 ·exact e0.hok.fresh (Y7 (x.above y c (df h)))
 ·unfold lX;show _=N.length;rw[YG,Yi,AQ];omega
theorem aez{f:Yc}{params:CF}{dV kV doc pm cdv ct oc:Yd}{an od:Option Yc}{osl:Array (Option Yd)}(lk:K.lookup f=Ya ⟨oc,od,.func (d4 name qual params body scope dV kV doc pm an cdv ct),osl⟩)(hcd:kQ K cdv qual=true)(S:aD N ps scope)(len:∀vs H Q E,sp vs H Q E->vs.length=ps.length)(hbody:∀(A:Y4) (outer:List l8) (s:Yh) (H:Hp) (vs:List V) (Q:VK) (E:XK),eQ k (A.deeper (mv qual scope s.heap.objs.size f cdv))->sp vs H Q E->
   ∃t,XN (RN CX P w K mg base N qual scope f cdv A outer s H E) body t/\t {nx:=λ_ H'=>Q .non H',rt:=Q} (lX N vs) H):
  aG P w K mg base CX (k+ 1) f (d4 name qual params body scope dV kV doc pm an cdv ct) ps sp:=by
 refine⟨len,λA outer s H args us vs Q E hr e0 hb r hsp=>?_⟩;have hl:=len _ _ _ _ hsp;have KX:K.In s.heap:=e0.mod.kin.keeps λb o e=>(e0.bs b o e).1;have lim:s.heap.NoLimit:=e0.mod.nolimit.keeps λb o e=>(e0.bs b o e).1;have hkind:∀y∈ps.zip us,scope.names.lookup y.1=Ya .local∨(scope.names.lookup y.1=Ya .cell/\((GH (s.heap.objs.size+ 1) scope.names []).lookup y.1).isSome=true):=fun⟨n,v⟩ hy=>by
  rcases S.par n (pV hy).1 with q|q
  ·exact .inl q
  ·exact .inr ⟨q,As _ _ _ (.inl q)⟩
 refine codeAny_call_function hr.depth (KX _ _ lk) rfl S.co S.gen rfl (PySem.W.codeRec_of KX hcd) (hb _ _ _ _ ?_);refine wpAny_newFunctionEnv_cells S.kind hkind λenv he s1 x=>?_;subst he;refine⟨lim.keeps x.toInCall.keep,codeAny_func ?_⟩;obtain⟨t,ht,hq⟩:=hbody A outer s H vs Q E (hr.deeper _) hsp;have I:bw (RN CX P w K mg base N qual scope f cdv A outer s H E) [] (lX N vs) H s1:=adw S hr.hd e0 hl r x;refine ax (ht [] s1 (lX N vs) H _ I hq) (λfl s' hs=>?_) λe s' hs=>hs;have fin:∀{σ':St} {H':Hp} {v:V} {u:Yd},bw (RN CX P w K mg base N qual scope f cdv A outer s H E) [] σ' H' s'->RelV v u->Q v H'->CE outer P w H s Q u s':=
  fun{σ' H' v u} J rv q=>⟨v,H',J.os,J.bare,J.base,J.hok,rv,q⟩
 cases fl with
 |ret u=>
  obtain⟨v,σ',H',J,rv,q⟩:=hs;exact fin J rv q
 |next=>
  obtain⟨σ',H',J,q⟩:=hs;exact fin (v:=V.non) (u:=ij) J rfl q
 |brk=>
  obtain⟨_,_,_,q⟩:=hs;exact eM q
 |cont=>
  obtain⟨_,_,_,q⟩:=hs;exact eM q
section
variable{r:List V->Hp->VK->Prop}
def tCB(r:List V->Hp->VK->Prop)(t:TA):TE:=λσ H Q=>t σ H λvs H1=>r vs H1 Q
theorem cj(hc:iZ X (.builtin id) r)(hg:Gl X x)(hm:X.mg x=Yb)(hv:iq x=Ya (.builtin id))(ha:PA X (e::es) t)(hn:x≠"__name__":=by decide)(hdb:(x==("__debug__":Yj))=false:=by decide)
  (he:YO (e::es) X.env=(false,aE e X.env)::YO es X.env:=by rfl) (hpl:(dE pos (YO es X.env)).any (·.1)=false:=by rfl):PE X (.Call (.Name x p) (e::es) [] pos) (tCB r t):=by
 intro pins s σ H Q I h;refine eL (wR I hg hm hv ?_ hn hdb);exact FF (dN (ha pos pins s σ H _ I h) λus s1 ⟨vs,H1,I1,r1,q1⟩=>hc pins s1 σ H1 vs us Q I1 r1 q1) he hpl
theorem bZ(hc:iZ X (.type T) r)(hg:Gl X x)(hm:X.mg x=Yb)(hv:iq x=Ya (.type T))(ha:PA X (e::es) t)(hn:x≠"__name__":=by decide)(hdb:(x==("__debug__":Yj))=false:=by decide)
  (he:YO (e::es) X.env=(false,aE e X.env)::YO es X.env:=by rfl) (hpl:(dE pos (YO es X.env)).any (·.1)=false:=by rfl):PE X (.Call (.Name x p) (e::es) [] pos) (tCB r t):=by
 intro pins s σ H Q I h;refine eL (wR I hg hm hv ?_ hn hdb);exact vn (dN (ha pos pins s σ H _ I h) λus s1 ⟨vs,H1,I1,r1,q1⟩=>hc pins s1 σ H1 vs us Q I1 r1 q1) he hpl
end
section
variable{κ:Type}[DecidableEq κ]
noncomputable def HS(kvs:List (κ×V))(k:κ):Option V:=(kvs.find? λkv=>decide (kv.1=k)).map (·.2)
noncomputable def ql(kvs:List (κ×V))(k:κ)(v:V):List (κ×V):=
 if(kvs.any λkv=>decide (kv.1=k))=true then kvs.map (λkv=>if kv.1=k then(kv.1,v)else kv)else kvs++[(k,v)]
theorem Bb{p:κ×V}{r:List (κ×V)}{k:κ}(e:p.1=k):HS (p::r) k=Ya p.2:=by simp[HS,mw,e]
theorem zJ{p:κ×V}{r:List (κ×V)}{k:κ}(e:¬ p.1=k):HS (p::r) k=HS r k:=by simp[HS,mw,e]
theorem Vr(k:κ):∀kvs:List (κ×V),(kvs.any λkv=>decide (kv.1=k))=(HS kvs k).isSome
 |[]=>rfl
 |p::r=>by
  rw[kC];by_cases e:p.1=k
  ·simp only[Bb e,decide_eq_true e,Bool.true_or,Option.isSome_some]
  ·rw[zJ e,decide_eq_false e,iX];exact Vr k r
theorem tQ(kvs:List (κ×V))(k:κ)(v:V):(ql kvs k v).length<=kvs.length+ 1:=by
 unfold ql;split
 ·rw[Yi];omega
 ·rw[YG,YT,eJ];omega
theorem zE.isSome_eq{o:Option V}{u:Option Yd}(r:zE o u):o.isSome=u.isSome:=by
 cases o with
 |none=>cases u with
  |none=>rfl
  |some _=>exact(show False from r).elim
 |some _=>cases u with
  |none=>exact(show False from r).elim
  |some _=>rfl
theorem KV.val{kvs:List (κ×V)}{vs:List (κ×Yd)}(r:KV kvs vs)(k:κ):zE (HS kvs k) (xv vs k):=by
 unfold KV at r
 induction r with
 |nil=>exact fS
 |@cons p q ps qs h t ih=>
  obtain⟨h1,h2⟩:=h;by_cases e:p.1=k
  ·have e':q.1=k:=h1.symm.trans e;have b:xv (q::qs) k=Ya q.2:=by simp[xv,mw,e']
   rw[Bb e,b];exact h2
  ·have e':¬ q.1=k:=λz=>e (h1.trans z);have b:xv (q::qs) k=xv qs k:=by simp[xv,mw,e']
   rw[zJ e,b];exact ih
theorem KV.any{kvs:List (κ×V)}{vs:List (κ×Yd)}(r:KV kvs vs)(k:κ):(kvs.any λkv=>decide (kv.1=k))=vs.any λkv=>decide (kv.1=k):=by
 unfold KV at r
 induction r with
 |nil=>rfl
 |cons h t ih=>rw[kC,kC,ih,h.1]
theorem KV.repl{kvs:List (κ×V)}{vs:List (κ×Yd)}(r:KV kvs vs)(k:κ)(ry:RelV y u):
  KV (kvs.map λkv=>if kv.1=k then(kv.1,y)else kv) (vs.map λkv=>if kv.1=k then(kv.1,u)else kv):=by
 unfold KV at r⊢
 induction r with
 |nil=>exact .nil
 |@cons p q ps qs h t ih=>
  rw[YQ,YQ];refine .cons ?_ ih;obtain⟨h1,h2⟩:=h;by_cases e:p.1=k
  ·rw[if_pos e,if_pos (h1.symm.trans e)];exact⟨h1,ry⟩
  ·rw[if_neg e,if_neg (λz=>e (h1.trans z))];exact⟨h1,h2⟩
theorem KV.put{kvs:List (κ×V)}{vs:List (κ×Yd)}(r:KV kvs vs)(k:κ)(ry:RelV y u):KV (ql kvs k y) (stored vs k u):=by
 unfold ql stored;rw[r.any k];by_cases e:(vs.any λkv=>decide (kv.1=k))=true
 ·rw[if_pos e,if_pos e];exact r.repl k ry
 ·rw[if_neg e,if_neg e];exact sd r ⟨rfl,ry⟩
theorem KV.length{kvs:List (κ×V)}{vs:List (κ×Yd)}(r:KV kvs vs):kvs.length=vs.length:=bS r
end
theorem VG{k:dC}(r:RelV (kV k) u):(bK P w).is k u=true:=by
 cases k with
 |inl i=>obtain⟨t,e⟩:=(show∃t,u=jS i t from r);subst e;exact BL P w i t
 |inr x=>obtain⟨t,e⟩:=(show∃t,u=zk x t from r);subst e;exact XC P w x t
theorem Qu{P:YJ}{w:YV}:∀{ks:List dC} {us:List Yd},Vals (ks.map kV) us->ItemsAre (bK P w) ks us
 |[],_,r=>by rw[kT]at r;cases r;exact .nil
 |k::ks,_,r=>by
  rw[YQ]at r;cases r with
  |cons h t=>exact .cons (VG h) (Qu t)
abbrev KT(H:Hp):List (List dC×V)->List (List dC×Yc×Yd)->Prop:=d3 λp q=>p.1=q.1/\H q.2.1=Ya (.tup (p.1.map kV))/\RelV p.2 q.2.2
theorem KT.val(r:KT H kvs xs)(k:List dC):zE (HS kvs k) ((xh xs k).map (·.2)):=by
 induction r with
 |nil=>exact fS
 |@cons p q ps qs h t ih=>
  obtain⟨h1,_,h2⟩:=h;by_cases e:p.1=k
  ·have e':q.1=k:=h1.symm.trans e;have b:xh (q::qs) k=Ya q.2:=by simp[xh,mw,e']
   rw[Bb e,b];exact h2
  ·have e':¬ q.1=k:=λz=>e (h1.trans z);have b:xh (q::qs) k=xh qs k:=by simp[xh,mw,e']
   rw[zJ e,b];exact ih
theorem KT.repl(r:KT H kvs xs)(k:List dC)(ry:RelV y u):
  KT H (kvs.map λkv=>if kv.1=k then(kv.1,y)else kv) (xs.map (putAt k u)):=by
 induction r with
 |nil=>exact .nil
 |@cons p q ps qs h t ih=>
  rw[YQ,YQ];refine .cons ?_ ih;obtain⟨h1,h2,h3⟩:=h;unfold putAt;by_cases e:p.1=k
  ·rw[if_pos e,if_pos (h1.symm.trans e)];exact⟨h1,h2,ry⟩
  ·rw[if_neg e,if_neg (λz=>e (h1.trans z))];exact⟨h1,h2,h3⟩
theorem KT.put(r:KT H kvs xs)(k:List dC)(hb:H b=Ya (.tup (k.map kV)))(ry:RelV y u):
  KT H (ql kvs k y) (ny xs k b u):=by
 have e:(kvs.any λkv=>decide (kv.1=k))=(xh xs k).isSome:=by
  rw[Vr,(r.val k).isSome_eq,DU]
 unfold ql ny;rw[e];by_cases q:(xh xs k).isSome=true
 ·rw[if_pos q,if_pos q];exact r.repl k ry
 ·rw[if_neg q,if_neg q];exact sd r ⟨rfl,hb,ry⟩
theorem KT.keeps(r:KT H kvs xs)(ht:∀b ys,H b=Ya (.tup ys)->H' b=Ya (.tup ys)):KT H' kvs xs:=
 d3.mapP r λ_ _ z=>⟨z.1,ht _ _ z.2.1,z.2.2⟩
section
theorem aim{u:HO}(ok:vd P w H h)(e:Rd H a u):fc P w H h a u:=e.ok ok
theorem Ax{kvs:List (dC×V)}(ok:vd P w H h)(e:Rd H a (.dK kvs)):kvs.length<=YB/\(a==ee)=false/\∃vs,KV kvs vs/\h.DictOf (bK P w) a vs:=
 show fc P w H h a (.dK kvs)from aim ok e
theorem W8{kvs:List (dC×V)}(ok:vd P w H h)(e:H a=Ya (.dK kvs)):kvs.length<=YB/\(a==ee)=false/\∃vs,KV kvs vs/\h.DictOf (bK P w) a vs:=Ax ok (.inl e)
theorem key_of{ks:List dC}(ok:vd P w H h)(e:H a=Ya (.tup (ks.map kV))):(j1 (bK P w)).is h ks a:=by
 obtain⟨_,its,r,o,h1,h2,n,h3⟩:=(show fc P w H h a (.tup (ks.map kV))from ok a _ e);exact⟨o,its.toArray,n,h1,h2,h3.1,by simpa using Qu r⟩
theorem Rw(ok:vd P w H h)(e:Rd H a (.dT kvs)):kvs.length<=YB/\(a==ee)=false/\
  ∃xs,KT H kvs xs/\h.DictOfH (j1 (bK P w)) a xs:=by
 obtain⟨z,y,xs,r,o,es,ep,h1,h2,h3,h4,h5⟩:=(show fc P w H h a (.dT kvs)from aim ok e);refine⟨z,y,xs,r,o,es,ep,h1,h2,h3,h4,λx hx=>?_,h5⟩;have all:∀{l:List (List dC×V)} {m:List (List dC×Yc×Yd)},KT H l m->∀x∈m,(j1 (bK P w)).is h x.1 x.2.1:=by
  intro l m q
  induction q with
  |nil=>intro x hx;exact nomatch hx
  |@cons p q ps qs hq t ih=>
   intro x hx;rcases YC.mp hx with e|hx
   ·subst e;exact key_of ok (by rw[←hq.1];exact hq.2.1)
   ·exact ih x hx
 exact all r x hx
theorem amx(ok:vd P w H h)(e:H a=Ya (.dT kvs)):kvs.length<=YB/\(a==ee)=false/\
  ∃xs,KT H kvs xs/\h.DictOfH (j1 (bK P w)) a xs:=Rw ok (.inl e)
end
def TX(H:Hp)(a:Yc)(y:V)(r:Option V):Prop:=
 (∃kvs k,Rd H a (.dK kvs)/\y=kV k/\r=HS kvs k)∨∃kvs k b,Rd H a (.dT kvs)/\y=.ref b/\H b=Ya (.tup (k.map kV))/\r=HS kvs k
def agx(H:Hp)(a:Yc)(y v:V)(H':Hp):Prop:=
 (∃kvs k,H a=Ya (.dK kvs)/\y=kV k/\kvs.length<YB/\H'=upd H a (.dK (ql kvs k v)))∨
 ∃kvs k b,H a=Ya (.dT kvs)/\y=.ref b/\H b=Ya (.tup (k.map kV))/\kvs.length<YB/\H'=upd H a (.dT (ql kvs k v))
section
variable{r:Yd}{o:Option V}
theorem bw.big(I:bw X pins σ H s):ee<s.heap.objs.size:=by
 have h:Y1<s.heap.objs.size:=(I.mod.glob.keeps I.bk).lt;exact xB (by decide) h
theorem adi(hu:A.units+ 1<fm)(I:bw X pins σ H s)(g:TX H a y (Ya v))(ry:RelV y u)(h:∀w' s',bw X pins σ H s'->RelV v w'->Q w' s'):
  Ym (Ys X.prog X.w) A (u3 (.ref a) u) Q E s:=by
 rcases g with⟨kvs,k,e,ey,l⟩|⟨kvs,k,b,e,ey,eb,l⟩
 ·subst ey;obtain⟨z,hd,vs,rel,dd⟩:=Ax I.hok e;obtain⟨w',hw,rw'⟩:=zE.some_of (v:=v) (o:=xv vs k) (by rw[l];exact rel.val k);exact wpAny_getItem_of (VG ry) dd.mapOf hw (h w' _ (I.tok _) rw')
 ·subst ey;cases (show u=Y0 b from ry);obtain⟨z,hd,xs,rel,dd⟩:=Rw I.hok e;obtain⟨w',hw,rw'⟩:=zE.some_of (v:=v) (o:=(xh xs k).map (·.2)) (by rw[l];exact rel.val k);obtain⟨p,hp,hp2⟩:=ah.mp hw;refine wpAny_getItem_heap (vt hu) (key_of I.hok eb) dd hp ?_;rw[hp2];exact h w' _ (I.tok _) rw'
theorem anD(hu:A.units+ 1<fm)(I:bw X pins σ H s)(g:TX H a y o)(ry:RelV y u)(h:∀s',bw X pins σ H s'->Q (.bool o.isSome) s'):
  Ym (Ys X.prog X.w) A (bX .In u (.ref a)) Q E s:=by
 rcases g with⟨kvs,k,e,ey,l⟩|⟨kvs,k,b,e,ey,eb,l⟩
 ·subst ey;obtain⟨z,hd,vs,rel,dd⟩:=Ax I.hok e;refine wpAny_in_of (VG ry) hd dd.mapOf ?_;rw[←(rel.val k).isSome_eq,←l];exact h _ (I.tok _)
 ·subst ey;cases (show u=Y0 b from ry);obtain⟨z,hd,xs,rel,dd⟩:=Rw I.hok e;refine wpAny_in_heap (vt hu) (key_of I.hok eb) hd dd ?_;have q:=(rel.val k).isSome_eq;rw[DU]at q;rw[←q,←l];exact h _ (I.tok _)
theorem Tu{ob:HO}(I:bw X pins σ H s)(mu:Mut (H a))(hs:eT a s.heap h')(he:∃q,h'.get? a=Ya q)(new:fc X.prog X.w (upd H a ob) h' a ob):
  bw X pins σ (upd H a ob) {s with heap:=h',toks:=t'}:=
 I.write (x:=a) (e:=a) mu (.inl rfl) (λb q hb z=>(hs.2 b hb).trans z) he new
theorem Su{kvs:List (dC×V)}{vs:List (dC×Yd)}(z:kvs.length<=YB)(hd:(a==ee)=false)(rel:KV kvs vs)(dd:h'.DictOf (bK P w) a vs):
  fc P w H' h' a (.dK kvs):=⟨z,hd,vs,rel,dd⟩
theorem acF{Q:Unit->Yh->Prop}(hu:A.units+ 1<fm)(I:bw X pins σ H s)(g:agx H a y v H')(ry:RelV y u)(rv:RelV v r)(h:∀s',bw X pins σ H' s'->Q () s'):
  Ym (Ys X.prog X.w) A (setItem (.ref a) u r) Q E s:=by
 rcases g with⟨kvs,k,e,ey,l,eH⟩|⟨kvs,k,b,e,ey,eb,l,eH⟩
 ·subst ey eH;obtain⟨z,hd,vs,rel,dd⟩:=W8 I.hok e;have hz:vs.length<=YB:=by rw[←rel.length];exact z
  have hl:(ql kvs k v).length<=YB:=by have:=tQ kvs k v;omega
  refine wpAny_setItem_pairs (hsz:=hz) (VG ry) dd λh' dd' hs=>h _ ?_;have he:∃q,h'.get? a=Ya q:=let ⟨q,_,_,hq,_⟩:=dd';⟨q,hq⟩;exact Tu I (by rw[e];exact fS) hs he (Su hl hd (rel.put k rv) dd')
 ·subst ey eH;cases (show u=Y0 b from ry);obtain⟨z,hd,xs,rel,dd⟩:=amx I.hok e;have hz:xs.length<=YB:=by rw[←bS rel];exact z
  have hl:(ql kvs k v).length<=YB:=by have:=tQ kvs k v;omega
  refine wpAny_setItem_heap (hsz:=hz) (vt hu) (key_of I.hok eb) dd λh' dd' hs=>h _ ?_;obtain⟨q,es,ep,hq,h2,h3,h4,_,h5⟩:=dd';refine Tu I (by rw[e];exact fS) hs ⟨q,hq⟩ ⟨hl,hd,_,(rel.put k eb rv).keeps λc ys ec=>?_,q,es,ep,hq,h2,h3,h4,h5⟩;rw[aK (bj ec e (λz=>nomatch z))];exact ec
end
section
variable{kvs:List (dC×V)}{k:dC}
end
def alN(i:YY):Prop:=∀ov iv,Au i false ov iv=IS [ov,iv] (u3 ov iv)
theorem ag4{slice:YY}(hl:BG (.type T) "__getitem__"=pure (Ya (.builtin id)))(hs:alN slice)(h:Ym (Ys prog w) A (aE value env) (λo s₁=>Ym (Ys prog w) A (aE slice env) (λi s₂=>s₂.TypeIs o T/\Ym (Ys prog w) A (u3 o i) Q E s₂) E s₁) E s):
  Ym (Ys prog w) A (aE (.Subscript value slice pos) env) Q E s:=by
 refine FG (ax h (λo s₁ h₁=>ax h₁ (λi s₂ h₂=>?_) λ_ _ x=>x) λ_ _ x=>x);obtain⟨hT,h₂⟩:=h₂;unfold BY;refine Yf ?_;rw[getitemInPython_of_ne hT.not_modules];refine Yf (FH hT hl ?_);have fin:Ym (Ys prog w) A (Au slice false o i) (λr s₃=>Ym (Ys prog w) A (letTemporaryGo value o r >>= λ_=>pure r) Q E s₃) E s₂:=by
  rw[hs o i];exact wpAny_operating (ax h₂ (λr s₃ h₃=>Yf (wpAny_letTemporaryGo (Yr h₃))) λ_ _ x=>x)
 first
  |exact Yr (Yf fin)
  |exact Yf (Yr (Yf fin))
  |exact Yf fin
theorem W4{o:Option V}(I:bw X pins σ H s)(g:TX H a y o):s.TypeIs (.ref a) "dict":=by
 rcases g with⟨kvs,k,e,_,_⟩|⟨kvs,k,b,e,_,_,_⟩
 ·obtain⟨_,_,vs,_,dd⟩:=Ax I.hok e;exact dd.typeIs
 ·obtain⟨_,_,xs,_,dd⟩:=Rw I.hok e;exact dd.typeIs
def aiy(td ty:TE):TE:=λσ H Q=>td σ H λx H1=>ty σ H1 λy H2=>∃a v,x=.ref a/\TX H2 a y (Ya v)/\Q v H2
def alV(ty td:TE):TE:=λσ H Q=>ty σ H λy H1=>td σ H1 λx H2=>∃a o,x=.ref a/\TX H2 a y o/\Q (.bl o.isSome) H2
def aiJ(td ty tv:TE):TS:=λD σ H=>tv σ H λv H1=>td σ H1 λx H2=>ty σ H2 λy H3=>∃a H4,x=.ref a/\agx H3 a y v H4/\D.nx σ H4
section
variable{o i:YY}
theorem abj(hu:X.A.units+ 1<fm)(ho:PE X o td)(hi:PE X i ty)(hs:alN i):PE X (.Subscript o i pos) (aiy td ty):=by
 intro pins s σ H Q I h;refine ag4 PySem.F.slot_dict_getitem.lookup hs (dN (ho pins s σ H _ I h) λu s1 zz=>?_);obtain⟨x,H1,I1,rx,q1⟩:=zz;refine dN (hi pins s1 σ H1 _ I1 q1) λiv s2 zz=>?_;obtain⟨y,H2,I2,ry,a,v,ex,g,q2⟩:=zz;subst ex;obtain rfl:u=Y0 a:=rx;exact⟨W4 I2 g,adi hu I2 g ry λw' s3 I3 rw'=>⟨v,H2,I3,rw',q2⟩⟩
theorem aj4(hu:X.A.units+ 1<fm)(hi:PE X i ty)(ho:PE X o td):PC X .In i o (alV ty td):=by
 intro pins s σ H Q I h;refine dN (hi pins s σ H _ I h) λiv s1 zz=>?_;obtain⟨y,H1,I1,ry,q1⟩:=zz;refine dN (ho pins s1 σ H1 _ I1 q1) λu s2 zz=>?_;obtain⟨x,H2,I2,rx,a,ov,ex,g,q2⟩:=zz;subst ex;obtain rfl:u=Y0 a:=rx;exact anD hu I2 g ry λs3 I3=>⟨.bl ov.isSome,H2,I3,rfl,q2⟩
theorem ab7(hu:X.A.units+ 1<fm)(ho:PE X o td)(hi:PE X i ty)(hv:PE X value tv)(hs:vk value (Ya (.Subscript o i pos')) pos.line X.env=pure false):
  PS X (.Assign [.Subscript o i pos'] value pos) (aiJ td ty tv):=by
 intro pins s σ H D I h;refine wpAny_Assign_Subscript (dN (hv pins s σ H _ I h) λr s1 zz=>?_) hs;obtain⟨v,H1,I1,rv,q1⟩:=zz;refine dN (ho pins s1 σ H1 _ I1 q1) λu s2 zz=>?_;obtain⟨x,H2,I2,rx,q2⟩:=zz;refine dN (hi pins s2 σ H2 _ I2 q2) λiv s3 zz=>?_;obtain⟨y,H3,I3,ry,a,H4,ex,g,q3⟩:=zz;subst ex;obtain rfl:u=Y0 a:=rx;exact acF hu I3 g ry rv λs4 I4=>⟨σ,H4,I4,q3⟩
end
theorem Wk(h:YR)(hb:ee<h.objs.size):fc P w H (h.push {cls:=.type "dict",data:=.dict #[]}) h.objs.size (.dK []):=
 ⟨YZ _,beq_eq_false_iff_ne.mpr (Ne.symm (YH hb)),[],.nil,Heap.DictOf.new h⟩
theorem af8(h:YR)(hb:ee<h.objs.size):fc P w H (h.push {cls:=.type "dict",data:=.dict #[]}) h.objs.size (.dT []):=
 ⟨YZ _,beq_eq_false_iff_ne.mpr (Ne.symm (YH hb)),[],.nil,_,#[],0,Yq _ rfl,⟨rfl,rfl,rfl⟩,rfl,rfl,AR⟩
def af4:TE:=λ_ H Q=>∀p,H p=Yb->Q (.ref p) (upd H p (.dK []))
def akN:TE:=λ_ H Q=>∀p,H p=Yb->Q (.ref p) (upd H p (.dT []))
section
theorem sG:PE X (.Dict [] [] pos) af4:=λpins s σ H Q I h=>
 EO ⟨.ref s.heap.objs.size,_,I.laid (a:=s.heap.objs.size) (o:=.dK []) (t':=s.toks) (λ_ _ q=>Yg _ q) (Yn _) (Wk s.heap I.big),rfl,h _ (I.hok.fresh (Yn _))⟩
theorem WY:PE X (.Dict [] [] pos) akN:=λpins s σ H Q I h=>
 EO ⟨.ref s.heap.objs.size,_,I.laid (a:=s.heap.objs.size) (o:=.dT []) (t':=s.toks) (λ_ _ q=>Yg _ q) (Yn _) (af8 s.heap I.big),rfl,h _ (I.hok.fresh (Yn _))⟩
end
def aa3:List (TE×TE)->St->Hp->(List (V×V)->Hp->Prop)->Prop
 |[],_,H,Q=>Q [] H
 |(tk,tv)::r,σ,H,Q=>tk σ H λx H1=>tv σ H1 λy H2=>aa3 r σ H2 λps H3=>Q ((x,y)::ps) H3
abbrev VV:List (V×V)->List (Yd×Yd)->Prop:=d3 λp q=>RelV p.1 q.1/\RelV p.2 q.2
def PPs(X:Cx)(pos:hJ)(keys:List (Option YY))(values:List YY)(trs:List (TE×TE)):Prop:=
 ∀(pins:List (Yc×Y3)) (s:Yh) (σ:St) (H:Hp) (Q:List (V×V)->Hp->Prop),bw X pins σ H s->aa3 trs σ H Q->
  Ym (Ys X.prog X.w) X.A (evalPairs (pairTrees keys values X.env pos)) (λvs s'=>∃ps H',bw X pins σ H' s'/\VV ps vs/\Q ps H') X.xe s
theorem ahN:PPs X pos [] [] []:=λpins s σ H Q I h=>pairTrees_nil_walk ⟨[],H,I,.nil,h⟩
theorem afk{k v:YY}{ks:List (Option YY)}{vs:List YY}{tk:TE}(hk:PE X k tk)(hv:PE X v tv)(hr:PPs X pos ks vs trs):
  PPs X pos (Ya k::ks) (v::vs) ((tk,tv)::trs):=λpins s σ H Q I h=>
 pairTrees_cons_walk (dN (hk pins s σ H _ I h) λu s1 ⟨x,H1,I1,rx,q1⟩=>dN (hv pins s1 σ H1 _ I1 q1) λw2 s2 ⟨y,H2,I2,ry,q2⟩=>
  dN (hr pins s2 σ H2 _ I2 q2) λws s3 ⟨ps,H3,I3,rel,q3⟩=>⟨(x,y)::ps,H3,I3,.cons ⟨rx,ry⟩ rel,q3⟩)
noncomputable def lF(kvs more:List (dC×V)):List (dC×V):=more.foldl (λacc kv=>ql acc kv.1 kv.2) kvs
theorem KV.merge:∀{more:List (dC×V)} {rs:List (dC×Yd)} {kvs:List (dC×V)} {vs:List (dC×Yd)},KV more rs->KV kvs vs->KV (lF kvs more) (xC vs rs):=by
 intro more rs kvs vs r;unfold KV at r
 induction r generalizing kvs vs with
 |nil=>intro q;exact q
 |@cons p q ps qs h t ih=>
  intro r0;have e:KV (ql kvs p.1 p.2) (stored vs q.1 q.2):=by
   have:=r0.put p.1 h.2;rw[←h.1];exact this
  exact ih e
theorem DN:∀(more kvs:List (dC×V)),(lF kvs more).length<=kvs.length+ more.length
 |[],kvs=>by show kvs.length<=kvs.length+ 0;omega
 |p::r,kvs=>by
  have h1:=DN r (ql kvs p.1 p.2);have h2:=tQ kvs p.1 p.2;show(lF (ql kvs p.1 p.2) r).length<=_;rw[YT];omega
theorem Ni{P:YJ}{w:YV}:∀{kvs:List (dC×V)} {ws:List (Yd×Yd)},VV (kvs.map λkv=>(kV kv.1,kv.2)) ws->∃rs,Carries (bK P w) ws rs/\KV kvs rs
 |[],_,r=>by rw[kT]at r;cases r;exact⟨[],fS,.nil⟩
 |p::kvs,_,r=>by
  rw[YQ]at r;cases r with
  |@cons a b as bs h t=>
   obtain⟨rs,c,q⟩:=Ni (P:=P) (w:=w) t;obtain⟨b1,b2⟩:=b;exact⟨(p.1,b2)::rs,⟨VG h.1,rfl,c⟩,.cons ⟨rfl,h.2⟩ q⟩
def aiw(trs:List (TE×TE)):TE:=λσ H Q=>∀p,H p=Yb->aa3 trs σ (upd H p (.dK [])) λps H2=>H2 p=Ya (.dK [])/\∃kvs:List (dC×V),ps=kvs.map (λkv=>(kV kv.1,kv.2))/\kvs.length<=15/\Q (.ref p) (upd H2 p (.dK (lF [] kvs)))
theorem aho{keys:List (Option YY)}{values:List YY}(h:PPs X pos keys values trs)(hall:keys.all (·.isSome)=true)(hl:keys.length=values.length)(h0:keys≠[])(h15:keys.length<=15):PE X (.Dict keys values pos) (aiw trs):=by
 intro pins s σ H Q I q;have hn:=I.hok.fresh (Yn s.heap.objs.size);have I1:=I.laid (a:=s.heap.objs.size) (o:=.dK []) (h':=s.heap.push {cls:=.type "dict",data:=.dict #[]}) (t':=s.toks) (λ_ _ q=>Yg _ q) (Yn _) (Wk s.heap I.big);refine wpAny_Dict_walk (knd:=bK X.prog X.w) hall hl h0 h15 (dN (h pins _ σ _ _ I1 (q _ hn)) λws s2 zz=>?_);obtain⟨ps,H2,I2,rel,e,kvs,ep,lk,q2⟩:=zz;subst ep;obtain⟨rs,c,rk⟩:=Ni (P:=X.prog) (w:=X.w) rel;obtain⟨z,hd,vs0,r0,dd⟩:=W8 I2.hok e;cases r0;refine⟨rs,c,dd,λh' dd' hs=>⟨.ref s.heap.objs.size,_,?_,rfl,q2⟩⟩;have hz:(lF [] kvs).length<=YB:=by
  have h1:=DN kvs [];rw[eJ]at h1;rw[gB];omega
 have he:∃q,h'.get? s.heap.objs.size=Ya q:=let ⟨q,_,_,hq,_⟩:=dd';⟨q,hq⟩;exact Tu I2 (by rw[e];exact fS) hs he (Su hz hd (rk.merge .nil) dd')
section
variable{d:V}{r:Yd}{o:Option V}
end
section
variable{o f:YY}{cpos:hJ}{tx:TE}
end
section
variable{kvs:List (dC×V)}
end
section
end
end L2
namespace HT
open PySem PyProof.Rows
variable{b t sl:Yc}{items:Array Yd}{Q:Yd->Yh->Prop}{vl vu:Yd}{lo hi:Option Int}
noncomputable def eE:List Int->List Int->Bool
 |[],[]=>false
 |[],_::_=>true
 |_::_,[]=>false
 |x::xs,y::ys=>if x=y then eE xs ys else decide (x<y)
theorem jU(x y:Int)(xs ys:List Int):eE (x::xs) (y::ys)=if x=y then eE xs ys else decide (x<y):=rfl
theorem uH:eE [] []=false:=rfl
theorem Ac(y:Int)(ys:List Int):eE [] (y::ys)=true:=rfl
theorem zf(x:Int)(xs:List Int):eE (x::xs) []=false:=rfl
theorem WP(A:Y4)(s:Yh)(a:Int)(t:l7)(c:Int)(u:l7):∃e,SeqAt.EqAt A s (.int a t) (.int c u) e/\(e=true↔a=c):=
 ⟨(a==c),SeqAt.EqAt.int_int a t c u,by simp⟩
theorem aeM(A:Y4)(s:Yh)(a:Int)(t:l7)(c:Int)(u:l7)(prog:YJ)(w:YV)(E:Yd->Yh->Prop)(Q:Yd->Yh->Prop)(h:Q (.bool (decide (a<c))) s):
  Ym (Ys prog w) A (vc .Lt (.int a t) (.int c u)) Q E s:=
 (FA h:Ym (Ys prog w) A (bX .Lt (.int a t) (.int c u)) Q E s)
section
open PySem.SeqAt
open PySem.AutoSeq1 (wpAny_loadPart')
open PySem.MeetsSeq PySem.MeetsSeq2 PySem.MeetsSeq3
theorem Qk(l b:Yc)(items items2:Array Yd)(n n2:Nat)(dd dd2:Option Yc)(sl sl2:Array (Option Yd))(ns ms:List Int)(hi:bg items.toList ns)(hj:bg items2.toList ms):
  ox (cg.«tuple.__lt__» ⟨[.ref l,.ref b],[]⟩)
   (λ_ R s=>s.heap.get? l=Ya {cls:=.type "tuple",dict:=dd,data:=.seq items n,slots:=sl}/\s.heap.get? b=Ya {cls:=.type "tuple",dict:=dd2,data:=.seq items2 n2,slots:=sl2}/\
    R (.ok (.ret (.bool (eE ns ms)))) s):=
 .of_wp λprog w A R s h=>by
  obtain⟨hp,g,d,tk,os⟩:=s;obtain⟨hl,hb,h⟩:=h;have f2:=AutoSeq1.sub_tuple_tuple;have z1:items.size=ns.length:=by rw[←hi.length];simp
  have z2:items2.size=ms.length:=by rw[←hj.length];simp
  wp_walk using tF hl,tF hb,ER _ (λrest b s'=>b.1=Yb/\s'=⟨hp,g,d,tk,os⟩/\∃(vs ws:List Yd) (ns' ms':List Int),rest=vs.zip ws/\
   bg vs ns'/\bg ws ms'/\ns'.length+ items2.size=ms'.length+ items.size/\R (.ok (.ret (.bool (eE ns' ms')))) ⟨hp,g,d,tk,os⟩) _
  case turn=>
   rintro⟨y,x⟩ rest b s' ⟨hb',rfl,vs,ws,ns',ms',hz,hvi,hwi,hlen,hR⟩;cases hvi with
   |nil=>rw[DV]at hz;cases hz
   |cons a t hvi'=>
    cases hwi with
    |nil=>rw[CH]at hz;cases hz
    |cons c u hwi'=>
     rw[qr]at hz;injection hz with hyx hrest;injection hyx with hy hx;subst hy hx;rw[jU]at hR;simp only[YT]at hlen;obtain⟨e,he,hiff⟩:=WP A.in1 ⟨hp,g,d,tk,os⟩ a t c u;refine Yf (he prog w _ _ ?_);cases e with
     |true=>
      rw[if_pos (hiff.mp rfl)]at hR
      wp_walk
      exact⟨rfl,rfl,_,_,_,_,hrest,hvi',hwi',by omega,hR⟩
     |false=>
      rw[if_neg (λq=>absurd (hiff.mpr q) YS)]at hR;have hri:=aeM A.in1 ⟨hp,g,d,tk,os⟩ a t c u prog w
      wp_walk using hri
      exact⟨_,rfl,by simpa using hR⟩
  case fin=>
   rintro⟨b1,b2⟩ s' ⟨hb',rfl,vs,ws,ns',ms',hz,hvi,hwi,hlen,hR⟩;simp only at hb';subst hb';have hv:eE ns' ms'=decide (items.size<items2.size):=by
    cases hvi with
    |nil=>
     cases hwi with
     |nil=>
      simp only[eJ]at hlen;rw[uH];exact(decide_eq_false (by omega)).symm
     |cons c u hw=>
      simp only[eJ,YT]at hlen;rw[Ac];exact(decide_eq_true (by omega)).symm
    |cons a t hv=>
     cases hwi with
     |nil=>
      simp only[eJ,YT]at hlen;rw[zf];exact(decide_eq_false (by omega)).symm
     |cons c u hw=>
      rw[qr]at hz;cases hz
   rw[hv]at hR
   wp_walk
   exact⟨_,rfl,by simpa [sZ]using hR⟩
  case h=>
   exact⟨rfl,rfl,items.toList,items2.toList,ns,ms,rfl,hi,hj,by omega,h⟩
end
section
variable{prog:YJ}{w:YV}{A:Y4}{E:Yd->Yh->Prop}{s:Yh}
theorem abi{l:Yc}{items2:Array Yd}{ns ms:List Int}(hl:zo s.heap l items)(hb:zo s.heap b items2)(hi:bg items.toList ns)(hj:bg items2.toList ms)(hu:A.units<fm)(h:Q (.bool (eE ns ms)) s):Ym (Ys prog w) A (bX .Lt (.ref l) (.ref b)) Q E s:=by
 obtain⟨⟨cls,dd,data,sl⟩,ho,hc,n,hd⟩:=id hl;obtain⟨⟨cls2,dd2,data2,sl2⟩,ho2,hc2,n2,hd2⟩:=id hb;simp only at hc hd hc2 hd2;subst hc hd hc2 hd2;exact AA (op:=.Lt) ⟨_,ho,rfl⟩ ⟨_,ho2,rfl⟩ PySem.F.slot_tuple_lt PySem.F.entry_tuple_lt (PySem.F.args_tuple_lt_2 _ _) (Qk l b items items2 n n2 dd dd2 sl sl2 ns ms hi hj)
  ⟨ho,ho2,show ti (eE ns ms)≠BH/\Q (.bool (eE ns ms)) s from⟨(λx=>nomatch x),h⟩⟩ hu
theorem agX{vs ws:List Yd}(ht:zo s.heap t vs.toArray)(hb:zo s.heap b ws.toArray)(hv:vs≠[])(h1:ws=[]->Q (.ref t) s)(h2:ws≠[]->Q (.ref s.heap.objs.size) {s with heap:=s.heap.push {cls:=.type "tuple",data:=.seq (vs++ws).toArray}})(hsz:vs.length+ ws.length<=YB):Ym (Ys prog w) A (i7 .Add (.ref t) (.ref b)) Q E s:=by
 obtain⟨⟨cls,dd,data,sl⟩,ho,hc,n,hd⟩:=id ht;obtain⟨⟨cls2,dd2,data2,sl2⟩,ho2,hc2,n2,hd2⟩:=id hb;simp only at hc hd hc2 hd2;subst hc hd hc2 hd2;have e:vs.toArray++ws.toArray=(vs++ws).toArray:=by simp
 by_cases hw:ws=[]
 ·exact CI ⟨_,ho,rfl⟩ ⟨_,ho2,rfl⟩ xD B0 se rS (qv _ _)
   (tuple_addW1 t b vs.toArray ws.toArray n n2 dd dd2 sl sl2 (by simpa using hv) (by simp[hw])) ⟨ho,ho2,h1 hw⟩
 ·refine CI ⟨_,ho,rfl⟩ ⟨_,ho2,rfl⟩ xD B0 se rS (qv _ _)
   (tuple_addW2 t b vs.toArray ws.toArray n n2 dd dd2 sl sl2 (by simpa using hv) (by simpa using hw) (by rw[Yx,Yx];exact hsz)) ⟨ho,ho2,?_⟩
  rw[e];exact h2 hw
noncomputable def lN(n d:Nat):Option Int->Nat
 |none=>d
 |some v=>if v<0 then(v+ (n:Int)).toNat else min v.toNat n
theorem aj3(n d:Nat)(hd:d<=n)(o:Option Int):lN n d o<=n:=by
 cases o with
 |none=>exact hd
 |some v=>
  show(if v<0 then(v+ (n:Int)).toNat else min v.toNat n)<=n;by_cases hv:v<0
  ·rw[if_pos hv];omega
  ·rw[if_neg hv];exact Nat.min_le_right _ _
theorem ab8(v:Int)(n d:Nat):(if v<0 then max (v+ (n:Int)) 0 else min v (n:Int))=((lN n d (Ya v):Nat):Int):=by
 show(if v<0 then max (v+ (n:Int)) 0 else min v (n:Int))=(((if v<0 then(v+ (n:Int)).toNat else min v.toNat n):Nat):Int);by_cases hv:v<0
 ·simp only[if_pos hv];omega
 ·simp only[if_neg hv];omega
theorem aaH(lo hi:Option Int)(n:Nat):qc lo hi 1 (n:Int)=(((lN n 0 lo:Nat):Int),((lN n n hi:Nat):Int)):=by
 have h1:¬ ((1:Int)<0):=by omega
 unfold qc;simp only[h1,if_false];refine Prod.ext ?_ ?_
 ·cases lo with
  |none=>rfl
  |some v=>exact ab8 v n 0
 ·cases hi with
  |none=>rfl
  |some v=>exact ab8 v n n
theorem aaz(i j:Nat):kK (i:Int) (j:Int) 1=j-i:=by
 unfold kK;have h1:(1:Int)>0:=by omega
 simp only[h1,if_true,Int.ediv_one];split<;>omega
theorem O4{v:Yd}{o:Option Int}{Q:Option Int->Yh->Prop}(p:xE v o)(h:Q o s):Ym (Ys prog w) A (F3 v) Q E s:=by
 cases p with
 |none=>exact F4 h
 |int i t=>exact slicePart_int h
theorem Js{n:Nat}{Q:Int×Int×Nat->Yh->Prop}(hs:s.heap.IsSliceOf sl vl vu .none)(pl:xE vl lo)(pu:xE vu hi)(h:Q (((lN n 0 lo:Nat):Int),1,lN n n hi-lN n 0 lo) s):Ym (Ys prog w) A (vF (.ref sl) (pure (n:Int))) Q E s:=by
 obtain⟨os,hos,hcs,hds⟩:=id hs;unfold vF HU;refine Yf (Yf (sf hos hds (x:=vl) rfl (Yf (sf hos hds (x:=vu) rfl (Yf (sf hos hds (x:=.none) rfl (Yr ?_)))))));refine Yf (F4 ?_);show Ym _ _ (if((1:Int)==0)=true then _ else _) _ _ s;rw[if_neg (by decide)];refine Yf (O4 pl (Yf (O4 pu (Yf (Yr ?_)))));show Ym _ _ (match qc lo hi 1 (n:Int)with|(lo,hi)=>pure (lo,(1:Int),kK lo hi 1)) _ _ s;rw[aaH lo hi n];show Ym _ _ (pure (((lN n 0 lo:Nat):Int),(1:Int),kK ((lN n 0 lo:Nat):Int) ((lN n n hi:Nat):Int) 1)) _ _ s;rw[aaz];exact Yr h
theorem ae4(xs:Array Yd)(i k:Nat):((cS k).filterMap fun(m:Nat)=>xs[((i:Int)+ (m:Int)*1).toNat]?).toArray=((xs.toList.drop i).take k).toArray:=by
 have e:(fun(m:Nat)=>xs[((i:Int)+ (m:Int)*1).toNat]?)=λm=>xs[i+ m]?:=by
  funext m;have:((i:Int)+ (m:Int)*1).toNat=i+ m:=by omega
  rw[this]
 rw[e];have:=pick_run xs i k;rw[List.filterMap_map]at this;have e2:((λx=>xs[x]?)∘λx=>i+ x)=λm=>xs[i+ m]?:=rfl;rw[e2]at this;rw[this]
theorem Gb(ht:zo s.heap t items)(hs:s.heap.IsSliceOf sl vl vu .none)(pl:xE vl lo)(pu:xE vu hi)(hw:¬ (lN items.size 0 lo=0/\lN items.size items.size hi=items.size))(h:Q (.ref s.heap.objs.size) {s with heap:=s.heap.push {cls:=.type "tuple",data:=.seq ((items.toList.drop (lN items.size 0 lo)).take (lN items.size items.size hi-lN items.size 0 lo)).toArray}})(hsz:items.size<=YB):Ym (Ys prog w) A (u3 (.ref t) (.ref sl)) Q E s:=by
 have htake:sizeOk (.seq ((items.toList.drop (lN items.size 0 lo)).take (lN items.size items.size hi-lN items.size 0 lo)).toArray):=by
  show((items.toList.drop (lN items.size 0 lo)).take (lN items.size items.size hi-lN items.size 0 lo)).toArray.size<=YB;rw[Yx,ae,oy,aT];omega
 have hj:lN items.size items.size hi<=items.size:=aj3 _ _ (Yn _) hi;obtain⟨os,hos,hcs,hds⟩:=id hs;have hTs:s.TypeIs (.ref sl) "slice":=⟨os,hos,hcs⟩;unfold u3
 try with_reducible refine e8 ?_
 first|refine Yf (Yr ?_)|skip
 refine Yf (wpAny_sequenceKey ht.typeIs (by decide) ?_);refine Yf (i0 (name:=af "__getitem__") ht.typeIs js
  (hG js ht.typeIs entry_tuple_getitem ?_ (args_tuple_getitem _ _)))
 show Ym _ _ (GU (.ref t) >>= _) _ _ s;refine Yf (tupleItemsOf_ ht ?_);refine Yf (CL hTs ?_);rw[if_pos (by decide)];refine Yf (Js hs pl pu ?_);have hno:¬ ((((lN items.size 0 lo:Nat):Int)==0&&(1:Int)==1&&(lN items.size items.size hi-lN items.size 0 lo)==items.size)=true):=by
  intro q;rw[fy,fy]at q;have q1:((lN items.size 0 lo:Nat):Int)=0:=eq_of_beq q.1.1;have q2:lN items.size items.size hi-lN items.size 0 lo=items.size:=eq_of_beq q.2;exact hw ⟨by omega,by omega⟩
 show Ym _ _ (if(((lN items.size 0 lo:Nat):Int)==0&&(1:Int)==1&&(lN items.size items.size hi-lN items.size 0 lo)==items.size)=true then _ else _) _ _ s;rw[if_neg hno,ae4]
 first
  |exact Yf (m:=kU _) (el (Yr ⟨_,rfl,Yr h⟩) htake)
  |exact Yf (m:=kU _) (el (Yf (Yr (Yr ⟨_,rfl,Yr h⟩))) htake)
  |exact Yf (Yf (m:=kU _) (el (Yr (Yr ⟨_,rfl,Yr h⟩)) htake))
  |exact Yf (Yf (m:=kU _) (el (Yr ⟨_,rfl,Yr h⟩) htake))
end
end HT
namespace L2
open PySem PySem.Spec PyProof.Rows
variable{X:Cx}{e:YY}{pos:hJ}{xs:List V}{n j t':Nat}{i:Int}{pins:List (Yc×Y3)}{σ:St}{H:Hp}{s:Yh}{T:String}{its:List Yd}
abbrev TO:=St->Hp->(Option Int->Hp->Prop)->Prop
def PO(X:Cx)(e:Option YY)(t:TO):Prop:=
 ∀(pins:List (Yc×Y3)) (s:Yh) (σ:St) (H:Hp) (Q:Option Int->Hp->Prop),bw X pins σ H s->t σ H Q->
  Ym (Ys X.prog X.w) X.A (evalPart e X.env) (λu s'=>∃o H',bw X pins σ H' s'/\xE u o/\Q o H') X.xe s
def abo:TO:=λ_ H Q=>Q Yb H
def aiz(t:TE):TO:=λσ H Q=>t σ H λx H1=>∃i,x=.int i/\Q (Ya i) H1
theorem mj{ns:List Int}:∀{us:List Yd},Vals (ns.map V.int) us->bg us ns:=by
 induction ns with
 |nil=>intro us r;rw[kT]at r;cases r;exact .nil
 |cons n ns ih=>
  intro us r;rw[YQ]at r;cases r with
  |cons r1 r2=>
   obtain⟨t,e⟩:=r1;subst e;exact .cons n t (ih r2)
section
variable{te:TE}{lo hi:Option YY}{tl th:TO}{p2:hJ}
theorem xG:PO X Yb abo:=by
 intro pins s σ H Q I h;rw[GV];exact Yr ⟨Yb,H,I,.none,h⟩
theorem kW(h:PE X e te):PO X (Ya e) (aiz te):=by
 intro pins s σ H Q I hw;rw[evalPart_some];refine dN (h pins s σ H _ I hw) λu s1 zz=>?_;obtain⟨x,H1,I1,r1,q1⟩:=zz;obtain⟨i,rfl,q⟩:=q1;obtain⟨t,rfl⟩:=r1;exact⟨Ya i,H1,I1,.int i t,q⟩
def SlR(X:Cx)(r:V->Option Int->Option Int->Hp->VK->Prop):Prop:=
 ∀(pins:List (Yc×Y3)) (s:Yh) (σ:St) (H:Hp) (x:V) (v vl vu:Yd) (lo hi:Option Int) (sl:Yc) (Q:VK),bw X pins σ H s->RelV x v->s.heap.IsSliceOf sl vl vu .none->xE vl lo->xE vu hi->r x lo hi H Q->
  ∃T id,BG (.type T) "__getitem__"=pure (Ya (.builtin id))/\s.TypeIs v T/\Ym (Ys X.prog X.w) X.A (u3 v (.ref sl)) (EP X pins σ Q) X.xe s
def tSl(r:V->Option Int->Option Int->Hp->VK->Prop)(te:TE)(tl th:TO):TE:=λσ H Q=>te σ H λx H1=>tl σ H1 λl H2=>th σ H2 λu H3=>r x l u H3 Q
theorem lK{r:V->Option Int->Option Int->Hp->VK->Prop}(hr:SlR X r)(he:PE X e te)(hl:PO X lo tl)(hu:PO X hi th):PE X (.Subscript e (.Slice lo hi Yb p2) pos) (tSl r te tl th):=by
 intro pins s σ H Q I h;refine FG (dN (he pins s σ H _ I h) λv s1 zz=>?_);obtain⟨x,H1,I1,r1,q1⟩:=zz;refine wpAny_Slice (dN (hl pins s1 σ H1 _ I1 q1) λvl s2 zz=>?_);obtain⟨l,H2,I2,pl,q2⟩:=zz;refine dN (hu pins s2 σ H2 _ I2 q2) λvu s3 zz=>?_;obtain⟨u,H3,I3,pu,q3⟩:=zz;rw[GV];refine Yr ?_;have I4:bw X pins σ H3 {s3 with heap:=s3.heap.push {cls:=.type "slice",data:=.fields #[vl,vu,.none]}}:=I3.kept (t':=s3.toks) λb ob q=>Yg _ q;obtain⟨T,id,hT,ht,hg⟩:=hr pins {s3 with heap:=s3.heap.push {cls:=.type "slice",data:=.fields #[vl,vu,.none]}} σ H3 x v vl vu l u s3.heap.objs.size Q I4 r1 (Heap.IsSliceOf.new ..) pl pu q3;show Ym (Ys X.prog X.w) X.A (BY e (.Slice lo hi Yb p2) v (.ref s3.heap.objs.size)) (EP X pins σ Q) X.xe {s3 with heap:=s3.heap.push {cls:=.type "slice",data:=.fields #[vl,vu,.none]}};exact tail_any (ops:=[.ref s3.heap.objs.size,v]) ht hT hg (by with_unfolding_all rfl)
noncomputable def FJ(xs:List V)(lo hi:Option Int):List V:=(xs.drop (HT.lN xs.length 0 lo)).take (HT.lN xs.length xs.length hi-HT.lN xs.length 0 lo)
theorem J2(xs:List V)(lo hi:Option Int):(FJ xs lo hi).length<=xs.length:=by
 unfold FJ;rw[ae,oy];omega
def ajt(K:Ye):V->Option Int->Option Int->Hp->VK->Prop:=λx lo hi H Q=>∃a xs,x=.ref a/\cN K H a xs/\
 ¬ (HT.lN xs.length 0 lo=0/\HT.lN xs.length xs.length hi=xs.length)/\∀p,H p=Yb->Q (.ref p) (upd H p (.tup (FJ xs lo hi)))
theorem ajp:SlR X (ajt X.K):=by
 intro pins s σ H x v vl vu lo hi sl Q I rx hs pl pu h;obtain⟨a,xs,rfl,hx,hw,q⟩:=h;cases rx;obtain⟨its,r,ht,hz⟩:=I.tuple hx;have hlen:its.toArray.size=xs.length:=by rw[Yx];exact r.length.symm
 refine⟨"tuple",_,js.lookup,ht.typeIs,?_⟩;refine HT.Gb ht hs pl pu (by rw[hlen];exact hw) ?_ (by rw[hlen];exact hz);rw[hlen];refine⟨.ref s.heap.objs.size,_,I.laid (t':=s.toks) (o:=.tup (FJ xs lo hi)) (λb ob q=>Yg _ q) (Yn _) ?_,rfl,q _ (I.hok.fresh (Yn _))⟩;exact⟨dy (J2 xs lo hi) hz,_,(r.drop (HT.lN xs.length 0 lo)).take (HT.lN xs.length xs.length hi-HT.lN xs.length 0 lo),ut.new _ _⟩
def amy(K:Ye):R2:=λx y H Q=>∃a b xs ys,x=.ref a/\y=.ref b/\cN K H a xs/\cN K H b ys/\xs≠[]/\xs.length+ ys.length<=YB/\
 (ys=[]->Q (.ref a) H)/\(ys≠[]->∀p,H p=Yb->Q (.ref p) (upd H p (.tup (xs++ys))))
theorem Vals.nil_iff{us:List Yd}(r:Vals xs us):us=[]↔xs=[]:=by
 cases r with
 |nil=>simp
 |cons _ _=>simp
theorem ahn:yV X (i7 .Add) (amy X.K):=by
 intro pins s σ H x y v u Q I rx ry h;obtain⟨a,b,xs,ys,rfl,rfl,ha,hb,hx,hz,q1,q2⟩:=h;cases rx;cases ry;obtain⟨its,r1,p1,_⟩:=I.tuple ha;obtain⟨its2,r2,p2,_⟩:=I.tuple hb;refine HT.agX p1 p2 (λz=>hx (r1.nil_iff.mp z)) (λz=>⟨.ref a,H,I,rfl,q1 (r2.nil_iff.mp z)⟩) (λz=>?_) (by rw[←r1.length,←r2.length];exact hz);refine⟨.ref s.heap.objs.size,_,I.laid (t':=s.toks) (o:=.tup (xs++ys)) (λb ob q=>Yg _ q) (Yn _) ?_,rfl,q2 (λw=>z (r2.nil_iff.mpr w)) _ (I.hok.fresh (Yn _))⟩;exact⟨by rw[YG];exact hz,_,r1.append r2,ut.new _ _⟩
end
noncomputable def ixN(n:Nat)(i:Int):Option Nat:=if 0<=i then(if i<n then Ya i.toNat else Yb)else if-(n:Int)<=i then Ya (i+ n).toNat else Yb
noncomputable def lH{α:Type}(xs:List α)(i:Int):Option α:=(ixN xs.length i).bind λj=>xs[j]?
theorem ah9(h:ixN n i=Ya j):seqIndex? i n=Ya j/\j<n/\-(n:Int)<=i/\i<n:=by
 unfold ixN at h;by_cases h0:0<=i
 ·rw[if_pos h0]at h;by_cases h1:i<n
  ·rw[if_pos h1]at h;have e:i.toNat=j:=YL h;exact⟨by rw[seqIndex_of h0 h1,e],by omega,by omega,h1⟩
  ·rw[if_neg h1]at h;cases h
 ·rw[if_neg h0]at h;by_cases h1:-(n:Int)<=i
  ·rw[if_pos h1]at h;have e:(i+ n).toNat=j:=YL h;exact⟨by rw[Ic (by omega) h1,e],by omega,h1,by omega⟩
  ·rw[if_neg h1]at h;cases h
theorem abq{α:Type}{xs:List α}{v:α}(h:lH xs i=Ya v):∃j,seqIndex? i xs.length=Ya j/\xs[j]?=Ya v/\j<xs.length/\-(xs.length:Int)<=i/\i<xs.length:=by
 unfold lH at h;cases e:ixN xs.length i with
 |none=>rw[e]at h;cases h
 |some j=>
  rw[e]at h;obtain⟨h1,h2,h3,h4⟩:=ah9 e;exact⟨j,h1,h,h2,h3,h4⟩
theorem cO{α:Type}{xs:List α}{v:α}(h:xs[j]?=Ya v):lH xs (j:Int)=Ya v:=by
 have hj:j<xs.length:=(Yp.mp h).1;have e:ixN xs.length (j:Int)=Ya j:=by
  unfold ixN;rw[if_pos (by omega),if_pos (by omega)];simp
 unfold lH;rw[e];exact h
def ahE(b:YY):Prop:=∀o i,Au b false o i=IS [o,i] (u3 o i)
def IxR(X:Cx)(r:R2):Prop:=
 ∀(value slice:YY) (pins:List (Yc×Y3)) (s:Yh) (σ:St) (H:Hp) (x y:V) (v u:Yd) (Q:VK),bw X pins σ H s->RelV x v->RelV y u->r x y H Q->
  Au slice false v u=IS [v,u] (u3 v u)->Ym (Ys X.prog X.w) X.A (BY value slice v u) (EP X pins σ Q) X.xe s
def MtR(X:Cx)(id:String)(r:V->List V->Hp->VK->Prop):Prop:=
 ∀(pins:List (Yc×Y3)) (s:Yh) (σ:St) (H:Hp) (x:V) (xs:List V) (v:Yd) (us:List Yd) (Q:VK),bw X pins σ H s->RelV x v->Vals xs us->r x xs H Q->
  Ym (Ys X.prog X.w) X.A (call (.builtin id) (v::us)) (EP X pins σ Q) X.xe s
section
variable{a b:YY}{ta tb:TE}
theorem bf{r:R2}(hr:IxR X r)(ha:PE X a ta)(hb:PE X b tb)(hs:ahE b):PE X (.Subscript a b pos) (tOp r ta tb):=by
 intro pins s σ H Q I h;exact FG (aku ha hb I h λv u s2 x y H2 I2 rx ry q=>hr a b pins s2 σ H2 x y v u Q I2 rx ry q (hs _ _))
def af2(K:Ye):R2:=λx y H Q=>∃p xs i v,x=.ref p/\y=.int i/\bI K H p xs/\lH xs i=Ya v/\Q v H
def ajK(K:Ye):R2:=λx y H Q=>∃p xs i v,x=.ref p/\y=.int i/\cN K H p xs/\lH xs i=Ya v/\Q v H
theorem ahX:IxR X (af2 X.K):=by
 intro value slice pins s σ H x y v u Q I rx ry h hs;obtain⟨p,xs,i,z,rfl,rfl,hq,he,q⟩:=h;cases rx;obtain⟨t,rfl⟩:=ry;obtain⟨its,r,pl,hz⟩:=I.list hq;obtain⟨j,h1,h2,h3,h4,h5⟩:=abq he;obtain⟨w,ew,rw'⟩:=r.get h2;have hl:=r.length;have hn:=Nq;have fin:EP X pins σ Q w s:=⟨z,H,I,rw',q⟩;by_cases h0:0<=i
 ·have hj:i.toNat=j:=by
   rw[seqIndex_of h0 h5]at h1;exact YL h1
  exact item_listR pl.isList h0 (by omega) (by rw[hj];simpa using ew) fin hs
 ·have hj:(i+ (its.toArray.size:Int)).toNat=j:=by
   rw[Ic (by omega) h4]at h1;rw[Yx,←hl];exact YL h1
  exact AB (x:=w) pl.isList.typeIs DZ.lookup
   (wpAny_getItem_list_neg (Q:=λr s'=>r=w/\EP X pins σ Q r s') pl.isList (by omega) (by rw[Yx]<;>omega) (by omega) (by rw[hj];simpa using ew) ⟨rfl,fin⟩) hs
theorem ai4:IxR X (ajK X.K):=by
 intro value slice pins s σ H x y v u Q I rx ry h hs;obtain⟨p,xs,i,z,rfl,rfl,hq,he,q⟩:=h;cases rx;obtain⟨t,rfl⟩:=ry;obtain⟨its,r,pl,hz⟩:=I.tuple hq;obtain⟨j,h1,h2,h3,h4,h5⟩:=abq he;obtain⟨w,ew,rw'⟩:=r.get h2;have hl:=r.length;have hn:=Nq;have fin:EP X pins σ Q w s:=⟨z,H,I,rw',q⟩;exact AB (x:=w) pl.typeIs js.lookup
  (getItem_tuple (j:=j) (Q:=λr s'=>r=w/\EP X pins σ Q r s') pl (by omega) (by omega) (by rw[Yx,←hl];exact h1) (by simpa using ew) ⟨rfl,fin⟩) hs
theorem RJ(lo hi:Option Int)(n:Nat):(px lo hi Yb n).1=((HT.lN n 0 lo:Nat):Int)/\(px lo hi Yb n).2.1=((HT.lN n n hi:Nat):Int)/\(px lo hi Yb n).2.2=1:=by
 refine⟨?_,?_,rfl⟩
 ·cases lo with
  |none=>simp[px,HT.lN]
  |some i=>
   simp only[px,HT.lN,ES,show(1:Int)>0 by decide,if_true];by_cases h:i<0
   ·simp only[h,if_true]<;>omega
   ·simp only[h,if_false]<;>omega
 ·cases hi with
  |none=>simp[px,HT.lN]
  |some i=>
   simp only[px,HT.lN,ES,show(1:Int)>0 by decide,if_true];by_cases h:i<0
   ·simp only[h,if_true]<;>omega
   ·simp only[h,if_false]<;>omega
theorem Pk(its:List Yd)(lo hi:Option Int):slicePick its.toArray lo hi Yb=((its.drop (HT.lN its.length 0 lo)).take (HT.lN its.length its.length hi-HT.lN its.length 0 lo)).toArray:=by
 obtain⟨h1,h2,h3⟩:=RJ lo hi its.toArray.size;unfold slicePick;rw[h1,h2,h3];simp only[sliceRange_one,pick_run,Yx]<;>rfl
def ajU(K:Ye):V->Option Int->Option Int->Hp->VK->Prop:=λx lo hi H Q=>∃a xs,x=.ref a/\bI K H a xs/\∀p,H p=Yb->Q (.ref p) (upd H p (.lst (FJ xs lo hi)))
theorem agF:SlR X (ajU X.K):=by
 intro pins s σ H x v vl vu lo hi sl Q I rx hs pl pu h;obtain⟨a,xs,rfl,hx,q⟩:=h;cases rx;obtain⟨its,r,ht,hz⟩:=I.list hx;have hlen:=r.length;refine⟨"list",_,DZ.lookup,ht.isList.typeIs,?_⟩;refine wpAny_getItem_list_slice ht.isList hs pl pu .none (by simp) ?_ (by rw[Yx]<;>omega);rw[Pk,←hlen];refine⟨.ref s.heap.objs.size,_,I.laid (t':=s.toks) (o:=.lst (FJ xs lo hi)) (λb ob q=>Yg _ q) (Yn _) ?_,rfl,q _ (I.hok.fresh (Yn _))⟩;exact⟨dy (J2 xs lo hi) hz,_,0,(r.drop (HT.lN xs.length 0 lo)).take (HT.lN xs.length xs.length hi-HT.lN xs.length 0 lo),Yq _ rfl⟩
theorem Sh:iZ X (.builtin "len") (λxs H Q=>∃p ys,xs=[.ref p]/\(bI X.K H p ys∨cN X.K H p ys)/\Q (.int ys.length) H):=by
 intro pins s σ H xs us Q I r h;obtain⟨p,ys,rfl,hq,q⟩:=h;obtain⟨u,rfl,rx⟩:=j0 r;cases rx;have hn:=Nq;rcases hq with hq|hq
 ·obtain⟨its,r',pl,hz⟩:=I.list hq;have hlen:=r'.length;exact Calls.call_len_list pl.isList (by simp only[Yx]<;>omega) ⟨.int ys.length,H,I.tok _,⟨s.toks+ 1,by rw[Yx,hlen]⟩,q⟩
 ·obtain⟨its,r',pl,hz⟩:=I.tuple hq;have hlen:=r'.length;exact len_tuple pl (by simp only[Yx]<;>omega) ⟨.int ys.length,H,I.tok _,⟨s.toks+ 1,by rw[Yx,hlen]⟩,q⟩
theorem Uo:iZ X (.type "list") (λxs H Q=>∃p ys,xs=[.ref p]/\(bI X.K H p ys∨cN X.K H p ys)/\∀l,H l=Yb->Q (.ref l) (upd H l (.lst ys))):=by
 intro pins s σ H xs us Q I r h;obtain⟨p,ys,rfl,hq,q⟩:=h;obtain⟨u,rfl,rx⟩:=j0 r;cases rx;have fin:∀(its:List Yd),Vals ys its->ys.length<=YB->∀(h':YR) (c':Nat),(∀b o',s.heap.get? b=Ya o'->h'.get? b=Ya o')->
   h'.get? s.heap.objs.size=Ya {cls:=.type "list",dict:=Yb,data:=.seq its.toArray c',slots:=#[]}->EP X pins σ Q (.ref s.heap.objs.size) {s with heap:=h'}:=λits r' hz h' c' kp e=>
  ⟨.ref s.heap.objs.size,_,I.laid (t':=s.toks) kp (Yn _) (show fc X.prog X.w _ h' _ (.lst ys)from⟨hz,its,c',r',e⟩),rfl,q _ (I.hok.fresh (Yn _))⟩
 rcases hq with hq|hq
 ·obtain⟨its,r',pl,hz⟩:=I.list hq;have hlen:=r'.length;obtain⟨o,ho,hc,n,hd⟩:=pl.isList;exact GW p (.inl rfl) ho hc hd (λh' c' kp e=>fin its r' hz h' c' kp e) (by simp only[Yx]<;>omega)
 ·obtain⟨its,r',pl,hz⟩:=I.tuple hq;have hlen:=r'.length;obtain⟨o,ho,hc,n,hd⟩:=pl;exact GW p (.inr rfl) ho hc hd (λh' c' kp e=>fin its r' hz h' c' kp e) (by simp only[Yx]<;>omega)
theorem Py:iZ X (.type "tuple") (λxs H Q=>∃p ys,xs=[.ref p]/\((bI X.K H p ys/\∀l,H l=Yb->Q (.ref l) (upd H l (.tup ys)))∨(cN X.K H p ys/\Q (.ref p) H))):=by
 intro pins s σ H xs us Q I r h;obtain⟨p,ys,rfl,h⟩:=h;obtain⟨u,rfl,rx⟩:=j0 r;cases rx;rcases h with⟨hq,q⟩|⟨hq,q⟩
 ·obtain⟨its,r',pl,hz⟩:=I.list hq;have hlen:=r'.length;refine call_tuple_list pl.isList (λh' kp=>?_) (by simp only[Yx]<;>omega);have I1:bw X pins σ H {s with heap:=h'}:=I.kept (t':=s.toks) kp;have I2:bw X pins σ (upd H h'.objs.size (.tup ys)) {s with heap:=h'.push {cls:=.type "tuple",data:=.seq its.toArray}}:=
   I1.laid (t':=s.toks) (λb o e=>Yg _ e) (Yn _) (show fc X.prog X.w _ _ _ (.tup ys)from⟨hz,its,r',ut.new _ _⟩)
  exact⟨.ref h'.objs.size,_,I2,rfl,q _ (I1.hok.fresh (Yn _))⟩
 ·obtain⟨its,r',pl,hz⟩:=I.tuple hq;exact call_tuple_same pl ⟨.ref p,H,I,rfl,q⟩
def tyV(K:Ye)(T:String)(x:V)(H:Hp):Prop:=match x with
 | .str _=>T="str"
 | .int _=>T="int"
 | .ref p=>(T="list"/\∃xs,bI K H p xs)∨(T="tuple"/\∃o,K.lookup p=Ya o/\o.cls=.type "tuple"/\o.dict=Yb)∨
   (T="dict"/\((∃kvs,H p=Ya (.dK kvs))∨∃kvs,H p=Ya (.dT kvs)))∨(T="set"/\∃S n,H p=Ya (.set S n))
 |_=>False
theorem Jp{x:V}{v:Yd}(I:bw X pins σ H s)(r:RelV x v)(ty:tyV X.K T x H):
  s.TypeIs v T/\∀a,v=.ref a->∃ob,s.heap.get? a=Ya ob/\ob.dict=none:=by
 cases x with
 |str z=>
  obtain⟨t,rfl⟩:=r;cases (show T="str"from ty);exact⟨typeIs_str s z t,λ_ e=>nomatch e⟩
 |int i=>
  obtain⟨t,rfl⟩:=r;cases (show T="int"from ty);exact⟨typeIs_int s i t,λ_ e=>nomatch e⟩
 |ref p=>
  cases r;rcases ty with⟨rfl,xs,hq⟩|⟨rfl,o,hk,hc,hd⟩|⟨rfl,hk⟩|⟨rfl,S,n,hk⟩
  ·obtain⟨its,_,pl,_⟩:=I.list hq;refine⟨pl.isList.typeIs,λa e=>?_⟩;cases e;obtain⟨o,n,e,c,hd,_⟩:=pl;exact⟨o,e,hd⟩
  ·refine⟨⟨o,I.kIn p o hk,hc⟩,λa e=>?_⟩;cases e;exact⟨o,I.kIn _ o hk,hd⟩
  ·have z:∃o,s.heap.get? p=Ya o/\o.ExactDict:=by
    rcases hk with⟨kvs,hk⟩|⟨kvs,hk⟩
    ·obtain⟨_,_,_,_,o,_,_,e,ex,_⟩:=I.hok p _ hk;exact⟨o,e,ex⟩
    ·obtain⟨_,_,_,_,o,_,_,e,ex,_⟩:=I.hok p _ hk;exact⟨o,e,ex⟩
   obtain⟨o,e,ex⟩:=z;refine⟨⟨o,e,ex.1⟩,λa e2=>?_⟩;cases e2;exact⟨o,e,ex.2.1⟩
  ·obtain⟨o,_,_,_,e,ex,_⟩:=I.hok p _ hk;refine⟨⟨o,e,ex.1⟩,λa e2=>?_⟩;cases e2;exact⟨o,e,ex.2.1⟩
 |_=>exact eM ty
def alO(K:Ye)(T:String)(r:V->List V->Hp->VK->Prop)(to:TE):TE:=λσ H Q=>to σ H λx H1=>tyV K T x H1/\r x [] H1 Q
def tBM(K:Ye)(T:String)(r:V->List V->Hp->VK->Prop)(to:TE)(t:TA):TE:=λσ H Q=>to σ H λx H1=>tyV K T x H1/\t σ H1 λxs H2=>r x xs H2 Q
variable{o:YY}{es:List YY}{to:TE}{t:TA}{name:Yj}{apos cpos:hJ}{id:String}{r:V->List V->Hp->VK->Prop}
theorem RQ(pa:PlainAttrs T)(slot:Iq T name id)(hty:typeOf (.builtin id)=pure (.type "method_descriptor"))(hm:MtR X id r)(ho:PE X o to)
  (hbase:ku o name X.env (aE o X.env)=aE o X.env:=by rfl) (hline:(apos.endLine==cpos.line)=true:=by rfl):PE X (.Call (.Attribute o name apos) [] [] cpos) (alO X.K T r to):=by
 intro pins s σ H Q I h;refine md hbase hline (dN (ho pins s σ H _ I h) λv s1 zz=>?_);obtain⟨x,H1,I1,r1,ty,q1⟩:=zz;obtain⟨h1,h2⟩:=Jp I1 r1 ty;exact⟨T,id,pa,slot,hty,h1,h2,jJ rfl (pS (hm pins s1 σ H1 x [] v [] Q I1 r1 .nil q1))⟩
theorem Vx(pa:PlainAttrs T)(slot:Iq T name id)(hty:typeOf (.builtin id)=pure (.type "method_descriptor"))(hm:MtR X id r)(ho:PE X o to)(ha:PA X (e::es) t)
  (hbase:ku o name X.env (aE o X.env)=aE o X.env:=by rfl)
  (hfew:((dE cpos (YO (e::es) X.env)).all (λx=>!x.1)&&(kz cpos (fE [] X.env)).all (λx=>x.1.isSome)
   &&decide ((e::es).length+ ([]:List DD).length+ (if([]:List DD).isEmpty then 0 else 1)<30))=true:=by rfl)
  (hline:(apos.endLine==cpos.line)=true:=by rfl) (hs:YO (e::es) X.env=(false,aE e X.env)::YO es X.env:=by rfl) (hplain:(dE cpos (YO es X.env)).any (·.1)=false:=by rfl):
  PE X (.Call (.Attribute o name apos) (e::es) [] cpos) (tBM X.K T r to t):=by
 intro pins s σ H Q I h;refine wpAny_Call_method_late hbase hfew hline rfl (dN (ho pins s σ H _ I h) λv s1 zz=>?_);obtain⟨x,H1,I1,r1,ty,q1⟩:=zz;obtain⟨h1,h2⟩:=Jp I1 r1 ty;refine⟨T,id,pa,slot,hty,h1,h2,?_⟩;have hA:=ha cpos pins s1 σ H1 _ I1 q1;rw[hs]at hA⊢;refine jJ (by show(false||(dE cpos (YO es X.env)).any (·.1))=false;rw[hplain]<;>rfl) (Calls.evalArgs_plain ?_);exact dN hA λus s2 ⟨vs,H2,I2,r2,q2⟩=>hm pins s2 σ H2 x vs v us Q I2 r1 r2 q2
end
def MtM(X:Cx)(id:String)(r:V->List V->Hp->VK->Prop):Prop:=
 ∀(pins:List (Yc×Y3)) (s:Yh) (σ:St) (H:Hp) (x:V) (xs:List V) (v:Yd) (us:List Yd) (Q:VK),bw X pins σ H s->RelV x v->Vals xs us->r x xs H Q->
  Ym (Ys X.prog X.w) X.A (call (.builtin id) (v::us)) (EP X pins σ Q) X.xe s
theorem Vals.one:∀{x:V} {us:List Yd},Vals [x] us->∃u,us=[u]/\RelV x u:=by
 intro x us h;cases h with|cons r t=>
 cases t;exact⟨_,rfl,r⟩
theorem Vals.eraseIdx:∀{xs:List V} {us:List Yd} (i:Nat),Vals xs us->Vals (xs.eraseIdx i) (us.eraseIdx i)
 |_,_,_,.nil=>.nil
 |_,_,0,.cons _ t=>t
 |_,_,i+ 1,.cons r t=>.cons r (Vals.eraseIdx i t)
theorem QT{α:Type}:∀(l:List α) (i:Nat),(l.eraseIdx i).length<=l.length
 |[],_=>Yn _
 |_::_,0=>hZ _
 |_::r,i+ 1=>Nat.succ_le_succ (QT r i)
section
variable{l b:Yc}{ys zs:List V}
theorem bw.lset{its':List Yd}{f:Array Yd->Array Yd}(I:bw X pins σ H s)(hH:H l=Ya (.lst xs))(e:s.heap.get? l=Ya {cls:=.type "list",data:=.seq its.toArray n})(hf:f its.toArray=its'.toArray)(hv:Vals ys its')(hz:ys.length<=YB):
  bw X pins σ (upd H l (.lst ys)) {s with heap:=s.heap.update l (ez f),toks:=t'}:=by
 have q:=PySem.IsL.update e f;rw[hf]at q;refine I.write (x:=l) (e:=l) (by rw[hH];exact trivial) (.inl rfl) (λb' u hb hu=>(br s.heap (ez f) (Ne.symm hb)).trans hu) ⟨_,q⟩ ?_;exact⟨hz,its',_,hv,q⟩
theorem bw.lnew(I:bw X pins σ H s)(hv:Vals ys its)(hz:ys.length<=YB):
  bw X pins σ (upd H s.heap.objs.size (.lst ys)) {s with heap:=s.heap.push {cls:=.type "list",data:=.seq its.toArray},toks:=t'}:=
 I.laid (λ_ _ q=>Yg _ q) (Yn _) ⟨hz,its,0,hv,Yq _ rfl⟩
theorem bw.fresh(I:bw X pins σ H s):H s.heap.objs.size=none:=I.hok.fresh (Yn _)
theorem bw.lstM(I:bw X pins σ H s)(hH:H l=Ya (.lst xs)):xs.length<=YB/\∃(its:List Yd) (n:Nat),Vals xs its/\xs.length=its.length/\s.heap.get? l=Ya {cls:=.type "list",data:=.seq its.toArray n}:=by
 obtain⟨z,its,n,r,e⟩:=I.hok l _ hH;exact⟨z,its,n,r,r.length,e⟩
theorem ae9(h:n<=YB):qA n=false:=by
 unfold qA;exact decide_eq_false (by omega)
end
section
def Lw:V->List V->Hp->VK->Prop:=λx vs H Q=>∃l xs y,x=.ref l/\vs=[y]/\H l=Ya (.lst xs)/\xs.length<YB/\Q .non (upd H l (.lst (xs++[y])))
theorem Jg:MtM X "list.append" Lw:=by
 intro pins s σ H x vs v us Q I rx rv h;obtain⟨l,xs,y,rfl,rfl,hH,hz,q⟩:=h;cases rx;obtain⟨u,rfl,ru⟩:=rv.one;obtain⟨z,its,n,r,hl,e⟩:=I.lstM hH;refine rh F.slot_list_append ⟨_,e,rfl⟩ F.entry_list_append (F.args_list_append_2 _ _) (PySem.list_append l its.toArray n u (by rw[Yx];omega)) ⟨e,?_⟩;refine⟨.non,_,I.lset (its':=its++[u]) hH e (by simp) (r.append (.cons ru .nil)) ?_,rfl,q⟩;rw[YG,fv];omega
def ahR:V->List V->Hp->VK->Prop:=λx vs H Q=>∃l b xs zs,x=.ref l/\vs=[.ref b]/\H l=Ya (.lst xs)/\H b=Ya (.lst zs)/\xs.length+ zs.length<=YB/\Q .non (upd H l (.lst (xs++zs)))
theorem QX:MtM X "list.extend" ahR:=by
 intro pins s σ H x vs v us Q I rx rv h;obtain⟨l,b,xs,zs,rfl,rfl,hH,hB,hz,q⟩:=h;cases rx;obtain⟨u,rfl,ru⟩:=rv.one;cases ru;obtain⟨z,its,n,r,hl,e⟩:=I.lstM hH;obtain⟨z2,its2,n2,r2,hl2,e2⟩:=I.lstM hB;have hsz:its.toArray.size+ its2.toArray.size<=YB:=by rw[Yx,Yx];omega
 have hlong:¬ (!its.toArray.isEmpty&&qA (its.toArray.size+ its2.toArray.size))=true:=by
  rw[ae9 hsz,i9];exact YS
 refine rh F.slot_list_extend ⟨_,e,rfl⟩ F.entry_list_extend (F.args_list_extend_2 _ _)
  (AutoSeq1.list_extend_list_list_0 l its.toArray n b its2.toArray n2 hlong (by rw[Yx];omega) (by omega)) ⟨e,e2,?_⟩
 refine⟨.non,_,I.lset (its':=its++its2) hH e (by simp) (r.append r2) ?_,rfl,q⟩;rw[YG];omega
def alA:R2:=λx y H Q=>∃l b xs zs,x=.ref l/\y=.ref b/\H l=Ya (.lst xs)/\H b=Ya (.lst zs)/\xs.length+ zs.length<=YB/\∀p,H p=Yb->Q (.ref p) (upd H p (.lst (xs++zs)))
theorem Ms:yV X (i7 .Add) alA:=by
 intro pins s σ H x y v u Q I rx ry h;obtain⟨l,b,xs,zs,rfl,rfl,hH,hB,hz,q⟩:=h;cases rx;cases ry;obtain⟨z,its,n,r,hl,e⟩:=I.lstM hH;obtain⟨z2,its2,n2,r2,hl2,e2⟩:=I.lstM hB;refine PySem.P.add_list e e2 ?_ (by rw[Yx,Yx];omega);have ea:its.toArray++its2.toArray=(its++its2).toArray:=by simp
 rw[ea];exact⟨.ref _,_,I.lnew (t':=s.toks) (r.append r2) (by rw[YG];omega),rfl,q _ I.fresh⟩
end
section
variable{prog:YJ}{w:YV}{A:Y4}{E:Yd->Yh->Prop}
end
section
end
end L2
namespace Att
open PySem PySem.W PySem.Calls PyProof.Rows
variable{P:Params}{h:YR}{l:OpenLaw}{n:Nat}
theorem Li:∀(ns:List Int) (vs:List Yd),WellAll P h vs (ns.map WData.int)->bg vs ns:=by
 intro ns
 induction ns with
 |nil=>
  intro vs w;rw[kT]at w;cases w;exact .nil
 |cons n ns ih=>
  intro vs w;rw[YQ]at w;cases w with
  |cons a b=>
   cases a;exact .cons _ _ (ih _ b)
theorem adN(hn:l.most=Ya n){args:List WData}{vals:List Yd}(hpre:l.row.toRowW.claim.pre args=true)(hwl:WellAll P h vals args):
  ∃a vs ns,vals=[Y0 a]/\args=[WData.list (ns.map WData.int)]/\h.get? a=Ya {cls:=.type "list",data:=.seq vs.toArray}/\bg vs ns/\ns.length<=n:=by
 have hsh:WShape.hasAll [] args [.list .int]=true:=(pre_splitW hpre).1;have hc:l.pre.holds [] {args:=args}=true:=(pre_splitW hpre).2;obtain⟨d,r,rfl,h1,h2⟩:=hasAllW_cons hsh;obtain rfl:=hasAllW_nil h2;obtain⟨xs,rfl,h3⟩:=hasW_list h1;obtain⟨ns,rfl⟩:=items_int h3;have hlen:ns.length<=n:=by
  unfold OpenLaw.pre at hc;have h4:(WTm.not (.lt (.lit (.int (n:Int))) (.len (.arg 0)))).holds [] {args:=[.list (ns.map .int)]}=true:=by
   have h4:=(holds_andW hc).1;rw[hn]at h4;exact h4
  have h5:=condW_of h4 (w_not (w_lt w_lit (w_len_list (w_arg rfl))));rw[Yi]at h5;refine Nat.le_of_not_lt λq=>?_;have q':(n:Int)<((ns.length:Nat):Int):=by omega
  first
   |(rw[decide_eq_true q']at h5;exact absurd h5 (by decide))
   |(simp at h5;omega)
 cases hwl with
 |cons w1 w2=>
  cases w2;cases w1 with
  |list ho hall=>exact⟨_,_,ns,rfl,rfl,ho,Li ns _ hall,hlen⟩
theorem acK(l:OpenLaw)(args:List WData):l.row.toRowW.claim.post args (.bool true) args=true:=
 postW_of (r:=l.row.toRowW) (X:=(true==true))
  (show WShape.has [] (.bool true) .bool=true by first|rfl|decide|simp[WShape.has,WShape.arms,WShape.armsAll])
  (show(WTm.eq .res (.lit (.bool true))).value [] {args:=args,res:=Ya (.bool true),after:=args}=Ya (.bool (true==true))from w_eq_bool (w_res rfl) w_lit) rfl
theorem attach_call{q:YJ}{loose:List Yj}{XP:(Yj->Option Yd)->YR->Prop}{YP:YV->YR->Prop}{d:DefRec}(hn:l.most=Ya n)(hdf:d.params.defaults=[])(call:∀(w:YV) (s₀ s₁:Yh) (mg mb:Yj->Option Yd) (fa:Yc) (o:Y3) (pm cd doc:Yd) (a:Yc) (vs:List Yd) (ns:List Int),
   Ground q loose [] XP w s₀ mg mb s₁.heap->YP w s₁.heap->
   s₁.heap.get? fa=Ya o->o.data=.func (docDef d.name d.params d.body d.scope pm cd doc)->s₁.heap.CodeRec cd d.name->mg d.name=Ya (.ref fa)->
   s₁.heap.get? a=Ya {cls:=.type "list",data:=.seq vs.toArray}->bg vs ns->ns.length<=n->s₁.gens=#[]->
   de (Ys l.prog w) xw (.call (.ref fa) ⟨[.ref a],[]⟩) (λr s'=>r=.ok (.ret (.bool true))/\OldK s₁.heap s'.heap/\s'.os=s₁.os/\sQ s'.gens) s₁):
  WalkO q loose XP YP l.row.toRowW d [] (λf vs=>PySem.call f vs):=by
 intro w s₀ s₁ mg mb G Y fa o pm cd doc dV kV ho hd hcd hD hmg hg args vals as hpre hlay hrd hwl hlo;obtain rfl:dV=.none:=Dflts.none hD hdf;obtain rfl:kV=.none:=Dflts.noKw hD;obtain⟨a,vs,ns,rfl,rfl,hobj,hints,hlen⟩:=adN hn hpre hwl;refine enter_call (codeAny_mono (call w s₀ s₁ mg mb fa o pm cd doc a vs ns G Y ho (fd_plain hd) hcd hmg hobj hints hlen hg) λr s' hq=>?_);obtain⟨rfl,h2,h3,h4⟩:=hq;exact⟨.inl ⟨.bool true,.bool true,[],rfl,λ_=>rfl,.bool true,acK l _,λ_=>⟨List.Pairwise.nil,λ_ hm=>(nomatch hm)⟩⟩,h2,h3,h4⟩
section
variable{prog:YJ}{w:YV}{A:Y4}{E:Yd->Yh->Prop}{s:Yh}{K:Frag}
end
end Att
namespace L2
open PySem PySem.Spec PyProof.Rows
variable{X:Cx}{K:Ye}{x qual:Yj}{st:YN}{f:Yc}{fd:Yt}{ps:List Yj}{k:Nat}{A B:Prop}{H H':Hp}
theorem Jj:∀{vs:List Yd} {ns:List Int},bg vs ns->Vals (ns.map V.int) vs
 |_,_,.nil=>.nil
 |_,_,.cons n t h=>.cons ⟨t,rfl⟩ (Jj h)
noncomputable def bF(s:YN)(j:Nat):YN:=match s with
 | .ClassDef _ _ _ body _ _ _ _ _ _ _=>body.getD j (.Pass ⟨0,0,0,0⟩)
 |_=>.Pass ⟨0,0,0,0⟩
noncomputable def iK(s:YN):CF:=match s with
 | .FunctionDef _ a _ _ _ _ _ _ _ _=>a
 |_=>{posonlyargs:=[],args:=[],vararg:=Yb,kwonlyargs:=[],kw_defaults:=[],kwarg:=Yb,defaults:=[]}
noncomputable def eZ(s:YN):List YN:=match s with
 | .FunctionDef _ _ b _ _ _ _ _ _ _=>b
 |_=>[]
noncomputable def aA(s:YN):jv:=match s with
 | .FunctionDef _ _ _ _ _ _ sc _ _ _=>sc
 |_=>{kind:=.function,names:=[],isGenerator:=false,isCoroutine:=false}
abbrev bH:CXT:=λ_ _ _ _ _ _=>False
abbrev E0:XK:=λ_ _ _=>False
theorem qZ:zP bH X E0:=λ_ _ _ _ _ _ _ h=>h.elim
structure bW(K:Ye)(x qual:Yj)(st:YN)(f:Yc)(fd:Yt):Prop where
 ex:∃(oc:Yd) (od:Option Yc) (kV doc pm:Yd) (an:Option Yc) (cdv ct:Yd) (osl:Array (Option Yd)),
  fd=d4 x qual (iK st) (eZ st) (aA st) .none kV doc pm an cdv ct/\K.lookup f=Ya ⟨oc,od,.func fd,osl⟩/\kQ K cdv qual=true
 kp:kP K (.ref f)=true
section
variable{P:YJ}{w:YV}{mg:Yj->Option Yd}{base:YR}
theorem bW.ok{N:List Yj}{sp:Sp}(F:bW K x qual st f fd)(S:aD N ps (aA st))(len:∀vs H Q E,sp vs H Q E->vs.length=ps.length)(hbody:∀(cdv:Yd) (A:Y4) (outer:List l8) (s:Yh) (H:Hp) (vs:List V) (Q:VK) (E:XK),eQ k (A.deeper (mv qual (aA st) s.heap.objs.size f cdv))->sp vs H Q E->
   ∃t,XN (RN bH P w K mg base N qual (aA st) f cdv A outer s H E).nox (eZ st) t/\t {nx:=λ_ H'=>Q .non H',rt:=Q} (lX N vs) H):aG P w K mg base bH (k+ 1) f fd ps sp:=by
 obtain⟨oc,od,kV,doc,pm,an,cdv,ct,osl,rfl,lk,hcd⟩:=F.ex;refine aez lk hcd S len λA outer s H vs Q E hr hsp=>?_;obtain⟨t,h,q⟩:=hbody cdv A outer s H vs Q E hr hsp;exact⟨t,h.nox,q⟩
theorem bW.binds(F:bW K x qual st f fd)(h:∀(kV doc pm:Yd) (an:Option Yc) (cdv ct:Yd) (us:List Yd),us.length=ps.length->BC (d4 x qual (iK st) (eZ st) (aA st) .none kV doc pm an cdv ct) ⟨us,[]⟩=pure (ps.zip us)):Binds K fd ps []:=by
 obtain⟨oc,od,kV,doc,pm,an,cdv,ct,osl,rfl,lk,hcd⟩:=F.ex;exact .all (h kV doc pm an cdv ct)
theorem Ob{oc:Yd}{od an:Option Yc}{osl:Array (Option Yd)}{kV doc pm cdv ct:Yd}(l:K.lookup f=Ya ⟨oc,od,.func (d4 x qual (iK st) (eZ st) (aA st) .none kV doc pm an cdv ct),osl⟩)(c:kQ K cdv qual=true)(k:kP K (.ref f)=true):bW K x qual st f (d4 x qual (iK st) (eZ st) (aA st) .none kV doc pm an cdv ct):=⟨⟨oc,od,kV,doc,pm,an,cdv,ct,osl,rfl,l,c⟩,k⟩
end
theorem Ot{A:Y4}(hr:eQ k A):A.units+ 1<fm:=hV (lP (by decide:1<=64) _) hr.units
theorem aU{n:Nat}(h:n<=1000):n<YB:=hV h (by decide)
section
theorem pv(i:Nat){pos:hJ}(hN:X.N[i]?=Ya x:=by rfl)(hv:Vis X.env.scope x:=by first|exact Or.inl rfl|exact Or.inr (Or.inl rfl)|exact Or.inr (Or.inr rfl))(hd:(x==("__debug__":Yj))=false:=by decide)(hcd:(x==("__classdict__":Yj))=false:=by decide):PE X (.Name x pos) (Tv i):=ake hN hv hd hcd
end
theorem amd(h:B):if false=true then A else B:=by
 rw[if_neg YS];exact h
theorem akh(h:A):if true=true then A else B:=by
 rw[if_pos rfl];exact h
theorem d9{c:Prop}[Decidable c](h1:c->A)(h2:¬ c->B):if c then A else B:=by
 by_cases h:c
 ·rw[if_pos h];exact h1 h
 ·rw[if_neg h];exact h2 h
def aO(H H':Hp):Prop:=∀b o,H b=Ya o->H' b=Ya o
theorem aO.refl(H:Hp):aO H H:=λ_ _ h=>h
theorem aO.trans{H1 H2:Hp}(a:aO H H1)(b:aO H1 H2):aO H H2:=λc o h=>b c o (a c o h)
theorem aO.free(e:aO H H'){l:Yc}(h:H' l=II):H l=II:=by
 cases q:H l with
 |none=>rfl
 |some o=>
  rw[e l o q]at h;cases h
theorem aO.seq{a:Yc}{xs:List V}(e:aO H H')(h:bI K H a xs):bI K H' a xs:=by
 rcases h with(h|⟨o,h⟩)|h
 ·exact .inl (.inl (e _ _ h))
 ·exact .inl (.inr ⟨o,e _ _ h⟩)
 ·exact .inr h
section
variable{κ:Type}[DecidableEq κ]
end
end L2
namespace GX
open PySem
variable{env:l8}{sc:jv}{n:Yj}{c:Yc}
theorem Nj{α β:Type}{f:α->β->vj (ForInStep β)}(g:α->β->β):∀(l:List α) (b:β),(∀x∈l,∀b,f x b=pure (.yield (g x b)))->
  forIn l b f=pure (l.foldl (λb x=>g x b) b)
 |[],b,_=>rfl
 |x::l,b,h=>by
  simp only[List.forIn_cons,h x (.head _),pure_bind];exact Nj g l (g x b) λy hy=>h y (Yk _ hy)
noncomputable def Fb(env:l8)(x:Yj×qo)(cs:List (Yj×Yc)):List (Yj×Yc):=if x.2==.free then(x.1,(env.cells.lookup x.1).getD 0)::cs else cs
theorem XQ(h:∀y∈sc.names,y.2=.free->∃c,env.cells.lookup y.1=Ya c):
  BI sc env=pure (sc.names.foldl (λb x=>Fb env x b) []):=by
 simp only[BI];rw[Nj (Fb env) sc.names [] (λx hx b=>by
  obtain⟨n,k⟩:=x;unfold Fb;by_cases hk:k=.free
  ·subst hk;obtain⟨c,hc⟩:=h _ hx rfl;have e:cellOf env n=pure c:=by unfold cellOf;rw[hc]
   simp[e,hc]
  ·have hb:(k==dk)=false:=by simpa using hk
   simp only[hb,qB,if_false])]
 rfl
theorem Om{env:l8}:∀(l:List (Yj×qo)) (acc:List (Yj×Yc)),(∀y∈l,y.2=.free->∃c,env.cells.lookup y.1=Ya c)->(∀p∈acc,env.cells.lookup p.1=Ya p.2)->
  ∀p∈l.foldl (λb x=>Fb env x b) acc,env.cells.lookup p.1=Ya p.2
 |[],acc,_,ha=>ha
 |x::l,acc,h,ha=>by
  refine Om l _ (λy hy=>h y (Yk _ hy)) λp hp=>?_;unfold Fb at hp;dsimp only at hp;by_cases hk:x.2=.free
  ·obtain⟨c,hc⟩:=h x Yl hk;rw[hk]at hp;simp only[beq_self_eq_true,if_true]at hp;rcases YC.mp hp with rfl|hp
   ·rw[hc];rfl
   ·exact ha p hp
  ·have hb:(x.2==dk)=false:=by simpa using hk
   simp only[hb,qB,if_false]at hp;exact ha p hp
theorem Mp{env:l8}{n:Yj}:∀(l:List (Yj×qo)) (acc:List (Yj×Yc)),((∃c,(n,c)∈acc)∨(n,dk)∈l)->∃c,(n,c)∈l.foldl (λb x=>Fb env x b) acc
 |[],acc,h=>by
  rcases h with h|h
  ·exact h
  ·cases h
 |x::l,acc,h=>by
  refine Mp l _ ?_;unfold Fb;dsimp only;rcases h with⟨c,h⟩|h
  ·refine .inl ⟨c,?_⟩;split
   ·exact Yk _ h
   ·exact h
  ·rcases YC.mp h with h|h
   ·refine .inl ?_;subst h;exact⟨_,by rw[if_pos (by rfl)];exact .head _⟩
   ·exact .inr h
theorem Ds{n:Yj}{c:Yc}:∀{l:List (Yj×Yc)},(n,c)∈l->∃c',l.lookup n=Ya c'
 |[],h=>by cases h
 |(m,d)::l,h=>by
  rw[sM];cases e:n==m with
  |true=>exact⟨d,rfl⟩
  |false=>
   rcases YC.mp h with h|h
   ·cases h;simp at e
   ·exact Ds h
theorem afV{n:Yj}{c:Yc}:∀{l:List (Yj×Yc)},l.lookup n=Ya c->(n,c)∈l
 |[],h=>by cases h
 |(m,d)::l,h=>by
  rw[sM]at h;cases e:n==m with
  |true=>
   rw[e]at h;have e':n=m:=by simpa using e
   have h':d=c:=YL h;rw[e',h'];exact Yl
  |false=>
   rw[e]at h;exact Yk _ (afV h)
theorem My(h:∀y∈sc.names,y.2=.free->∃c,env.cells.lookup y.1=Ya c):
  ∃cl,BI sc env=pure cl/\(∀x c,cl.lookup x=Ya c->env.cells.lookup x=Ya c)/\(∀n,(n,dk)∈sc.names->∃c,cl.lookup n=Ya c):=by
 refine⟨_,XQ h,λx c e=>?_,λn hn=>?_⟩
 ·exact Om sc.names [] h (λp hp=>by cases hp) (x,c) (afV e)
 ·obtain⟨c,hc⟩:=Mp (env:=env) sc.names [] (.inr hn);exact Ds hc
theorem Ae{x:Yj}{names:List (Yj×qo)}:
  (names.map fun(n,k)=>if(k==dk&&env.scope.kind==.function&&env.kindOf n==Ya .cell)then(n,gS)else(n,k)).lookup x
  =(names.lookup x).map λk=>if(k==dk&&env.scope.kind==.function&&env.kindOf x==Ya .cell)then gS else k:=by
 induction names with
 |nil=>rfl
 |cons p r ih=>
  obtain⟨n,k⟩:=p;rw[YQ];by_cases e:x=n
  ·subst e;dsimp only;split<;>simp_all
  ·have e':(x==n)=false:=by simpa using e
   dsimp only;split<;>simp only[sM,e']<;>exact ih
noncomputable def RM(elt target:YY)(ifs:List YY)(it acc:Yd)(env:l8):vj Bool:=do
 match←fw it with
 |none=>pure false
 |some v=>
  tm target it v
  AL target env v
  let ok←forIn ifs true λc r=>if r=true then do let ok←Ct c env (aE c env);pure (tI ok)else pure (tI r)
  if ok=true then do
   let x←aE elt env;let _←call (.builtin "list.append") [acc,x]
   pure true
  else pure true
theorem ahb(elt target iter:YY)(ifs:List YY)(scope:jv)(pos:hJ)(it acc:Yd)(env:l8):
  compTurn (.ListComp elt [⟨target,iter,ifs,0⟩] scope pos) 0 it acc env=(do
   qV iter.pos
   let more←RM elt target ifs it acc env
   if more=true then again (.compLoop (.ListComp elt [⟨target,iter,ifs,0⟩] scope pos) 0 it acc env)else pure (.done .next)):=by
 rw[compTurn_list,RM];simp only[bind_assoc];congr 1;funext _;congr 1;funext r;cases r with
 |none=>simp
 |some v=>
  simp only[bind_assoc];congr 1;funext _;congr 1;funext _;congr 1;funext ok;cases ok<;>simp
theorem VH{prog:YJ}{w:YV}{A:Y4}{R:pf->Yh->Prop}{s:Yh}{elt target iter:YY}{ifs:List YY}{scope:jv}{pos:hJ}{it acc:Yd}(I:Nat->Yh->Prop)(turn:∀n s,I n s->Ym (Ys prog w) A (RM elt target ifs it acc env) (λmore s'=>if more=true then∃m,m<n/\I m s' else R (.ok .next) s') (λ_ _=>False) s)(n:Nat)(h:I n s):
  de (Ys prog w) A (.compLoop (.ListComp elt [⟨target,iter,ifs,0⟩] scope pos) 0 it acc env) R s:=by
 apply codeAny_loop rfl I _ n h;intro n s hI;apply wpAny_noted;rw[ahb];change Ym _ A _ _ _ _;apply Yf;apply BU;apply Yf;refine ax (turn n s hI) (λmore s' q=>?_) λ_ _ z=>z.elim;cases more
 ·exact Yr q
 ·exact Yr ⟨rfl,q⟩
end GX
namespace GX
open PySem PySem.Spec PyProof.Rows
variable{A:Y4}{key v:Yd}{Q E:Yd->Yh->Prop}{s:Yh}{B:cg}{R:pf->Yh->Prop}{nm:String}{kws:List (Yj×Yd)}{ko d:Option Yd}
noncomputable def kept:Option (Yd×Yd)->Array Yd
 |none=>#[]
 |some (x,k)=>#[x,k]
noncomputable abbrev Nr(a:Array Yd)(c:Nat):Y3:={cls:=.type "list",dict:=Yb,data:=.seq a c,slots:=#[]}
noncomputable abbrev put(S:Yc)(a:Array Yd)(s:Yh):Yh:={s with heap:=s.heap.update S (ez λ_=>a)}
def DY(prog:YJ)(w:YV)(A:Y4)(key v:Yd)(Q:Yd->Yh->Prop)(s:Yh):Prop:=
 match key with
 | .none=>Q v s
 |f=>Ym (Ys prog w) A.in1 (call f [v]) Q (λ_ _=>False) s
def Rm(prog:YJ)(w:YV)(op:DC)(lp:String)(I S:Yc)(key:Yd)(kw:List (Yj×Yd))(b:Option (Yd×Yd))(A:Y4)(R:pf->Yh->Prop):Option Yd->Yh->Prop
 |none,s=>(∃c,s.heap.get? S=Ya (Nr (kept b) c))/\match b with
  |some (x,_)=>R (.ok (.ret x)) (put S #[] s)
  |none=>∃n d r,kw=(n,d)::r/\R (.ok (.ret d)) s
 |some v,s=>DY prog w A key v (λk s=>(∃c,s.heap.get? S=Ya (Nr (kept b) c))/\match b with
  |none=>de (Ys prog w) A (.builtin lp ⟨[.ref I,key,.ref S],kw⟩) R (put S #[v,k] s)
  |some (_,k')=>Ym (Ys prog w) A.in1 (vc op k k') (λa s=>∃y c,a=.bool y/\s.heap.get? S=Ya (Nr (kept b) c)/\de (Ys prog w) A (.builtin lp ⟨[.ref I,key,.ref S],kw⟩) R (if y then put S #[v,k] s else s)) (λ_ _=>False) s) s
abbrev Turn(prog:YJ)(w:YV)(op:DC)(lp:String)(B:cg):Prop:=∀(I S:Yc) (key:Yd) (kw:List (Yj×Yd)) (b:Option (Yd×Yd)) (c:Nat),
 F5 prog w (B ⟨[.ref I,key,.ref S],kw⟩) λA R s=>s.heap.get? S=Ya (Nr (kept b) c)/\Ym (Ys prog w) A.in1 (fw (.ref I)) (Rm prog w op lp I S key kw b A R) (λ_ _=>False) s
section
variable{prog:YJ}{w:YV}
theorem two{x k:Yd}:(kept (Ya (x,k))).size<=YB:=by show 2<=YB;decide +kernel
theorem key_of{P:CM->Yh->Prop}{f:Yd->vj CM}(r:Yd->vj Yd)(h:DY prog w A key v Q s)(m:∀k s,Q k s->Ym (Ys prog w) A.in1 (f k) P E s):
  Ym (Ys prog w) A.in1 (match key with| .none=>pure v >>= f|_=>tryCatch (mi [v] (call key [v])) r >>= f) P E s:=by
 unfold DY at h;split at h
 ·exact Yf (Yr (m _ _ h))
 ·exact Yf (nB (e8 (ax h m λ_ _ z=>z.elim)))
theorem VM:Turn prog w .Lt "min.loop" cg.«min.loop»:=by
 intro I S key kw b c A R s ⟨hS,nx⟩;show Ym _ _ (zw (.ref S) >>= _) _ _ s;apply Yf;apply ri hS rfl;apply Yf;apply nB;refine ax nx (λr s1 h=>?_) λ_ _ z=>z.elim;rcases r with _|v<;>rcases b with _|⟨x,k'⟩
 ·obtain⟨_,n,d,l,rfl,q⟩:=h
  wp_walk
  exact q
 ·obtain⟨⟨c1,h1⟩,q⟩:=h;apply Yf;refine ir h1 rfl ?_ two
  wp_walk
  exact q
 ·unfold Rm at h;refine key_of _ h λk s2 h=>?_;obtain⟨⟨c2,h2⟩,q⟩:=h;apply Yf;apply ir h2 rfl;exact Yr ⟨eA F.plain_min_loop _,q⟩
 ·unfold Rm at h;refine key_of _ h λk s2 h=>?_;obtain⟨_,q⟩:=h;apply Yf;apply nB;apply e8;apply Yf;refine ax q (λa s3 h=>?_) λ_ _ z=>z.elim;obtain⟨y,c3,rfl,h3,q⟩:=h
  wp_walk
  cases y
  ·wp_walk
   exact⟨eA F.plain_min_loop _,q⟩
  ·refine AS rfl (Yf (ir h3 rfl ?_ two))
   wp_walk
   exact⟨eA F.plain_min_loop _,q⟩
theorem aeV:Turn prog w .Gt "max.loop" cg.«max.loop»:=by
 intro I S key kw b c A R s ⟨hS,nx⟩;show Ym _ _ (zw (.ref S) >>= _) _ _ s;apply Yf;apply ri hS rfl;apply Yf;apply nB;refine ax nx (λr s1 h=>?_) λ_ _ z=>z.elim;rcases r with _|v<;>rcases b with _|⟨x,k'⟩
 ·obtain⟨_,n,d,l,rfl,q⟩:=h
  wp_walk
  exact q
 ·obtain⟨⟨c1,h1⟩,q⟩:=h;apply Yf;refine ir h1 rfl ?_ two
  wp_walk
  exact q
 ·unfold Rm at h;refine key_of _ h λk s2 h=>?_;obtain⟨⟨c2,h2⟩,q⟩:=h;apply Yf;apply ir h2 rfl;exact Yr ⟨eA F.plain_max_loop _,q⟩
 ·unfold Rm at h;refine key_of _ h λk s2 h=>?_;obtain⟨_,q⟩:=h;apply Yf;apply nB;apply e8;apply Yf;refine ax q (λa s3 h=>?_) λ_ _ z=>z.elim;obtain⟨y,c3,rfl,h3,q⟩:=h
  wp_walk
  cases y
  ·wp_walk
   exact⟨eA F.plain_max_loop _,q⟩
  ·refine AS rfl (Yf (ir h3 rfl ?_ two))
   wp_walk
   exact⟨eA F.plain_max_loop _,q⟩
theorem enter{id:String}{args:Args}{Sp:Jn}(he:mE ve id=Ya B)(hp:AU id=true)(m:F5 prog w (B args) Sp)(h:Sp A R s):
  de (Ys prog w) A (.builtin id args) R s:=zC he (by rw[Around.under_plainId hp];exact m A R s h)
def acu(bt:Nat->Nat->Bool)(n i:Nat):Prop:=∀j,j<n->bt j i=false/\(j<i->bt i j=true)
structure agK(prog:YJ)(w:YV)(A:Y4)(key:Yd)(op:DC)(l I S:Yc)(vs:List Yd)(bt:Nat->Nat->Bool)(G:List (Nat×Yd)->Yh->Prop):Prop where
 irr:∀i,bt i i=false
 asy:∀i j,bt i j=true->bt j i=false
 cov:∀a b c,bt a b=true->bt c b=false->bt a c=true
 tail:∀p q L s,G (p::q::L) s->G (q::L) s
 head:∀p L s,G (p::L) s->G [p] s
 calm:∀x L s h tk,x=I∨x=S->G L s->(∀b o,b≠x->s.heap.get? b=Ya o->h.get? b=Ya o)->G L {s with heap:=h,toks:=tk}
 list:∀L s,G L s->s.heap.IsList l vs.toArray
 keys:∀L s j v a c m,G L s->vs[j]?=Ya v->s.heap.get? S=Ya (Nr a c)->s.heap.IsListIter I l m->DY prog w A key v (λk s=>G ((j,k)::L) s/\s.heap.get? S=Ya (Nr a c)/\s.heap.IsListIter I l m) s
 cmp:∀i j k k' s,G [(j,k),(i,k')] s->Ym (Ys prog w) A.in1 (vc op k k') (λa s'=>a=.bool (bt j i)/\s'=s) (λ_ _=>False) s
theorem DY.imp{Q':Yd->Yh->Prop}(h:DY prog w A key v Q s)(m:∀k s,Q k s->Q' k s):DY prog w A key v Q' s:=by
 unfold DY at h⊢;split at h
 ·exact m _ _ h
 ·exact ax h m λ_ _ z=>z
def al1(bt:Nat->Nat->Bool)(vs:List Yd)(j:Nat):Option (Nat×Yd×Yd)->Prop
 |none=>j=0
 |some (i,x,_)=>i<j/\vs[i]?=Ya x/\acu bt j i
noncomputable def anm:Option (Nat×Yd×Yd)->List (Nat×Yd)
 |none=>[]
 |some (i,_,k)=>[(i,k)]
variable{op:DC}{lp:String}{l I S:Yc}{vs:List Yd}{bt:Nat->Nat->Bool}{G:List (Nat×Yd)->Yh->Prop}{kw:List (Yj×Yd)}
theorem agK.put(M:agK prog w A key op l I S vs bt G){L:List (Nat×Yd)}{a b:Array Yd}{c m:Nat}(SI:S≠I)(g:G L s)(hS:s.heap.get? S=Ya (Nr a c))(hI:s.heap.IsListIter I l m):
  G L (put S b s)/\(∃c,(put S b s).heap.get? S=Ya (Nr b c))/\(put S b s).heap.IsListIter I l m:=
 ⟨M.calm S L s _ s.toks (.inr rfl) g λx o n e=>(br _ _ (Ne.symm n)).trans e,⟨_,eB _ hS rfl⟩,hI.at λo e=>(br _ _ SI).trans e⟩
theorem adJ(T:Turn prog w op lp B)(he:mE ve lp=Ya B)(hp:AU lp=true)(hh:A.handled=Yb)(M:agK prog w A key op l I S vs bt G)(lI:l≠I)(SI:S≠I)
  (hD:vs=[]->∃n d r,kw=(n,d)::r/\∀s,G [] s->R (.ok (.ret d)) s) (hR:∀i v k s,vs[i]?=Ya v->acu bt vs.length i->G [(i,k)] s->R (.ok (.ret v)) s):
  ∀(r j:Nat) (b:Option (Nat×Yd×Yd)) (s:Yh) (c:Nat),vs.length=j+ r->al1 bt vs j b->G (anm b) s->s.heap.get? S=Ya (Nr (kept (b.map (·.2))) c)->s.heap.IsListIter I l j->
   de (Ys prog w) A (.builtin lp ⟨[.ref I,key,.ref S],kw⟩) R s:=by
 have W:=xi (prog:=prog) (w:=w) (A:=A.in1) hh I l lI vs.toArray;intro r
 induction r with
 |zero=>
  intro j b s c ej so g hS hI;obtain rfl:j=vs.toArray.size:=by rw[Yx];omega
  refine enter he hp (T I S key kw _ c) ⟨hS,W.done _ _ _ ⟨hI,M.list _ _ g⟩ λh tk k=>?_⟩;have g1:=M.calm I _ _ h tk (.inl rfl) g λx o n e=>k x o (by simpa using n) e;refine⟨⟨c,k S _ (by simpa using SI) hS⟩,?_⟩;rcases b with _|⟨i,x,y⟩
  ·obtain⟨n,d,l,e,q⟩:=hD (dA (by simpa using(show vs.toArray.size=0 from so)));exact⟨n,d,l,e,q _ g1⟩
  ·exact hR i x y _ so.2.1 (by simpa using so.2.2) (M.calm S _ _ _ tk (.inr rfl) g1 λz o n e=>(br _ _ (Ne.symm n)).trans e)
 |succ r ih=>
  intro j b s c ej so g hS hI;refine enter he hp (T I S key kw _ c) ⟨hS,W.item j _ _ _ (by rw[Yx];omega) ⟨hI,M.list _ _ g⟩ λv h tk hv st k=>?_⟩;have hv:vs[j]?=Ya v:=by simpa using hv
  have g1:=M.calm I _ _ h tk (.inl rfl) g λx o n e=>k x o (by simpa using n) e;unfold Rm;refine DY.imp (M.keys _ _ j v _ _ _ g1 hv (k S _ (by simpa using SI) hS) st.1) λy s2 ⟨g2,h2,i2⟩=>⟨⟨c,h2⟩,?_⟩;have more:(∀i,i<j->bt j i=true)->de (Ys prog w) A (.builtin lp ⟨[.ref I,key,.ref S],kw⟩) R (put S #[v,y] s2):=λup=>by
   obtain⟨g3,⟨c3,h3⟩,i3⟩:=M.put (b:=#[v,y]) SI g2 h2 i2;refine ih (j+ 1) (Ya (j,v,y)) _ c3 (by omega) ⟨i8 _,hv,λi hi=>?_⟩ (M.head _ _ _ g3) h3 i3;rcases xI.mp hi with z|rfl
   ·exact⟨M.asy _ _ (up i z),λ_=>up i z⟩
   ·exact⟨M.irr _,λz=>absurd z (Y2 _)⟩
  rcases b with _|⟨i,x,z⟩
  ·exact more λi hi=>absurd (show j=0 from so) (by omega)
  ·obtain⟨hi,hx,ft⟩:=so;refine ax (M.cmp i j y z s2 g2) (λa s3 ⟨ea,es⟩=>⟨_,c,ea,es▸h2,?_⟩) λ_ _ z=>z;subst es;cases e:bt j i with
   |true=>exact more λi' hi'=>M.cov _ _ _ e (ft i' hi').1
   |false=>
    refine ih (j+ 1) (Ya (i,x,z)) _ c (by omega) ⟨by omega,hx,λi' hi'=>?_⟩ (M.tail _ _ _ _ g2) h2 i2;rcases xI.mp hi' with z|rfl
    ·exact ft i' z
    ·exact⟨e,λz=>absurd z (by omega)⟩
abbrev acl(prog:YJ)(w:YV)(nm lp:String):Prop:=∀(A:Y4) (s:Yh) (Q E:Yd->Yh->Prop) (kws:List (Yj×Yd)) (ko d:Option Yd) (l:Yc) (its:Array Yd),
 oi nm ["key","default"] 0 ⟨[],kws⟩=pure [ko,d]->ka nm ⟨[.ref l],kws⟩->s.heap.IsList l its->
 de (Ys prog w) A (.builtin lp ⟨[.ref s.heap.objs.size,ko.getD .none,.ref (s.heap.objs.size+ 1)],d.toList.map λd=>("default",d)⟩) (HV Q E)
  {s with heap:=(s.heap.push {cls:=.type "list_iterator",data:=.fields #[.ref l,.int 0 0]}).push (Nr #[] 0)}->Ym (Ys prog w) A (call (.builtin nm) [.ref l] kws) Q E s
theorem Qt:acl prog w "min" "min.loop":=by
 intro A s Q E kws ko d l its hb ha hl h;refine kmb_tree F.kind_min F.plain_min F.entry_min ha ?_
 wp_walk using AD hb,gx hl
 rw[ff];exact⟨eA F.plain_min_loop _,h⟩
theorem acR:acl prog w "max" "max.loop":=by
 intro A s Q E kws ko d l its hb ha hl h;refine kmb_tree F.kind_max F.plain_max F.entry_max ha ?_
 wp_walk using AD hb,gx hl
 rw[ff];exact⟨eA F.plain_max_loop _,h⟩
theorem QG(O:acl prog w nm lp)(T:Turn prog w op lp B)(he:mE ve lp=Ya B)(hp:AU lp=true)(hh:A.handled=Yb)(hb:oi nm ["key","default"] 0 ⟨[],kws⟩=pure [ko,d])(ha:ka nm ⟨[.ref l],kws⟩)(hl:s.heap.IsList l vs.toArray)(M:agK prog w A (ko.getD .none) op l s.heap.objs.size (s.heap.objs.size+ 1) vs bt G)(g:∀h,(∀b o,s.heap.get? b=Ya o->h.get? b=Ya o)->G [] {s with heap:=h})(hD:vs=[]->∃x,d=Ya x/\∀s,G [] s->Q x s)(hR:∀i v k s,vs[i]?=Ya v->acu bt vs.length i->G [(i,k)] s->Q v s):Ym (Ys prog w) A (call (.builtin nm) [.ref l] kws) Q E s:=by
 obtain⟨o,ho,_⟩:=id hl;refine O A s Q E kws ko d l _ hb ha hl (adJ T he hp hh M (YH (Yu ho)) (oz _) (λe=>?_) hR vs.length 0 Yb _ 0 (CO _).symm rfl (g _ λb o e=>?_) ?_ ?_)
 ·obtain⟨x,rfl,q⟩:=hD e;exact⟨_,x,[],rfl,q⟩
 ·exact Yg _ (Yg _ e)
 ·exact Ee (ff ..).symm rfl
 ·exact⟨_,Yg _ (Yq _ rfl),rfl,rfl⟩
abbrev Gs(h h':YR):Prop:=∀b o,h.get? b=Ya o->h'.get? b=Ya o
theorem Ny(O:acl prog w nm lp)(T:Turn prog w op lp B)(he:mE ve lp=Ya B)(hp:AU lp=true)(hh:A.handled=Yb)(hb:oi nm ["key","default"] 0 ⟨[],kws⟩=pure [ko,d])(ha:ka nm ⟨[.ref l],kws⟩)(hl:s.heap.IsList l vs.toArray)(bt:Nat->Nat->Bool)(irr:∀i,bt i i=false)(asy:∀i j,bt i j=true->bt j i=false)(cov:∀a b c,bt a b=true->bt c b=false->bt a c=true)(KK:Nat->Yd->Prop)(keys:∀j v h tk,vs[j]?=Ya v->Gs s.heap h->DY prog w A (ko.getD .none) v (λk s'=>KK j k/\∃tk,s'={s with heap:=h,toks:=tk}) {s with heap:=h,toks:=tk})(cmp:∀i j k k' h tk,KK j k->KK i k'->Gs s.heap h->∀Q:Yd->Yh->Prop,Q (.bool (bt j i)) {s with heap:=h,toks:=tk}->Ym (Ys prog w) A.in1 (vc op k k') Q (λ_ _=>False) {s with heap:=h,toks:=tk})(hD:vs=[]->∃x,d=Ya x/\∀h tk,Gs s.heap h->Q x {s with heap:=h,toks:=tk})(hR:∀i v h tk,vs[i]?=Ya v->acu bt vs.length i->Gs s.heap h->Q v {s with heap:=h,toks:=tk}):
  Ym (Ys prog w) A (call (.builtin nm) [.ref l] kws) Q E s:=by
 refine QG (bt:=bt) (G:=λL s'=>(∃h tk,s'={s with heap:=h,toks:=tk}/\Gs s.heap h)/\∀p∈L,KK p.1 p.2) O T he hp hh hb ha hl ⟨irr,asy,cov,?_,?_,?_,?_,?_,?_⟩ (λh k=>⟨⟨h,s.toks,rfl,k⟩,by simp⟩) (λe=>?_) ?_
 ·exact λp q L s g=>⟨g.1,λq hq=>g.2 q (Yk _ hq)⟩
 ·exact λp L s g=>⟨g.1,λq hq=>g.2 q (Yy.mp hq▸Yl)⟩
 ·rintro x L s' h tk hx ⟨⟨h',tk',rfl,G⟩,q⟩ k;refine⟨⟨h,tk,rfl,λb o e=>k b o ?_ (G b o e)⟩,q⟩;have:=Yu e;rcases hx with rfl|rfl
  ·exact YH this
  ·exact YH (kG this)
 ·rintro L s' ⟨⟨h',tk',rfl,G⟩,q⟩;exact hl.at λo e=>G _ _ e
 ·rintro L s' j v a c m ⟨⟨h,tk,rfl,G⟩,q⟩ hv hS hI;refine(keys j v h tk hv G).imp ?_;rintro k s' ⟨hk,tk',rfl⟩;refine⟨⟨⟨h,tk',rfl,G⟩,λp hp=>?_⟩,hS,hI⟩;rcases YC.mp hp with rfl|hp
  ·exact hk
  ·exact q p hp
 ·rintro i j k k' s' ⟨⟨h,tk,rfl,G⟩,q⟩;exact cmp i j k k' h tk (q (j,k) (by simp)) (q (i,k') (by simp)) G _ ⟨rfl,rfl⟩
 ·obtain⟨x,hx,q⟩:=hD e;exact⟨x,hx,λs' ⟨⟨h,tk,e,G⟩,_⟩=>e▸q h tk G⟩
 ·exact λi v k s' hv ft ⟨⟨h,tk,e,G⟩,_⟩=>e▸hR i v h tk hv ft G
end
end GX
namespace GX
open PySem
end GX
namespace GB
variable{n b h:Nat}
theorem abG(n h:Nat):(n &&& 2^h=0)↔n.testBit h=false:=by
 constructor
 ·intro e;have q:(n &&& 2^h).testBit h=false:=by rw[e];exact cE h
  rw[qf,Nat.testBit_two_pow_self,GY]at q;exact q
 ·intro e;apply oB;intro i;rw[qf,cE,l5];by_cases hi:h=i
  ·subst hi;rw[e];rfl
  ·rw[decide_eq_false hi,i9]
noncomputable def V2(n:Nat):List Nat:=(cS 63).filter λh=>n.testBit h
theorem afh(hn:n<2^b)(hb:b<=h):n.testBit h=false:=
 sg (YM hn (oQ (by decide) hb))
theorem RZ{p:Nat->Bool}{c:Nat}(hb:b<=c)(hp:∀h,b<=h->p h=false):(cS c).filter p=(cS b).filter p:=by
 induction c with
 |zero=>
  have:b=0:=by omega
  subst this;rfl
 |succ c ih=>
  by_cases e:b=c+ 1
  ·subst e;rfl
  ·rw[qh,mB,ih (by omega)];have:[c].filter p=[]:=by
    rw[xS,hp c (by omega)];rfl
   rw[this,cy]
theorem agP(hb:b<=63)(hn:n<2^b):(cS b).filter (λh=>n.testBit h)=V2 n:=
 (RZ hb λ_ hh=>afh hn hh).symm
theorem HJ:h∈V2 n↔h<63/\n.testBit h=true:=by
 unfold V2;rw[cc,fb]
theorem aeG(n:Nat):(V2 n).length<=63:=by
 have:=nE (λh=>n.testBit h) (cS 63);rw[cK]at this;exact this
theorem zU(n:Nat):(V2 n).Pairwise (·<·):=List.Pairwise.filter _ mI
noncomputable def hl(n:Int):List Int:=(V2 n.toNat).map (fun(h:Nat)=>(h:Int))
theorem TQ(n:Int):(hl n).length<=63:=by
 unfold hl;rw[Yi];exact aeG _
theorem Up{n:Int}:(h:Int)∈hl n↔h<63/\n.toNat.testBit h=true:=by
 unfold hl;rw[YF];constructor
 ·rintro⟨a,ha,e⟩;have:a=h:=by omega
  subst this;exact HJ.mp ha
 ·intro q;exact⟨h,HJ.mpr q,rfl⟩
theorem agi{n:Int}{a:Int}{r:List Int}(e:hl n=a::r):∀x∈hl n,a<=x:=by
 have s:(hl n).Pairwise (·<·):=by
  unfold hl;rw[rX];exact(zU _).imp λh=>by omega
 rw[e]at s⊢;intro x hx;rcases YC.mp hx with rfl|hx
 ·exact fF _
 ·have:=(vw.mp s).1 x hx;omega
end GB
namespace GB
noncomputable def aaV(l:List Nat):Nat:=l.foldl (λa h=>a ||| 2^h) 0
theorem UT(h:Nat):∀(l:List Nat) (a:Nat),(l.foldl (λa h=>a ||| 2^h) a).testBit h=(a.testBit h||decide (h∈l))
 |[],a=>by simp
 |x::l,a=>by
  rw[kg,UT h l,rj,l5,G0];congr 1;rw[eD];simp only[zD,decide_eq_true_iff,YC];constructor
  ·rintro(e|e)
   ·exact .inl e.symm
   ·exact .inr e
  ·rintro(e|e)
   ·exact .inl e.symm
   ·exact .inr e
theorem U4(l:List Nat)(h:Nat):(aaV l).testBit h=decide (h∈l):=by
 unfold aaV;rw[UT,cE,iX]
theorem ag2{l:List Nat}{b:Nat}(h:∀x∈l,x<b):aaV l<2^b:=by
 apply xk;intro i hi;rw[U4];exact decide_eq_false λz=>by have:=h i z;omega
end GB
namespace L2
open PySem PySem.Spec PyProof.Rows
variable{X:Cx}{H:Hp}{h:YR}{C D:Yc}{elt tg iter e:YY}{ifs es:List YY}{sc:jv}{pos p:hJ}{g:TG}{tt:TT}{te:TE}{σ:St}{Qe:Hp->Prop}{wi:TI}{x:Yj}{kws:List DD}{t:TA}
noncomputable def alb(N:List Yj)(sc:jv)(x:Yj):Option Nat->Bool
 |none=>true
 |some j=>decide (N[j]?=Ya x)&&decide (sc.names.lookup x=Ya .free)
def afN(N N':List Yj)(src:List (Option Nat))(esc sc:jv):Prop:=
 (∀y∈sc.names,y.2≠.cell)/\(∀y∈sc.names,y.2=.local->sc.names.lookup y.1=Ya .local)/\
 (∀y∈sc.names,y.2=.free->esc.names.lookup y.1=Ya .cell∨esc.names.lookup y.1=Ya .free)/\
 N'.Nodup/\src.length=N'.length/\∀p∈N'.zip src,alb N sc p.1 p.2=true
noncomputable instance (N N':List Yj) (src:List (Option Nat)) (esc sc:jv):Decidable (afN N N' src esc sc):=by unfold afN;infer_instance
noncomputable def Wj(src:List (Option Nat))(σ:St):St:=src.map λo=>o.bind λj=>(σ[j]?).bind λv=>v
noncomputable def Cx.blk(X:Cx)(N':List Yj)(sc:jv)(cl:List (Yj×Yc))(C:Yc)(s2:Yh)(H2:Hp)(fp:List Yc):Cx:=
 {X with N:=N',s₀:=s2,H₀:=H2,env:=compEnvC sc cl C X.env,outer:=X.stack,ex:=fp,fn:=λ_=>false,pn:=[],xe:=λ_ _=>False}
def PIf(X:Cx)(ifs:List YY)(t:TT):Prop:=
 ∀(pins:List (Yc×Y3)) (s:Yh) (σ:St) (H:Hp) (Q:Bool->Hp->Prop),bw X pins σ H s->t σ H Q->
  Ym (Ys X.prog X.w) X.A (forIn ifs true λc r=>if r=true then do let ok←Ct c X.env (aE c X.env);pure (tI ok)else pure (tI r)) (TP X pins σ Q) X.xe s
def ams:TT:=λ_ H Q=>Q true H
theorem dB:PIf X [] ams:=λ_ _ _ H _ I h=>wpAny_tests_nil ⟨H,I,h⟩
theorem jL{c:YY}{t:TT}(h:PT X c t):PIf X [c] t:=λpins s σ H Q I hw=>wpAny_tests_one (h pins s σ H Q I hw)
theorem Un.but{fs ex:List Yc}{H':Hp}{h1 h2:YR}(u:Un fs ex H H' h h1)(sb:eT C h1 h2)(hC:h.get? C=Yb):Un fs ex H H' h h2:=
 have ne:∀b o,h.get? b=Ya o->b≠C:=λb o e z=>by rw[z,hC]at e;cases e
 ⟨λb o e n hb hx=>(sb.2 b (ne b o e)).trans (u.keep b o e n hb hx),λb o e n hb hx=>let ⟨sl,z⟩:=u.slot b o e n hb hx;⟨sl,(sb.2 b (ne b o e)).trans z⟩,u.free,
  λb o e hx=>let ⟨o',z⟩:=u.there b o e hx;⟨o',(sb.2 b (ne b o e)).trans z⟩,u.tups,u.frzs,u.tbls⟩
theorem vd.but{P:YJ}{w:YV}{h':YR}(x:vd P w H h)(sb:eT C h h')(hC:H C=Yb):vd P w H h':=λb ob e=>by
 refine(x b ob e).stay (λc v hc q=>(sb.2 c ?_).trans q) (λ_ q=>q) λ_ _ q=>q;rintro rfl;rcases hc with rfl|hc
 ·rw[hC]at e;cases e
 ·rw[hC]at hc;cases hc
def pR(g:TG)(tt:TT)(te:TE)(D:Yc)(N:St->Hp->Prop)(x:V)(σ:St)(H:Hp):Prop:=
 g x σ H λσ2 H2=>tt σ2 H2 λb H3=>if b=true then te σ2 H3 λy H4=>∃ys,H4 D=Ya (.lst ys)/\ys.length<YB/\N σ2 (upd H4 D (.lst (ys++[y])))else N σ2 H3
def aex(src:List (Option Nat))(wi:TI)(g:TG)(tt:TT)(te:TE):TE:=λσ H Q=>wi σ H λJ H1=>∀D,H1 D=Yb->∃W:Nat->Nat->St->Hp->Prop,(∃m,W 0 m (Wj src σ) (upd H1 D (.lst [])))/\
 ∀i m σ' H',W i m σ' H'->(J.stop i H'/\Q (.ref D) H')∨(J.go i H'/\∃N:St->Hp->Prop,(∀σ2 H2,N σ2 H2->∃m',m'<m/\W (i+ 1) m' σ2 H2)/\
  ∀x H'',J.yld i H' x H''->pR g tt te D N x σ' H'')
theorem Ru{N':List Yj}{src:List (Option Nat)}{cl:List (Yj×Yc)}{pins:List (Yc×Y3)}{H2:Hp}{s2:Yh}{it:Yc}{fp:List Yc}{tn:Nat->YR->Prop}{J:It}{W:Nat->Nat->St->Hp->Prop}{m0:Nat}{RR:Yd->Yc->pf->Yh->Prop}(hc:X.calm=true)(hk:sc.kind=.function)(hB:afN X.N N' src X.env.scope sc)(hsub:∀x c,cl.lookup x=Ya c->X.env.cells.lookup x=Ya c)(hhas:∀n,(n,dk)∈sc.names->∃c,cl.lookup n=Ya c)(hg:∀cl C s2 H2 fp,N'.Nodup->PG (X.blk N' sc cl C s2 H2 fp) tg g)(ht:∀cl C s2 H2 fp,PIf (X.blk N' sc cl C s2 H2 fp) ifs tt)(he:∀cl C s2 H2 fp,PE (X.blk N' sc cl C s2 H2 fp) elt te)(I2:bw X pins σ H2 s2)(T:Turn X.prog X.w X.K tg J fp it tn)(st2:tn 0 s2.heap)(f2:∀b∈fp,Hv X pins H2 b)(w0:W 0 m0 (Wj src σ) (upd H2 s2.heap.objs.size (.lst [])))(turn:∀i m σ' H',W i m σ' H'->(J.stop i H'/\Qe H')∨(J.go i H'/\∃N:St->Hp->Prop,(∀σ2 H2,N σ2 H2->∃m',m'<m/\W (i+ 1) m' σ2 H2)/\
   ∀x H'',J.yld i H' x H''->pR g tt te s2.heap.objs.size N x σ' H'')) (fin:∀C s4 σ3 H3,s2.heap.objs.size<=C->bw (X.blk N' sc cl C s2 H2 fp) [] σ3 H3 s4->Qe H3->RR (.ref s2.heap.objs.size) C (.ok .next) s4):
  Ym (Ys X.prog X.w) X.A (DE []) (λacc s₃=>Ym (Ys X.prog X.w) X.A (newFunctionEnv sc X.env.globals cl [] X.env.qual Yb .none (Ya X.env)) (λcenv s₄=>
   de (Ys X.prog X.w) X.A (.compStart (.ListComp elt [⟨tg,iter,ifs,0⟩] sc pos) 0 (.ref it) acc {cenv with scope:=relabel sc X.env}) (RR acc cenv.locals) s₄) X.xe s₃) X.xe s2:=by
 obtain⟨b1,b2,b3,b4,b5,b6⟩:=hB;refine el (BM b1 (by intro y hy;simp at hy) (λh₁ ns₁ sb₁=>?_) hk);dsimp only at ns₁ sb₁⊢;generalize hP:s2.heap.push {cls:=.type "list",dict:=Yb,data:=.seq ([]:List Yd).toArray}=Hl at ns₁ sb₁⊢;have hC:Hl.objs.size=s2.heap.objs.size+ 1:=by rw[←hP,ff]
 have nDC:s2.heap.objs.size≠Hl.objs.size:=by rw[hC];exact YH (i8 _)
 have below:∀{b:Yc} {o:Y3},s2.heap.get? b=Ya o->b≠Hl.objs.size:=fun{b o} z=>by
  have:=Yu z;rw[hC];exact YH (kG this)
 have old:∀b o,s2.heap.get? b=Ya o->h₁.get? b=Ya o:=λb o z=>sb₁.extBut b o (below z) (Yg _ (hP▸Yg _ z));have hD1:h₁.get? s2.heap.objs.size=Ya {cls:=.type "list",data:=.seq ([]:List Yd).toArray}:=sb₁.extBut _ _ nDC (Yg _ (hP▸Yq _ rfl));have fD:H2 s2.heap.objs.size=none:=I2.hok.fresh (Yn _);have fC:H2 Hl.objs.size=none:=I2.hok.fresh (by rw[hC];exact hZ _);have ok:(X.blk N' sc cl Hl.objs.size s2 H2 fp).Ok:=by
  refine⟨I2.ok.mod,hk,I2.ok.glob,I2.ok.blt,?_,λx y c h1 h2=>I2.ok.inj x y c (hsub x c h1) (hsub y c h2),λx hx=>?_,λx c z=>?_,I2.ok.hd,I2.ok.frames,.inl rfl,λb hb=>⟨?_,λx c z=>(f2 b hb).2.2.2.2.1 x c (hsub x c z)⟩,
   I2.bs,dy I2.ok.bsz I2.sz,λb o z hb=>?_,λb hb z=>?_,I2.stack,I2.stkFree⟩
  ·show s2.heap.objs.size<=Hl.objs.size;rw[hC];exact hZ _
  ·have hx':(sc.names.map fun(n,k)=>if(k==dk&&X.env.scope.kind==.function&&X.env.kindOf n==Ya .cell)then(n,gS)else(n,k)).lookup x=Ya .cell∨
     (sc.names.map fun(n,k)=>if(k==dk&&X.env.scope.kind==.function&&X.env.kindOf n==Ya .cell)then(n,gS)else(n,k)).lookup x=Ya .free:=hx
   rw[GX.Ae]at hx';cases e:sc.names.lookup x with
   |none=>
    rw[e]at hx';simp at hx'
   |some k=>
    rw[e]at hx';by_cases hf:k=.free
    ·subst hf;exact hhas x (df e)
    ·have hb:(k==dk)=false:=by simpa using hf
     have e2:((Ya k).map λk=>if(k==dk&&X.env.scope.kind==.function&&X.env.kindOf x==Ya .cell)then gS else k)=Ya k:=by
      show Ya (if(k==dk&&X.env.scope.kind==.function&&X.env.kindOf x==Ya .cell)=true then gS else k)=Ya k;rw[hb,fe,fe];rfl
     rw[e2]at hx';rcases hx' with z|z
     ·exact absurd (YL z) (b1 _ (df e))
     ·exact absurd (YL z) hf
  ·cases z
  ·obtain⟨o,z,_⟩:=T.obj 0 _ st2 b hb;exact below z
  ·rcases(f2 b hb).2.2.2.1 with f3|f3
   ·exact I2.ok.noex b o z f3
   ·have l1:=Yu z;have l2:=I2.ok.bsz;exact absurd (YM l1 (dy l2 f3)) (Y2 _)
  ·rcases YC.mp (I2.stkSub b z)with z|z
   ·exact(f2 b hb).2.1 z
   ·exact(f2 b hb).2.2.1 z
 have IY:bw (X.blk N' sc cl Hl.objs.size s2 H2 fp) [] (Wj src σ) (upd H2 s2.heap.objs.size (.lst [])) {s2 with heap:=h₁,toks:=s2.toks+ ([]:List (Yj×Yd)).length}:=by
  refine⟨ok,rfl,I2.bare,Un.laid old (Yn _) fD,⟨_,ns₁,λi x v e1 e2 _=>?_⟩,λx c z=>?_,?_,λx c z=>?_,λp hp=>?_,I2.hok.laid old (Yn _) ⟨YZ _,[],0,.nil,hD1⟩,?_⟩
  ·have e1':N'[i]?=Ya x:=e1;unfold Wj at e2;rw[Yv]at e2;cases es:src[i]? with
   |none=>rw[es]at e2;cases e2
   |some o=>
    rw[es]at e2;cases o with
    |none=>cases e2
    |some j=>
     have e3:(σ[j]?).bind (λv=>v)=Ya v:=YL e2;have e4:σ[j]?=Ya (Ya v):=by
      cases q:σ[j]? with
      |none=>rw[q]at e3;cases e3
      |some w=>rw[q]at e3;exact congrArg Ya e3
     have hz:(x,Ya j)∈N'.zip src:=YE (i:=i) (by rw[kL];exact⟨e1',es⟩);have hcap:=b6 _ hz;have hcap':(decide (X.N[j]?=Ya x)&&decide (sc.names.lookup x=Ya .free))=true:=hcap;rw[fy]at hcap';have c1:X.N[j]?=Ya x:=of_decide_eq_true hcap'.1;have c2:sc.names.lookup x=Ya .free:=of_decide_eq_true hcap'.2;have hfree:=df c2;have vis:=b3 _ hfree rfl;obtain⟨m,hn,hl⟩:=I2.loc;obtain⟨u,ru,lk⟩:=hl j x v c1 e4 (.inr vis);rcases lk with⟨k1,_⟩|⟨_,c,k2,z⟩
     ·have k1':X.env.scope.names.lookup x=Ya .local:=k1;rcases vis with v|v<;>(rw[k1']at v;cases v)
     ·obtain⟨c',k3⟩:=hhas x hfree;have k4:=hsub x c' k3;rw[k2]at k4;cases k4;refine⟨u,ru,.inr ⟨?_,c,k3,z.keeps old⟩⟩;show(sc.names.map fun(n,k)=>if(k==dk&&X.env.scope.kind==.function&&X.env.kindOf n==Ya .cell)then(n,gS)else(n,k)).lookup x=Ya .cell∨
       (sc.names.map fun(n,k)=>if(k==dk&&X.env.scope.kind==.function&&X.env.kindOf n==Ya .cell)then(n,gS)else(n,k)).lookup x=Ya .free
      rw[GX.Ae,c2];show Ya (if _ then gS else dk)=_∨Ya (if _ then gS else dk)=_;split
      ·exact .inl rfl
      ·exact .inr rfl
  ·obtain⟨v,q⟩:=I2.cell x c (hsub x c z);exact⟨v,q.keeps old⟩
  ·show upd H2 s2.heap.objs.size (.lst []) Hl.objs.size=Yb;rw[aK (Ne.symm nDC)];exact fC
  ·obtain⟨v,q⟩:=I2.cell x c (hsub x c z);rw[aK (YH q.lt)];exact I2.freeC x c (hsub x c z)
  ·exact absurd (show p∈([]:List (Yc×Y3))from hp) (by simp)
  ·show(src.map _).length=N'.length;rw[Yi];exact b5
 have stat:∀{H':Hp},(∀b∈fp,H' b=Yb)->∀b∈fp,Hv (X.blk N' sc cl Hl.objs.size s2 H2 fp) [] H' b:=λhn b hb=>
  ⟨hn b hb,(ok.exf b hb).1,ok.exfs b hb,.inl hb,(ok.exf b hb).2,λp hp=>absurd (show p∈([]:List (Yc×Y3))from hp) (by simp)⟩
 have loop:de (Ys X.prog X.w) X.A (.compLoop (.ListComp elt [⟨tg,iter,ifs,0⟩] sc pos) 0 (.ref it) (.ref s2.heap.objs.size) (compEnvC sc cl Hl.objs.size X.env))
   (RR (.ref s2.heap.objs.size) Hl.objs.size) {s2 with heap:=h₁,toks:=s2.toks+ ([]:List (Yj×Yd)).length}:=by
  refine GX.VH (λn s'=>∃i σ' H',bw (X.blk N' sc cl Hl.objs.size s2 H2 fp) [] σ' H' s'/\tn i s'.heap/\(∀b∈fp,H' b=Yb)/\W i n σ' H') ?_ m0
   ⟨0,_,_,IY,T.keep 0 _ _ st2 (λb _ o z=>old b o z),λb hb=>?_,w0⟩
  ·rintro n s3 ⟨i,σ3,H3,I3,st3,fr3,w3⟩;rcases turn i n σ3 H3 w3 with⟨stop,qn⟩|⟨go,N,hN,step⟩
   ·refine Yf (dN (T.done (X.blk N' sc cl Hl.objs.size s2 H2 fp) rfl rfl rfl hc i [] s3 σ3 H3 (λ_ _=>False) I3 (stat fr3) st3 stop) λr s4 zz=>?_);obtain⟨hr,I4⟩:=zz;subst hr;exact Yr<|fin _ s4 σ3 H3 (by rw[hC];exact hZ _) I4 qn
   ·refine Yf (dN (T.item (X.blk N' sc cl Hl.objs.size s2 H2 fp) rfl rfl rfl hc i [] s3 σ3 H3 (λ_ _=>False) I3 (stat fr3) st3 go) λr s4 zz=>?_);obtain⟨u,hr,h4⟩:=zz;subst hr;refine Yf (dN h4 λ_ s5 zz=>?_);obtain⟨x,H5,I5,r5,y5,st5,fr5⟩:=zz;have I5':=I5.pinned (stat fr5) (T.obj _ _ st5);have again:∀{σ7:St} {H7:Hp} {s7:Yh},bw (X.blk N' sc cl Hl.objs.size s2 H2 fp) ([]++Jq fp s5.heap) σ7 H7 s7->N σ7 H7->
      ∃m,m<n/\∃i σ' H',bw (X.blk N' sc cl Hl.objs.size s2 H2 fp) [] σ' H' s7/\tn i s7.heap/\(∀b∈fp,H' b=Yb)/\W i m σ' H':=fun{σ7 H7 s7} I7 n7=>by
     obtain⟨m',hm,w7⟩:=hN σ7 H7 n7;refine⟨m',hm,i+ 1,σ7,H7,I7.unpinned,T.keep _ _ _ st5 λb hb o z=>(I7.pin (b,o) (YW _ (YW _ (ni hb z)))).1,λb hb=>?_,w7⟩;obtain⟨o,z,_⟩:=T.obj _ _ st5 b hb;exact(I7.pin (b,o) (YW _ (YW _ (ni hb z)))).2.1
    refine Yf (dN (hg cl Hl.objs.size s2 H2 fp b4 _ s5 σ3 H5 x u _ I5' r5 (step x H5 y5)) λ_ s6 zz=>?_);obtain⟨σ6,H6,I6,q6⟩:=zz;refine Yf (dN (ht cl Hl.objs.size s2 H2 fp _ s6 σ6 H6 _ I6 q6) λok s7 zz=>?_);obtain⟨H7,I7,q7⟩:=zz;cases ok with
    |true=>
     rw[if_pos rfl]at q7⊢;refine Yf (dN (he cl Hl.objs.size s2 H2 fp _ s7 σ6 H7 _ I7 q7) λyv s8 zz=>?_);obtain⟨y,H8,I8,r8,ys,hD,hz,n8⟩:=zz;exact Yf<|dN (Jg (X:=X.blk N' sc cl Hl.objs.size s2 H2 fp) _ s8 σ6 H8 (.ref s2.heap.objs.size) [y] (.ref s2.heap.objs.size) [yv] (λ_ H'=>N σ6 H') I8 rfl (.cons r8 .nil) ⟨_,ys,y,rfl,rfl,hD,hz,n8⟩)
      λ_ s9 ⟨_,H9,I9,_,n9⟩=>Yr (again I9 n9)
    |false=>
     rw[if_neg YS]at q7⊢;exact Yr (again I7 q7)
  ·obtain⟨o,z,_⟩:=T.obj 0 _ st2 b hb;rw[aK (YH (Yu z))];exact(f2 b hb).1
 exact codeAny_compStart_list loop (T.self X.A 0 _ _ _ (T.keep 0 _ _ st2 (λb _ o z=>old b o z)) loop)
theorem cu(N':List Yj)(src:List (Option Nat))(hc:X.calm=true)(hk:sc.kind=.function)(hB:decide (afN X.N N' src X.env.scope sc)=true)(hi:PI X tg iter wi)(hg:∀cl C s2 H2 fp,N'.Nodup->PG (X.blk N' sc cl C s2 H2 fp) tg g)(ht:∀cl C s2 H2 fp,PIf (X.blk N' sc cl C s2 H2 fp) ifs tt)(he:∀cl C s2 H2 fp,PE (X.blk N' sc cl C s2 H2 fp) elt te)(hs:∀x,wq iter X.env x=pure x:=by intro _;rfl):
  PE X (.ListComp elt [⟨tg,iter,ifs,0⟩] sc pos) (aex src wi g tt te):=by
 intro pins s σ H Q I h;have B:=of_decide_eq_true hB;obtain⟨cl,hclos,hsub,hhas⟩:=GX.My (env:=X.env) (sc:=sc) λy hy hf=>I.ok.has y.1 (B.2.2.1 y hy hf);rw[eval_ListComp];refine ya (use:=Yb) rfl hs hclos hk B.2.1 (dN (hi pins s σ H _ I h) λv s1 h1=>dN h1 λitv s2 h2=>?_);obtain⟨it,fp,tn,J,H2,e,I2,T,st2,f2,q⟩:=h2;subst e;obtain⟨W,⟨m0,w0⟩,turn⟩:=q s2.heap.objs.size (I2.hok.fresh (Yn _));refine Ru (RR:=λacc C=>compPost (Ys X.prog X.w) X.A X.xe Yb (EP X pins σ Q) acc C) (Qe:=λH'=>Q (.ref s2.heap.objs.size) H') hc hk B hsub hhas hg ht he I2 T st2 f2 w0 turn λC s4 σ3 H3 hC I4 qn=>?_;obtain⟨m,hn,_⟩:=I4.loc;refine⟨m,hn,λh' sb=>⟨.ref s2.heap.objs.size,H3,?_,rfl,qn⟩⟩;exact I2.call' (s':={s4 with heap:=h'}) (ch:=fp) I4.os (I4.base.but sb (BA hC)) (I4.hok.but sb I4.free) I4.bare λb hb=>⟨(f2 b hb).2.2.2.1,(f2 b hb).2.1,(f2 b hb).2.2.2.2.1,(f2 b hb).2.2.2.2.2⟩
theorem Ln{py spos:hJ}{y:Yj}{i:Nat}(N':List Yj)(src:List (Option Nat))(hN:X.N.Nodup)(hy:X.N[i]?=Ya y)(hl:Loc X.env.scope y)(hc:X.calm=true)(hk:sc.kind=.function)(hB:decide (afN X.N N' src X.env.scope sc)=true)(hi:PI X tg iter wi)(hg:∀cl C s2 H2 fp,N'.Nodup->PG (X.blk N' sc cl C s2 H2 fp) tg g)(ht:∀cl C s2 H2 fp,PIf (X.blk N' sc cl C s2 H2 fp) ifs tt)(he:∀cl C s2 H2 fp,PE (X.blk N' sc cl C s2 H2 fp) elt te)(hsw:vk (.ListComp elt [⟨tg,iter,ifs,0⟩] sc pos) (Ya (.Name y py)) spos.line X.env=pure true:=by rfl)(hs:∀x,wq iter X.env x=pure x:=by intro _;rfl)(hf:X.fn y=true∨X.env.scope.names.lookup y=Ya .local:=by first|exact .inl rfl|exact .inr rfl):
  PS X (.Assign [.Name y py] (.ListComp elt [⟨tg,iter,ifs,0⟩] sc pos) spos) (ag0 (aex src wi g tt te) (abk i)):=by
 intro pins s σ H D I h;have B:=of_decide_eq_true hB;obtain⟨cl,hclos,hsub,hhas⟩:=GX.My (env:=X.env) (sc:=sc) λy hy hf=>I.ok.has y.1 (B.2.2.1 y hy hf);rw[exec_Assign_Name_used _ _ _ _ hsw];refine Yf (BU (Yf ?_));show Ym _ X.A (do let _←comprehension (.ListComp elt [⟨tg,iter,ifs,0⟩] sc pos) sc X.env _ (DE []) false (aE iter X.env) (Ya (AL (.Name y py) X.env))) _ _ s;refine Yf (ax (ya (use:=Ya (AL (.Name y py) X.env)) (Q:=λ_ s'=>SP X pins D .next s') rfl hs hclos hk B.2.1
  (dN (hi pins s σ H _ I h) λv s1 h1=>dN h1 λitv s2 h2=>?_)) (λ_ s' hq=>Yr (Yr hq)) λ_ _ e=>e)
 obtain⟨it,fp,tn,J,H2,e,I2,T,st2,f2,q⟩:=h2;subst e;obtain⟨W,⟨m0,w0⟩,turn⟩:=q s2.heap.objs.size (I2.hok.fresh (Yn _));refine Ru (RR:=λacc C=>compPost (Ys X.prog X.w) X.A X.xe (Ya (AL (.Name y py) X.env)) (λ_ s'=>SP X pins D .next s') acc C) (Qe:=λH'=>D.nx (σ.set i (Ya (.ref s2.heap.objs.size))) H') hc hk B hsub hhas hg ht he I2 T st2 f2 w0 turn
  λC s4 σ3 H3 hC I4 qn=>?_
 have IX:bw X pins σ H3 s4:=I2.call' (ch:=fp) I4.os I4.base I4.hok I4.bare λb hb=>⟨(f2 b hb).2.2.2.1,(f2 b hb).2.1,(f2 b hb).2.2.2.2.1,(f2 b hb).2.2.2.2.2⟩;have nC:∀{b:Yc} {o:Y3},s2.heap.get? b=Ya o->C≠b:=fun{b o} z=>j3 (YM (Yu z) hC);have nL:C≠X.env.locals:=j3 (YM I2.lt hC);have nK:∀x c,X.env.cells.lookup x=Ya c->c≠C:=λx c z=>by
  obtain⟨v,o,ho,_⟩:=I2.cell x c z;exact Ne.symm (nC ho)
 obtain⟨m,hn,_⟩:=I4.loc;show Ym _ X.A (AL (.Name y py) X.env (.ref s2.heap.objs.size)) _ _ s4;refine DI (Rf IX hN hy hl (v:=.ref s2.heap.objs.size) rfl (λs5 I5 h5=>?_) hf);obtain⟨a,sb,ha⟩:=h5;have na:C≠a:=by
  rcases ha with z|z
  ·rw[z];exact nL
  ·exact Ne.symm (nK _ _ z)
 refine⟨m,hn.sameBut sb na,λh' sb'=>⟨_,H3,?_,qn⟩⟩;exact I5.turned (it:=C) (t':=s5.toks) (λb o hb z=>(sb'.2 b hb).trans z) I4.free nL (.inr (dy I2.sz hC)) nK λp hp=>Ne.symm (nC (I2.pin p hp).1)
theorem Fo{lo:Int}{n:Nat}(Pv:Nat->St->Hp->Prop)(h0:Pv 0 σ H)(hs:∀i σ H,i<n->Pv i σ H->pR g tt te D (Pv (i+ 1)) (.int (lo+ i)) σ H)(hd:∀σ H,Pv n σ H->Qe H):
  ∃W:Nat->Nat->St->Hp->Prop,(∃m,W 0 m σ H)/\∀i m σ' H',W i m σ' H'->((Itr lo n).stop i H'/\Qe H')∨((Itr lo n).go i H'/\∃N:St->Hp->Prop,(∀σ2 H2,N σ2 H2->∃m',m'<m/\W (i+ 1) m' σ2 H2)/\
   ∀x H'',(Itr lo n).yld i H' x H''->pR g tt te D N x σ' H''):=by
 refine⟨λi m σ H=>m=n-i/\i<=n/\Pv i σ H,⟨n,by simp,YZ _,h0⟩,?_⟩;rintro i m σ H ⟨rfl,hi,p⟩;by_cases hlt:i<n
 ·refine .inr ⟨hlt,Pv (i+ 1),λσ' H' p'=>⟨n-(i+ 1),by omega,rfl,hlt,p'⟩,λx H' y=>?_⟩;obtain⟨e,y⟩:=y;subst e y;exact hs i σ _ hlt p
 ·have e:i=n:=by omega
  subst e;exact .inl ⟨Yn _,hd σ H p⟩
theorem bO{K:Ye}{a:Yc}{xs:List V}(Pv:Nat->St->Hp->Prop)(h0:Pv 0 σ H)(hl:∀i σ H,i<=xs.length->Pv i σ H->bI K H a xs)(hs:∀i x σ H,xs[i]?=Ya x->Pv i σ H->pR g tt te D (Pv (i+ 1)) x σ H)(hd:∀σ H,Pv xs.length σ H->Qe H):
  ∃W:Nat->Nat->St->Hp->Prop,(∃m,W 0 m σ H)/\∀i m σ' H',W i m σ' H'->((Itl K a).stop i H'/\Qe H')∨((Itl K a).go i H'/\∃N:St->Hp->Prop,(∀σ2 H2,N σ2 H2->∃m',m'<m/\W (i+ 1) m' σ2 H2)/\
   ∀x H'',(Itl K a).yld i H' x H''->pR g tt te D N x σ' H''):=by
 refine⟨λi m σ H=>m=xs.length-i/\i<=xs.length/\Pv i σ H,⟨xs.length,by simp,YZ _,h0⟩,?_⟩;rintro i m σ H ⟨rfl,hi,p⟩;have q:=hl i σ H hi p;by_cases hlt:i<xs.length
 ·refine .inr ⟨⟨xs,xs[i],q,by simp[hlt]⟩,Pv (i+ 1),λσ' H' p'=>⟨xs.length-(i+ 1),by omega,rfl,hlt,p'⟩,λx H' y=>?_⟩;obtain⟨e,y⟩:=y;subst e;exact hs i x σ _ (y xs q) p
 ·have e:i=xs.length:=by omega
  subst e;exact .inl ⟨⟨xs,q,Yn _⟩,hd σ H p⟩
section
theorem Ux:iZ X (.builtin "isinstance") (λxs H Q=>∃(x:V) (t:Yd) (T:String) (b:Bool),xs=[x,.ty T]/\Gx X.K H x t/\AN X.K t (.type T)=Ya b/\Q (.bl b) H):=by
 intro pins s σ H xs us Q I r h;obtain⟨x,t,T,b,rfl,ty,e,q⟩:=h;obtain⟨u,w',rfl,r1,r2⟩:=Xk r;obtain rfl:w'=jI T:=r2;exact adF I r1 ty e λtk=>⟨.bl b,H,I.tok tk,rfl,q⟩
theorem ac7:MtR X "int.bit_length" (λx vs H Q=>∃i,x=.int i/\vs=[]/\Q (.int (ed i)) H):=by
 intro pins s σ H x xs v us Q I rx rv h;obtain⟨i,rfl,rfl,q⟩:=h;obtain⟨t,rfl⟩:=rx;cases rv;exact call_int_bit_length ⟨.int (ed i),H,I.tok _,⟨_,rfl⟩,q⟩
def afr(X:Cx)(id:String)(ks:List Yj)(r:List V->List V->Hp->VK->Prop):Prop:=
 ∀(pins:List (Yc×Y3)) (s:Yh) (σ:St) (H:Hp) (xs zs:List V) (us ws:List Yd) (Q:VK),bw X pins σ H s->Vals xs us->Vals zs ws->r xs zs H Q->
  Ym (Ys X.prog X.w) X.A (call (.builtin id) us (ks.zip ws)) (EP X pins σ Q) X.xe s
def alc(r:List V->List V->Hp->VK->Prop)(t tk:TA):TE:=λσ H Q=>t σ H λvs H1=>tk σ H1 λzs H2=>r vs zs H2 Q
theorem acA{ks:List Yj}{tk:TA}{id:String}{r:List V->List V->Hp->VK->Prop}(hc:afr X id ks r)(hg:Gl X x)(hm:X.mg x=Yb)(hv:iq x=Ya (.builtin id))(ha:PA X (e::es) t)(hk:PK X kws tk)(hks:(kz pos (fE kws X.env)).filterMap (·.1)=ks:=by rfl)(hn:x≠"__name__":=by decide)(hdb:(x==("__debug__":Yj))=false:=by decide)(he:dE pos (YO (e::es) X.env)=(false,aE e X.env)::dE pos (YO es X.env):=by rfl)(hplain:(dE pos (YO (e::es) X.env)).any (·.1)=false:=by rfl)(hall:(kz pos (fE kws X.env)).all (·.1.isSome)=true:=by rfl)(hkw:(kz pos (fE kws X.env)).any (·.1.isNone)=false:=by rfl):PE X (.Call (.Name x p) (e::es) kws pos) (alc r t tk):=by
 intro pins s σ H Q I h;refine eL (wR I hg hm hv ?_ hn hdb);refine og (dN (ha pos pins s σ H _ I h) λus s1 zz=>?_) he hplain hall hkw;obtain⟨vs,H1,I1,r1,q1⟩:=zz;refine dN (hk pos pins s1 σ H1 _ I1 q1) λws s2 zz=>?_;obtain⟨zs,H2,I2,r2,q2⟩:=zz;rw[hks];exact hc pins s2 σ H2 vs zs us ws Q I2 r1 r2 q2
theorem Jz(a v:Yd):ka "min" ⟨[a],[(af "default",v)]⟩:=by unfold ka;kernel_rfl
theorem adu(hc:X.calm=true):afr X "min" [af "default"] (λxs zs H Q=>∃(p:Yc) (ns:List Int) (d:V),xs=[.ref p]/\zs=[d]/\bI X.K H p (ns.map V.int)/\(ns=[]->Q d H)/\∀b,b∈ns->(∀z∈ns,b<=z)->Q (.int b) H):=by
 intro pins s σ H xs zs us ws Q I r rz h;obtain⟨p,ns,d,rfl,rfl,hq,h0,h1⟩:=h;obtain⟨u,rfl,rx⟩:=j0 r;cases rx;obtain⟨dv,rfl,rd⟩:=j0 rz;obtain⟨its,rv,pl,hz⟩:=I.list hq;have hl:its.length=ns.length:=by rw[←rv.length,Yi]
 have Xg:∀(i:Nat) v,its[i]?=Ya v->∃n t,ns[i]?=Ya n/\v=.int n t:=λi v e=>by
  have b:i<ns.length:=hl▸(Yp.mp e).1;obtain⟨u,hu,t,rfl⟩:=rv.get (i:=i) (x:=V.int ns[i]) (by simp[b]);exact⟨ns[i],t,by simp[b],YL (e.symm.trans hu)⟩
 refine GX.Ny GX.Qt GX.VM AE AF (ko:=Yb) (d:=Ya dv) (I.ok.hd hc) rfl (Jz _ _) pl.isList
  (λi j=>decide (ns.getD i 0<ns.getD j 0)) (λi=>by simp) (λi j h=>by simp at h⊢;omega) (λa b c h h2=>by simp at h h2⊢;omega) (λi v=>∃t,v=.int (ns.getD i 0) t) ?_ ?_ ?_ ?_
 ·intro j v h tk hv G;obtain⟨n,t,hn,rfl⟩:=Xg j v hv;exact And.intro ⟨t,by rw[YU,hn];rfl⟩ ⟨tk,rfl⟩
 ·exact λi j k k' h tk hk hk' G Q q=>CmpOf.ints_lt (P:=λi v=>∃t,v=.int (ns.getD i 0) t) (λi=>ns.getD i 0) (λ_ _ z=>z) j i _ _ _ _ _ hk hk' q
 ·exact λe=>⟨dv,rfl,λh tk G=>⟨d,H,I.kept (t':=tk) G,rd,h0 (dA (by rw[←hl,e];rfl))⟩⟩
 ·intro i v h tk hv ft G;obtain⟨n,t,hn,rfl⟩:=Xg i v hv;refine⟨.int n,H,I.kept (t':=tk) G,⟨t,rfl⟩,h1 n (YE hn) λz hz=>?_⟩;obtain⟨j,hj,rfl⟩:=pT hz;have:=(ft j (hl▸hj)).1;simpa [YU,hn,hj]using this
end
structure gW(K:Ye)(mg:Yj->Option Yd)(x:Yj)(f:Yc)(fd:Yt)(ps:List Yj):Prop where
 mg:mg x=Ya (.ref f)
 kp:kP K (.ref f)=true
 bd:Binds K fd ps []
theorem bh{k:Nat}{f:Yc}{fd:Yt}{ps:List Yj}{sp:Sp}(F:aG X.prog X.w X.K X.mg X.base bH k f fd ps sp)(c:gW X.K X.mg x f fd ps)(hr:eQ k X.A)(ha:PA X (e::es) t)(hg:Gl X x:=by rfl)(hdb:(x==("__debug__":Yj))=false:=by decide)(he:YO (e::es) X.env=(false,aE e X.env)::YO es X.env:=by rfl)(hpl:(dE pos (YO es X.env)).any (·.1)=false:=by rfl):
  PE X (.Call (.Name x p) (e::es) [] pos) (ab5 sp [] E0 t):=ag1 F hr hg c.mg c.kp c.bd .nil qZ ha hdb he hpl
theorem Ie{T:String}(hm:X.mg x=Yb)(hv:iq x=Ya (.type T))(hg:Gl X x:=by rfl)(hn:x≠"__name__":=by decide)(hdb:(x==("__debug__":Yj))=false:=by decide):PE X (.Name x pos) (tC (.ty T)):=
 ag9 hg hm hv rfl hn hdb
def ajS(K:Ye)(t:TE):TT:=λσ H Q=>t σ H λx H'=>∃k,afz K x H' k/\Q k H'
theorem cT(K:Ye){f:YY}{t:TE}(hK:X.K=K)(h:PE X (.Call f es kws pos) t):PT X (.Call f es kws pos) (ajS K t):=by
 subst hK;exact V7 h λ_=>rfl
section
theorem ael{x y:Int}(hx:0<=x)(hy:0<=y):YD x y=((x.toNat ||| y.toNat:Nat):Int):=by
 have nn:∀z:Int,Yw (Yw z)=z:=λz=>by unfold Yw;omega
 have ng:∀z:Int,0<=z->¬ 0<=Yw z:=λz hz=>by unfold Yw;omega
 unfold YD;rw[bitAnd_nn (ng x hx) (ng y hy),nn,nn,nn]
end
end L2
namespace GX
open PySem
variable{prog:YJ}{w:YV}{A:Y4}{E Q:Yd->Yh->Prop}{s:Yh}{l:Yc}{n:Nat}{T id:String}{nm:Yj}{R:pf->Yh->Prop}
theorem ac4:BG (.type "list") (af "keys")=pure none:=am_miss_of_fast (by kernel_rfl)
section
variable{items:Array Yd}{Q:Option Yd->Yh->Prop}
theorem afb{B:cg}{x:Yd}{S:Jn}(slot:Iq T nm id)(en:mE ve id=Ya B)(hT:s.TypeIs (.ref l) T)(ar:ka id ⟨[.ref l,x],[]⟩)(m:ox (B ⟨[.ref l,x],[]⟩) S)(h:S A R s):
  de (Ys prog w) A (.call (.builtin id) ⟨[.ref l,x],[]⟩) R s:=kM slot.plain en (slot.check _ _ _ _ _ _ _ _ hT ar (m prog w A R s h))
theorem ah0{o:Y3}(slot:Iq T "__getattribute__" id)(ga:BG (.type T) "__getattr__"=pure Yb)(en:mE ve id=Ya cg.«object.__getattribute__»)(ar:∀a b,ka id ⟨[a,b],[]⟩)(hl:s.heap.get? l=Ya o)(hc:o.cls=.type T)(m:∀u,ox (cg.«object.__getattribute__» ⟨[.ref l,.str nm u],[]⟩) (λA R s=>s.heap.get? l=Ya o/\raisesAttr (.ref l) nm A R s))(hA:A.handled=Yb)(h:∀h' tk,Gs s.heap h'->Q Yb {s with heap:=h',toks:=tk}):Ym (Ys prog w) A (ET (.ref l) nm) Q E s:=by
 obtain⟨c,dd,dt,sl⟩:=o;cases hc;obtain⟨hp,g,d,tk,os⟩:=s;have hT:∀tk,ck ⟨hp,g,d,tk,os⟩ (.ref l) T:=λ_=>⟨_,hl,rfl⟩;have:=slot.lookup;have:=slot.bind (.ref l);have:=sub_AttributeError;unfold ET getAttrBy? getAttrBy
 repeat' first|assumption|exact hT _|wp_step
 refine afb slot en (hT _) (ar _ _) (m _) ⟨hl,hA,λh' tk' e x=>?_⟩;obtain⟨t',u',_⟩:=x.there;have q:=h h' tk' x.keeps;unfold getattributeRaised
 repeat' first|assumption|wp_step
theorem acq(hA:A.handled=Yb)(hl:s.heap.get? l=Ya (Nr items n))(h:∀h' tk,Gs s.heap h'->Q Yb {s with heap:=h',toks:=tk}):Ym (Ys prog w) A (ET (.ref l) (af "keys")) Q E s:=
 ah0 F.slot_list_getattribute am_list_getattr_none am_entry_list_getattribute F.args_list_getattribute_2 hl rfl (λu=>meets_getattribute_miss_list l items n _ _ u ac4 (by decide)) hA h
end
theorem zW:mE ve "dict.update.loop"=Ya cg.«dict.update.loop»:=EU (by kernel_rfl)
theorem kj:AU "dict.update.loop"=true:=by decide +kernel
section
variable{I d:Yc}{fp wr:List Yc}{P:Nat->Yd->Prop}{St:Nat->YR->Prop}{K:Type}[DecidableEq K]{knd:rL prog w K}
theorem aag(kx:List (K×Yd)):(xC [] kx).length<=kx.length:=by
 have:=merged_length_le [] kx;simpa using this
theorem WK(I d:Yc)(i:Int)(t:l7):F5 prog w (cg.«dict.update.loop» ⟨[.ref d,.ref I,.int i t,.none],[]⟩) λA R s=>Ym (Ys prog w) A.in1 (fw (.ref I)) (λr s=>match r with
  |none=>R (.ok (.ret .none)) s
  |some v=>∃a o k x c,v=.ref a/\s.heap.get? a=Ya o/\o.cls=.type "tuple"/\o.data=.seq #[k,x] c/\
   Ym (Ys prog w) A.in1 (dictSet d k x) (λ_ s=>de (Ys prog w) A (.builtin "dict.update.loop" ⟨[.ref d,.ref I,.int (i+ 1) 0,.none],[]⟩) R s) (λ_ _=>False) s) (λ_ _=>False) s:=by
 intro A R s nx;show Ym _ _ (fw (.ref I) >>= _) _ _ s;apply Yf;refine ax nx (λr s1 h=>?_) λ_ _ z=>z.elim;rcases r with _|v
 ·wp_walk
  exact h
 ·obtain⟨a,o,k,x,c,rfl,ha,hc,hd,q⟩:=h;have ty:s1.TypeIs (.ref a) "tuple":=⟨o,ha,hc⟩;apply Yf;apply e8;apply Yf;apply nB
  wp_walk using ri ha hd,ax q
  ·exact λ_ _ e=>Yr ⟨eA kj _,e⟩
  ·exact λ_ _ z=>z.elim
theorem afa{D:Nat->YR->Prop}(W:zI prog w A.in1 I fp wr n P St)(nd:d∉fp)(calm:∀i h h',D i h->(∀b o,b∉wr->h.get? b=Ya o->h'.get? b=Ya o)->D i h')
  (turn:∀i v s,P i v->D i s.heap->∃a o k x c,v=.ref a/\s.heap.get? a=Ya o/\o.cls=.type "tuple"/\o.data=.seq #[k,x] c/\
   ∀Q:Unit->Yh->Prop,(∀h,D (i+ 1) h->(∀b,b≠d->h.get? b=s.heap.get? b)->∀tk,Q () {s with heap:=h,toks:=tk})->Ym (Ys prog w) A.in1 (dictSet d k x) Q (λ_ _=>False) s):
  ∀(k i:Nat) (s:Yh) (t:l7),n=i+ k->St i s.heap->D i s.heap->(∀h tk,D n h->R (.ok (.ret .none)) {s with heap:=h,toks:=tk})->
   de (Ys prog w) A (.builtin "dict.update.loop" ⟨[.ref d,.ref I,.int i t,.none],[]⟩) R s:=by
 intro k
 induction k with
 |zero=>
  intro i s t e st di fin;obtain rfl:n=i:=e;exact enter zW kj (WK I d _ t) (W.done s _ _ st λh tk q=>fin h tk (calm _ _ _ di q))
 |succ k ih=>
  intro i s t e st di fin;refine enter zW kj (WK I d _ t) (W.item i s _ _ (by omega) st λv h tk pv st1 q=>?_);obtain⟨a,o,y,x,c,e1,e2,e3,e4,set⟩:=turn i v {s with heap:=h,toks:=tk} pv (calm _ _ _ di q);refine⟨a,o,y,x,c,e1,e2,e3,e4,set _ λh2 d2 sb tk=>?_⟩;exact ih (i+ 1) {s with heap:=h2,toks:=tk} 0 (by omega) (W.frame _ _ _ st1 λb hb o e=>(sb b λz=>nd (z▸hb)).trans e) d2 fin
theorem afI(W:zI prog w A.in1 I fp wr n P St)(nd:d∉fp)(h₀:YR)(kx:List (K×Yd))(hn:kx.length=n)(hz:n<=YB)
  (hP:∀i v,P i v->∃a key k x o c,v=.ref a/\kx[i]?=Ya (k,x)/\knd.is k key=true/\h₀.get? a=Ya o/\o.cls=.type "tuple"/\o.data=.seq #[key,x] c/\a≠d/\a∉wr):
  ∀(k i:Nat) (s:Yh) (t:l7),n=i+ k->St i s.heap->(∀b o,b∉wr->b≠d->h₀.get? b=Ya o->s.heap.get? b=Ya o)->s.heap.DictOf knd d (xC [] (kx.take i))->
  (∀h' tk,(∀b o,b∉wr->b≠d->h₀.get? b=Ya o->h'.get? b=Ya o)->h'.DictOf knd d (xC [] kx)->R (.ok (.ret .none)) {s with heap:=h',toks:=tk})->
  de (Ys prog w) A (.builtin "dict.update.loop" ⟨[.ref d,.ref I,.int i t,.none],[]⟩) R s:=by
 have nw:d∉wr:=λz=>nd (W.sub _ z);intro k i s t en st kp dd fin;refine afa (D:=λi h=>(∀b o,b∉wr->b≠d->h₀.get? b=Ya o->h.get? b=Ya o)/\h.DictOf knd d (xC [] (kx.take i))) W nd ?_ ?_ k i s t en st ⟨kp,dd⟩ λh tk q=>fin h tk q.1 ?_
 ·rintro i h h' ⟨kp,od,es,ep,ho,r⟩ q;exact⟨λb o nb nb' e=>q b o nb (kp b o nb nb' e),od,es,ep,q d od nw ho,r⟩
 ·rintro i v s pv ⟨kp,dd⟩;obtain⟨a,key,k,x,o,c,rfl,hx,hk,ha,hc,hd,na,naw⟩:=hP i v pv;refine⟨a,o,key,x,c,rfl,kp a o naw na ha,hc,hd,λQ q=>wpAny_dictSet_pairs hk dd (λh2 d2 sb=>q h2 ⟨λb o nb nb' e=>(sb.2 b nb').trans (kp b o nb nb' e),?_⟩ sb.2 _) (dy (aag _) (by rw[ae];omega))⟩;rw[merged_take_succ [] kx i (k,x) hx];exact d2
 ·have z:=q.2;rwa [←hn,Y5]at z
end
section
variable{K:Type}[DecidableEq K]{knd:rL prog w K}
noncomputable abbrev adW(h:YR):YR:=h.push {cls:=.type "dict",data:=.dict #[]}
theorem Ml(ty:ck {s with heap:=adW s.heap} (.ref l) T)(nT:(jI T !=.type "dict")=true)(h:Ym (Ys prog w) A.in1.in1 (ET (.ref l) (af "keys")) (λr s1=>r=Yb/\Ym (Ys prog w) A.in1.in1 (tq (.ref l))
   (λit s2=>de (Ys prog w) A.in1 (.builtin "dict.update.loop" ⟨[.ref s.heap.objs.size,it,.int 0 0,.none],[]⟩) (HV (λr s3=>r=.none/\Q (.ref s.heap.objs.size) s3) E) s2) E s1) E {s with heap:=adW s.heap}):
  Ym (Ys prog w) A (call (.type "dict") [.ref l]) Q E s:=by
 apply callType_codes F.kt_called_dict (F.kt_typeCall_dict_1 _) F.entry_dict_init (kt_code_dict_new (Q₁:=λv s1=>v=.ref s.heap.objs.size/\s1={s with heap:=adW s.heap}) _ ⟨rfl,rfl⟩);rintro _ _ ⟨rfl,rfl⟩;have td:ck {s with heap:=adW s.heap} (.ref s.heap.objs.size) "dict":=⟨_,Yq _ rfl,rfl⟩;refine⟨td,F.args_dict_init_2 _ _,?_⟩;show Ym _ _ (Builtin.Dict.selfAndRest _ _ >>= _) _ _ _
 wp_walk using wpAny_notOrdered_dict td,AS nT,ax h
 ·rintro _ s1 ⟨rfl,q⟩
  wp_walk using ax q
  ·exact λ_ _ e=>Yr ⟨eA kj _,e⟩
  ·exact λ_ _ e=>e
 ·exact λ_ _ e=>e
theorem Hu{vs:List Yd}{kx:List (K×Yd)}(hA:A.handled=Yb)(hl:s.heap.get? l=Ya {cls:=.type "list",dict:=Yb,data:=.seq vs.toArray n,slots:=#[]})(hz:vs.length<=YB)(hlen:kx.length=vs.length)(hP:∀(i:Nat) v,vs[i]?=Ya v->∃a key k x o c,v=.ref a/\kx[i]?=Ya (k,x)/\knd.is k key=true/\s.heap.get? a=Ya o/\o.cls=.type "tuple"/\o.data=.seq #[key,x] c)(h:∀h' tk,(∀b o,s.heap.get? b=Ya o->h'.get? b=Ya o)->h'.DictOf knd s.heap.objs.size (xC [] kx)->Q (.ref s.heap.objs.size) {s with heap:=h',toks:=tk}):
  Ym (Ys prog w) A (call (.type "dict") [.ref l]) Q E s:=by
 have hl':(adW s.heap).get? l=Ya {cls:=.type "list",dict:=Yb,data:=.seq vs.toArray n,slots:=#[]}:=Yg _ hl;refine Ml (T:="list") ⟨_,hl',rfl⟩ (by decide) (acq hA hl' λh1 tk1 k1=>⟨rfl,?_⟩);have hl1:=k1 l _ hl';have lt1:l<h1.objs.size:=Yu hl1;have ld:l<s.heap.objs.size:=Yu hl;have il:h1.IsList l vs.toArray:=⟨_,hl1,rfl,n,rfl⟩;have d1:h1.DictOf knd s.heap.objs.size []:=by
  obtain⟨od,es,ep,ho,r⟩:=Heap.DictOf.new (knd:=knd) s.heap;exact⟨od,es,ep,k1 _ _ ho,r⟩
 have dlt:s.heap.objs.size<h1.objs.size:=by
  obtain⟨od,es,ep,ho,r⟩:=d1;exact Yu ho
 have hI:∀{b:Yc},b<h1.objs.size->b≠h1.objs.size:=λz=>YH z;refine gx (s:={s with heap:=h1,toks:=tk1}) il ?_;have W:=xi (prog:=prog) (w:=w) (A:=A.in1.in1) hA h1.objs.size l (hI lt1) vs.toArray;refine afI (A:=A.in1) (knd:=knd) W (d:=s.heap.objs.size) ?_ s.heap kx (by rw[hlen,Yx]) (by rw[Yx];exact hz) (λi v hv=>?_) vs.toArray.size 0 _ 0 (by omega)
  ⟨⟨_,Yq _ rfl,rfl,rfl⟩,il.push _⟩ (λb o _ nb e=>Yg _ (k1 b o (Yg _ e))) ?_ λh2 tk2 k2 d2=>?_
 ·intro z;have z':s.heap.objs.size=h1.objs.size∨s.heap.objs.size=l:=by simpa using z
  rcases z' with z'|z'
  ·exact absurd dlt (by rw[z'];exact Y2 _)
  ·exact absurd ld (by rw[z'];exact Y2 _)
 ·obtain⟨a,key,k,x,o,c,e1,e2,e3,e4,e5,e6⟩:=hP i v (by simpa using hv);refine⟨a,key,k,x,o,c,e1,e2,e3,e4,e5,e6,YH (Yu e4),λz=>?_⟩;have z':a=h1.objs.size:=by simpa using z
  exact absurd (xB (Yu e4) dlt) (by rw[z'];exact Y2 _)
 ·exact d1.push _
 ·exact⟨rfl,h h2 tk2 (λb o e=>k2 b o (λz=>by
   have z':b=h1.objs.size:=by simpa using z
   exact absurd (xB (Yu e) dlt) (by rw[z'];exact Y2 _)) (YH (Yu e)) e) d2⟩
end
end GX
namespace GX
open PySem PyProof.Rows
section
variable{prog:YJ}{w:YV}{A:Y4}{E:Yd->Yh->Prop}{s:Yh}
theorem BZ{x:Yd}{kw:List (Yj×Yd)}{Q:Yd->Yh->Prop}(ok:ka "sorted" ⟨[x],kw⟩)
  (h:Ym (Ys prog w) A.in1 (IT x) (λvs s1=>Ym (Ys prog w) A.in1 (DE vs >>= λl=>mi [l] (call (.builtin "list.sort") [l] kw) >>= λ_=>ret l) (λf s2=>∃v,f=.done (.ret v)/\Q v s2) E s1) E s):
  Ym (Ys prog w) A (call (.builtin "sorted") [x] kw) Q E s:=
 call_function_entry_kw kind_sorted plain_sorted entry_sorted ok (Yf (m:=checkCount _ _ _ _) (Yr (Yf (ax h (λ_ _ q=>q) λ_ _ e=>e))))
end
end GX
namespace L2
open PySem PySem.Spec PyProof.Rows
variable{X:Cx}{P:YJ}{w:YV}{A:Y4}{s:Yh}{ns:List Int}{pins:List (Yc×Y3)}{σ:St}{H:Hp}{h':YR}{K:Ye}{a it:Yc}{kvs:List (dC×V)}{vs:List (dC×Yd)}{elts:List YY}{x1:Nat}{tp:hJ}
noncomputable def dI(m:List (Int×Int)):List (dC×V):=m.map λp=>(YX p.1,V.int p.2)
theorem O3(m:List (Int×Int)):(dI m).length=m.length:=Yi ..
noncomputable def lkI:List (Int×Int)->Int->Option Int
 |[],_=>Yb
 |p::m,k=>if p.1=k then Ya p.2 else lkI m k
theorem aga:∀(m:List (Int×Int)) (k:Int),HS (dI m) (YX k:dC)=(lkI m k).map V.int
 |[],_=>rfl
 |p::m,k=>by
  show HS ((YX p.1,V.int p.2)::dI m) (YX k)=_;unfold lkI;by_cases e:p.1=k
  ·rw[if_pos e,Bb (by rw[e])];rfl
  ·rw[if_neg e,zJ (λz=>e (kN z)),aga m k]
noncomputable def adT:List (Int×Int)->Int->Int->List (Int×Int)
 |[],k,v=>[(k,v)]
 |p::m,k,v=>if p.1=k then(p.1,v)::m else p::adT m k v
theorem afS(k:Int):∀m:List (Int×Int),((dI m).any λkv=>decide (kv.1=(YX k:dC)))=m.any λp=>decide (p.1=k)
 |[]=>rfl
 |p::m=>by
  show(decide ((YX p.1:dC)=YX k)||(dI m).any _)=(decide (p.1=k)||m.any _);rw[afS k m];congr 1;rw[decide_eq_decide];exact⟨λh=>kN h,λh=>congrArg _ h⟩
theorem Tn:∀(m:List (Int×Int)) (k v:Int),(m.any λp=>decide (p.1=k))=false->adT m k v=m++[(k,v)]
 |[],_,_,_=>rfl
 |p::m,k,v,h=>by
  rw[kC,BN]at h;show(if p.1=k then(p.1,v)::m else p::adT m k v)=_;rw[if_neg (of_decide_eq_false h.1),Tn m k v h.2];rfl
theorem abp:∀(m:List (Int×Int)) (k v:Int),(m.map (·.1)).Nodup->(m.any λp=>decide (p.1=k))=true->adT m k v=m.map λp=>if p.1=k then(p.1,v)else p
 |[],_,_,_,h=>by cases h
 |p::m,k,v,nd,h=>by
  rw[YQ,aw]at nd;show(if p.1=k then(p.1,v)::m else p::adT m k v)=(if p.1=k then(p.1,v)else p)::m.map _;by_cases e:p.1=k
  ·rw[if_pos e,if_pos e];congr 1;have:m.map (λp=>if p.1=k then(p.1,v)else p)=m.map id:=i5 λq hq=>by
    rw[if_neg (λz=>nd.1 (by rw[e,←z];exact Y6 hq))];rfl
   rw[this,EL]
  ·rw[if_neg e,if_neg e,abp m k v nd.2 (by
    rw[kC,decide_eq_false e,iX]at h;exact h)]
theorem akV(m:List (Int×Int))(k v:Int)(nd:(m.map (·.1)).Nodup):ql (dI m) (YX k:dC) (V.int v)=dI (adT m k v):=by
 unfold ql;rw[afS];cases e:m.any λp=>decide (p.1=k)with
 |false=>
  rw[Tn m k v e];unfold dI;rw[YK];rfl
 |true=>
  rw[abp m k v nd e];unfold dI;rw[iA,if_pos rfl,iA];apply i5;intro p _;show(if(YX p.1:dC)=YX k then((YX p.1:dC),V.int v)else(YX p.1,V.int p.2))=((YX (if p.1=k then(p.1,v)else p).1:dC),V.int (if p.1=k then(p.1,v)else p).2);by_cases z:p.1=k
  ·rw[if_pos (congrArg _ z),if_pos z]
  ·rw[if_neg (λq=>z (kN q)),if_neg z]
section
theorem Jh{P:YJ}{w:YV}:∀{m:List (Int×Int)} {vs:List (dC×Yd)} {us:List Yd},KV (dI m) vs->us.length=vs.length->(∀(j:Nat) v,us[j]?=Ya v->∃k x,vs[j]?=Ya (k,x)/\(bK P w).is k v=true)->bg us (m.map (·.1))
 |[],_,us,r,hl,h=>by
  have r':KV [] _:=r;cases r';cases us with
  |nil=>exact .nil
  |cons _ _=>cases hl
 |p::m,vs,us,r,hl,h=>by
  have r':KV ((YX p.1,V.int p.2)::dI m) vs:=r;cases r' with
  |cons r1 r2=>
   rename_i q qs;cases us with
   |nil=>cases hl
   |cons u us=>
    obtain⟨k,x,e1,e2⟩:=h 0 u rfl;have e1':q=(k,x):=YL e1;subst e1';have ek:(YX p.1:dC)=k:=r1.1;subst ek;rcases dD (show Iu (YX p.1) u=true from e2)with⟨i,t,z1,z2⟩|⟨_,_,z,_⟩
    ·have z1':p.1=i:=kN z1;rw[z2,←z1'];exact .cons _ t (Jh (P:=P) (w:=w) r2 (yi hl) λj v e=>h (j+ 1) v e)
    ·cases z
theorem Jr{E:Yd->Yh->Prop}{prog:YJ}{vs:List Yd}{Q:Yd->Yh->Prop}(hi:bg vs ns)(h64:vs.length<64)(hz:vs.length<=YB)(h:∀h' out ns' e,(∀b o,s.heap.get? b=Ya o->h'.get? b=Ya o)->h'.get? s.heap.objs.size=Ya (seqObj "list" out e)->bg out.toList ns'->ns'.Perm ns->ns'.Pairwise (·<=·)->Q (.ref s.heap.objs.size) {s with heap:=h'}):
  Ym (Ys prog w) A (do let l←DE vs;let _←mi [l] (call (.builtin "list.sort") [l] []);ret l) (λfin s'=>∃v,fin=.done (.ret v)/\Q v s') E s:=by
 refine Yf (Cb ?_ hz);have ho:(s.heap.push (seqObj "list" vs.toArray 0)).get? s.heap.objs.size=Ya (seqObj "list" vs.toArray 0):=Yq _ rfl;refine Yf (e8 (hG F6 ⟨_,ho,rfl⟩ FI (list_sort_tree ho hi h64 λout ns' a1 a2 a3=>⟨_,rfl,?_⟩) (args_list_sort _)));obtain⟨e,he⟩:=sortedHeap_at (out:=out) ho;refine Yr ⟨_,rfl,h _ out ns' e (λb o q=>?_) he a1 a2 a3⟩;have l:=Yu q;rw[sortedHeap_old (YH l) (by rw[size_push'];exact kG l)];exact Yg _ q
theorem bw.lay_ints{out:Array Yd}{e tk:Nat}(I:bw X pins σ H s)(k:∀b o,s.heap.get? b=Ya o->h'.get? b=Ya o)(he:h'.get? s.heap.objs.size=Ya (seqObj "list" out e))(hi:bg out.toList ns)(hz:ns.length<=YB):
  bw X pins σ (upd H s.heap.objs.size (.lst (ns.map V.int))) {s with heap:=h',toks:=tk}:=
 I.laid k (Yn _) ⟨by rw[Yi];exact hz,out.toList,e,Jj hi,he⟩
theorem Sw(hc:X.calm=true):iZ X (.builtin "sorted") (λxs H Q=>∃(d:Yc) (m:List (Int×Int)),xs=[.ref d]/\Rd H d (.dK (dI m))/\m.length<64/\∀(l:Yc) (ns:List Int),H l=Yb->ns.Perm (m.map (·.1))->ns.Pairwise (·<=·)->Q (.ref l) (upd H l (.lst (ns.map V.int)))):=by
 intro pins s σ H xs us Q I r h;obtain⟨d,m,rfl,hd,hlen,q⟩:=h;obtain⟨u,rfl,rx⟩:=j0 r;cases rx;obtain⟨z,hS,vs,rel,dd⟩:=Ax I.hok hd;obtain⟨ep,hat⟩:=dd.dictAt;have hl:vs.length=m.length:=by rw[←rel.length,O3]
 refine GX.BZ (CS _) (Co (A:=X.A.in1) (sN (knd:=bK X.prog X.w) (kvs:=vs) (ep:=ep) hS) (I.ok.hd hc) hat (by rw[hl];exact Y7 (aU (by omega))) λh' tk acc hk hacc=>?_);have hi:bg acc.toList (m.map (·.1)):=Jh (P:=X.prog) (w:=X.w) rel (by rw[aT];exact hacc.1) λj v e=>hacc.2 j v (by rw[←Y9];exact e);have ha:acc.toList.length=m.length:=by rw[hi.length,Yi]
 have I1:bw X pins σ H {s with heap:=h',toks:=tk}:=I.kept hk;refine Jr hi (by rw[ha];exact hlen) (by rw[ha];exact Y7 (aU (by omega))) λh2 out ns' e k2 he a1 a2 a3=>?_;have ln:ns'.length<=YB:=by rw[a2.length_eq,Yi];exact Y7 (aU (by omega))
 exact⟨.ref h'.objs.size,_,I1.lay_ints (tk:=tk) k2 he a1 ln,rfl,q _ ns' (I1.hok.fresh (Yn _)) a2 a3⟩
def Pr(H:Hp)(x:V)(p:Int×Int):Prop:=∃a,x=.ref a/\H a=Ya (.tup [.int p.1,.int p.2])
abbrev Prs(H:Hp):List V->List (Int×Int)->Prop:=d3 (Pr H)
end
section
theorem abR{A:Y4}{s:Yh}{n:List (Int×Int)}{ws:List (dC×Yd)}(rn:KV (dI n) ws):∀{m:List (Int×Int)} {vs:List (dC×Yd)},KV (dI m) vs->(∀p∈m,lkI n p.1=Ya p.2)->PySem.W.KeqHits A s ws vs true
 |[],_,r,_=>by
  have r':KV [] _:=r;cases r';exact .nil
 |p::m,vs,r,h=>by
  have r':KV ((YX p.1,V.int p.2)::dI m) vs:=r;cases r' with
  |cons r1 r2=>
   rename_i q qs;obtain⟨k,v⟩:=q;have ek:(YX p.1:dC)=k:=r1.1;subst ek;obtain⟨t,ev⟩:=(show∃t,v=jS p.2 t from r1.2);subst ev;have z:=rn.val (YX p.1);rw[aga,h p Yl]at z;obtain⟨y,hy,ry⟩:=zE.some_of z;obtain⟨t',ey⟩:=(show∃t,y=jS p.2 t from ry);subst ey;have e:=SeqAt.EqAt.int_int (A:=A) (s:=s) p.2 t p.2 t';have rest:=abR (A:=A) (s:=s) rn r2 λq hq=>h q (Yk _ hq);have:=PySem.W.KeqHits.hit hy e rest;rw[beq_self_eq_true,Cf]at this;exact this
theorem Vz:∀(ps acc:List (Int×Int)),((acc++ps).map (·.1)).Nodup->lF (dI acc) (dI ps)=dI (acc++ps)
 |[],acc,_=>by rw[cy];rfl
 |p::ps,acc,h=>by
  show lF (ql (dI acc) (YX p.1) (V.int p.2)) (dI ps)=_;have h1:(acc.map (·.1)).Nodup:=by
   rw[YK]at h;exact(fi.mp h).1
  have h2:(acc.any λq=>decide (q.1=p.1))=false:=by
   rw[wx];intro q hq z;have z':=of_decide_eq_true z;rw[YK,YQ]at h;exact(fi.mp h).2.2 q.1 (Y6 (f:=(·.1)) hq) p.1 Yl z'
  rw[akV acc p.1 p.2 h1,Tn acc p.1 p.2 h2,Vz ps (acc++[(p.1,p.2)]) (by rw[mT];exact h),mT];rfl
theorem aeb(I:bw X pins σ H s):∀{xs:List V} {us:List Yd} {ps:List (Int×Int)},Prs H xs ps->Vals xs us->
  ∃kx:List (dC×Yd),KV (dI ps) kx/\kx.length=us.length/\∀(i:Nat) v,us[i]?=Ya v->∃a key k x o c,v=.ref a/\kx[i]?=Ya (k,x)/\(bK X.prog X.w).is k key=true/\s.heap.get? a=Ya o/\o.cls=.type "tuple"/\o.data=.seq #[key,x] c:=by
 intro xs us ps w
 induction w generalizing us with
 |nil=>
  intro w;cases w;exact⟨[],.nil,rfl,λi v e=>by simp at e⟩
 |@cons x p xs ps h t ih=>
  intro w;cases w with|cons r q=>
  rename_i u us;obtain⟨kx,k1,k2,k3⟩:=ih q;obtain⟨a,rfl,ha⟩:=h;obtain rfl:u=Y0 a:=r;obtain⟨_,its,rv,o,ho,hc,n,hd,_⟩:[V.int p.1,V.int p.2].length<=YB/\∃its:List Yd,Vals [V.int p.1,V.int p.2] its/\ut s.heap a its.toArray:=I.hok a _ ha;obtain⟨u1,u2,rfl,r1,r2⟩:=Xk rv;obtain⟨t1,rfl⟩:=r1;refine⟨(YX p.1,u2)::kx,.cons ⟨rfl,r2⟩ k1,congrArg (·+ 1) k2,λi v e=>?_⟩;cases i with
  |zero=>
   have e':Y0 a=v:=YL e;subst e';exact⟨a,_,_,u2,o,n,rfl,rfl,BL X.prog X.w p.1 t1,ho,hc,hd⟩
  |succ i=>exact k3 i v e
theorem aa4(hc:X.calm=true):iZ X (.type "dict") (λxs H Q=>∃(a:Yc) (ys:List V) (ps:List (Int×Int)),xs=[.ref a]/\H a=Ya (.lst ys)/\Prs H ys ps/\(ps.map (·.1)).Nodup/\ps.length<=1000/\∀p,H p=Yb->Q (.ref p) (upd H p (.dK (dI ps)))):=by
 intro pins s σ H xs us Q I r h;obtain⟨a,ys,ps,rfl,ha,hp,nd,hl,q⟩:=h;obtain⟨u,rfl,rx⟩:=j0 r;cases rx;obtain⟨z,its,n,rv,hlen,e⟩:=I.lstM ha;obtain⟨kx,k1,k2,k3⟩:=aeb I hp rv;refine GX.Hu (knd:=bK X.prog X.w) (I.ok.hd hc) e (by rw[←hlen];exact z) k2 k3 λh' tk kp dd=>?_;have rel:KV (dI ps) (xC [] kx):=by
  have:=KV.merge k1 (show KV (dI []) []from .nil);rw[Vz ps [] (by simpa using nd)]at this;exact this
 refine⟨.ref s.heap.objs.size,_,I.laid (t':=tk) kp (Yn _) (Su ?_ (beq_eq_false_iff_ne.mpr (Ne.symm (YH I.big))) rel dd),rfl,q _ (I.hok.fresh (Yn _))⟩;rw[O3];exact Y7 (aU hl)
def alP(K:Ye)(tl:TE):TI:=λσ H R=>tl σ H λx H1=>∃a,x=.ref a/\(((∃xs,bI K H1 a xs)/\R (Itl K a) H1)∨((∃xs,cN K H1 a xs)/\R (Itt K a) H1))
theorem akR{tg l:YY}{tl:TE}(hl:PE X l tl):PI X tg l (alP X.K tl):=by
 intro pins s σ H R I h;refine dN (hl pins s σ H _ I h) λv s1 zz=>?_;obtain⟨x,H1,I1,r1,q1⟩:=zz;obtain⟨a,e,q1⟩:=q1;subst e;cases r1;have fp:∀b∈[s1.heap.objs.size],Hv X pins H1 b:=λb hb=>by
  have e:b=s1.heap.objs.size:=by simpa using hb
  subst e;exact I1.fpOk (Yn _) (I1.hok.fresh (Yn _))
 rcases q1 with⟨⟨xs,hq⟩,q⟩|⟨⟨xs,hq⟩,q⟩
 ·obtain⟨its,rv,p,hz⟩:=I1.list hq;refine gx p.isList ?_;exact⟨s1.heap.objs.size,[s1.heap.objs.size],_,_,H1,rfl,I1.kept (t':=s1.toks) λb o e=>Yg _ e,Rq a _,⟨_,Yq _ rfl,rfl,rfl⟩,fp,q⟩
 ·obtain⟨its,rv,p,hz⟩:=I1.tuple hq;refine CB (show s1.heap.IsTuple a its.toArray from p) ?_;exact⟨s1.heap.objs.size,[s1.heap.objs.size],_,_,H1,rfl,I1.kept (t':=s1.toks) λb o e=>Yg _ e,Mu a _,⟨_,Yq _ rfl,rfl,rfl⟩,fp,q⟩
end
theorem Ij{xs:List V}{g:TG}{tt:TT}{te:TE}{D:Yc}{Qe:Hp->Prop}(Pv:Nat->St->Hp->Prop)(h0:Pv 0 σ H)(hl:∀i σ H,i<=xs.length->Pv i σ H->cN K H a xs)(hs:∀i x σ H,xs[i]?=Ya x->Pv i σ H->pR g tt te D (Pv (i+ 1)) x σ H)(hd:∀σ H,Pv xs.length σ H->Qe H):
  ∃W:Nat->Nat->St->Hp->Prop,(∃m,W 0 m σ H)/\∀i m σ' H',W i m σ' H'->((Itt K a).stop i H'/\Qe H')∨((Itt K a).go i H'/\∃N:St->Hp->Prop,(∀σ2 H2,N σ2 H2->∃m',m'<m/\W (i+ 1) m' σ2 H2)/\
   ∀x H'',(Itt K a).yld i H' x H''->pR g tt te D N x σ' H''):=by
 refine⟨λi m σ H=>m=xs.length-i/\i<=xs.length/\Pv i σ H,⟨xs.length,by simp,YZ _,h0⟩,?_⟩;rintro i m σ H ⟨rfl,hi,p⟩;have q:=hl i σ H hi p;by_cases hlt:i<xs.length
 ·refine .inr ⟨⟨xs,xs[i],q,by simp[hlt]⟩,Pv (i+ 1),λσ' H' p'=>⟨xs.length-(i+ 1),by omega,rfl,hlt,p'⟩,λx H' y=>?_⟩;obtain⟨e,y⟩:=y;subst e;exact hs i x σ _ (y xs q) p
 ·have e:i=xs.length:=by omega
  subst e;exact .inl ⟨⟨xs,q,Yn _⟩,hd σ H p⟩
noncomputable def Itm(d:Yc)(o:Y3)(kvs:List (dC×V)):It:=
 ⟨λi H=>i<kvs.length/\H d=Ya (.frz o (.dK kvs)),λi H x H'=>∃k v a,kvs[i]?=Ya (k,v)/\H a=Yb/\x=.ref a/\H'=upd H a (.tup [kV k,v]),λi H=>kvs.length<=i/\H d=Ya (.frz o (.dK kvs))⟩
theorem aia{k:dC}{u:Yd}(h:(bK P w).is k u=true):RelV (kV k) u:=by
 rcases dD (show Iu k u=true from h)with⟨i,t,rfl,rfl⟩|⟨x,t,rfl,rfl⟩
 ·exact⟨t,rfl⟩
 ·exact⟨t,rfl⟩
theorem KV.get:∀{i:Nat} {k:dC} {v:V},KV kvs vs->kvs[i]?=Ya (k,v)->∃u,vs[i]?=Ya (k,u)/\RelV v u:=by
 intro i k v r
 induction r generalizing i with
 |nil=>intro e;simp at e
 |cons r1 r2 ih=>
  rename_i p q _ _;intro e;cases i with
  |zero=>
   have e':p=(k,v):=YL e;subst e';obtain⟨k',u⟩:=q;have ek:k=k':=r1.1;subst ek;exact⟨u,rfl,r1.2⟩
  |succ i=>exact ih e
theorem bw.turnLay{o:HO}(I:bw X pins σ H s)(k:∀b o,b≠it->s.heap.get? b=Ya o->h'.get? b=Ya o)(hf:Hv X pins H it)(hio:∃o,h'.get? it=Ya o)(ha:s.heap.objs.size<=a)(hai:a≠it)(new:fc X.prog X.w (upd H a o) h' a o):bw X pins σ (upd H a o) {s with heap:=h'}:=by
 obtain⟨f0,f1,f2,f3,f4,f5⟩:=hf;have hn:H a=none:=I.hok.fresh ha;have nea:∀b ob,s.heap.get? b=Ya ob->b≠a:=λb ob e z=>by
  have:=Yu e;rw[z]at this;exact absurd (YM this ha) (Y2 _)
 have nit:∀b u,H b=Ya u->b≠it:=λb u e z=>by rw[z,f0]at e;cases e
 refine I.step (g':=s.gens) (d':=s.drawn) (t':=s.toks) (ch:=[it]) (λb hb=>?_) (λb o _ _ hc e _=>k b o (λz=>hc (by simp[z])) e) (λb o _ _ hc e _=>⟨o.slots,k b o (λz=>hc (by simp[z])) e⟩) (λb ob _ e n=>by rw[aK (nea b ob e)];exact n)
  (λb o hc e=>⟨o,k b o (λz=>hc (by simp[z])) e⟩) (λb xs e=>by rw[aK (aP e hn)];exact e) (λb o u e=>by rw[aK (aP e hn)];exact e) (λb ps e=>⟨#[],by rw[aK (aP e hn),e];simp⟩) (λm hm=>?_) (λb u e=>?_) I.bare
 ·have e:b=it:=by simpa using hb
  subst e;exact⟨f3,f1,f4,f5⟩
 ·obtain⟨ob,es,ep,ho,r⟩:=hm;exact⟨ob,es,ep,k _ ob (Ne.symm f1) ho,r⟩
 ·by_cases hb:b=a
  ·subst hb;rw[aB]at e;cases e;exact new
  ·rw[aK hb]at e;refine(I.hok b u e).stay (λc v hc q=>k c v ?_ q) (λc q=>by rw[aK (aP q hn)];exact q) λc xs q=>by rw[aK (aP q hn)];exact q
   rcases hc with z|z
   ·rw[z];exact nit b u e
   ·exact nit c _ z
theorem abb{d:Yc}{o:Y3}{ep:Nat}(rel:KV kvs vs)(fz:∀h:YR,h.get? d=Ya o->h.DictAt (bK P w) d vs ep):
  Turn P w K (.Tuple elts x1 tp) (Itm d o kvs) [it] it (λi h=>∃ok ov,IsItemIter h it d i vs.length ep ok ov) where
 mem:=by simp
 obj:=λi h st b hb=>by
  have e:b=it:=by simpa using hb
  subst e;obtain⟨ok,ov,e⟩:=st;exact⟨_,e,λv z=>by
   have z':Data.fields _=Data.cell v:=z;cases z'⟩
 keep:=λi h h' st k=>let ⟨ok,ov,e⟩:=st;⟨ok,ov,k it (by simp) _ e⟩
 item:=by
  intro X hP hw hK hc i pins s σ H E I hf st hg;subst hP hw hK;obtain⟨ok,ov,hit⟩:=st;obtain⟨hi,hd⟩:=hg;have hdo:s.heap.get? d=Ya o:=(show s.heap.get? d=Ya o/\_ from I.hok d _ hd).1;have hx:kvs[i]?=Ya kvs[i]:=Yo hi;obtain⟨u,hu,ru⟩:=rel.get (k:=kvs[i].1) (v:=kvs[i].2) hx;refine wpAny_pyNext_items_item hit (fz _ hdo) hu λkey h' hkey hit' htup hsz kp=>?_;have hai:s.heap.objs.size≠it:=λz=>by
   have:=Yu hit;rw[←z]at this;exact Y2 _ this
  have hfi:=hf it (by simp);have I1:bw X pins σ (upd H s.heap.objs.size (.tup [kV kvs[i].1,kvs[i].2])) {s with heap:=h'}:=
   I.turnLay kp hfi ⟨_,hit'⟩ (Yn _) hai ⟨by show 2<=YB;decide,[key,u],.cons (aia hkey) (.cons ru .nil),_,htup,rfl,0,rfl,rfl,rfl⟩
  refine⟨_,rfl,vx hit' λh2 hit2 sb=>?_⟩;obtain⟨f0,f1,f2,f3,f4,f5⟩:=hfi;have f0':(upd H s.heap.objs.size (.tup [kV kvs[i].1,kvs[i].2])) it=none:=by rw[aK (Ne.symm hai)];exact f0
  refine⟨.ref s.heap.objs.size,_,I1.turned (t':=s.toks) (λb o hb e=>(sb.2 b hb).trans e) f0' f1 f3 f4 f5,rfl,⟨_,_,_,hx,I.hok.fresh (Yn _),rfl,rfl⟩,⟨key,u,hit2⟩,λb hb=>?_⟩;have e:b=it:=by simpa using hb
  rw[e];exact f0'
 done:=by
  intro X hP hw hK hc i pins s σ H E I hf st hg;subst hP hw hK;obtain⟨ok,ov,hit⟩:=st;obtain⟨hi,hd⟩:=hg;have hdo:s.heap.get? d=Ya o:=(show s.heap.get? d=Ya o/\_ from I.hok d _ hd).1;obtain⟨f0,f1,f2,f3,f4,f5⟩:=hf it (by simp);have hlen:kvs.length=vs.length:=KV.length rel;exact wpAny_pyNext_items_end (I.ok.hd hc) hit (fz _ hdo) (km (by omega)) λh' eb=>⟨rfl,I.turned (t':=s.toks) (λb o hb e=>eb b o hb e) f0 f1 f3 f4 f5⟩
 self:=λ_ _ _ _ _ ⟨ok,ov,st⟩ h=>EV st h
section
def afp(td:TE):TI:=λσ H R=>td σ H λx H1=>∃d kvs,x=.ref d/\H1 d=Ya (.dK kvs)/\∀o,R (Itm d o kvs) (upd H1 d (.frz o (.dK kvs)))
theorem afo{e:YY}{apos cpos:hJ}{td:TE}(he:PE X e td)(hbase:ku e "items" X.env (aE e X.env)=aE e X.env:=by rfl)(hline:(apos.endLine==cpos.line)=true:=by rfl):
  PI X (.Tuple elts x1 tp) (.Call (.Attribute e "items" apos) [] [] cpos) (afp td):=by
 intro pins s σ H R I h;refine md hbase hline (dN (he pins s σ H _ I h) λv s1 zz=>?_);obtain⟨x,H1,I1,r1,d,kvs,ex,hd,q⟩:=zz;subst ex;obtain rfl:v=Y0 d:=r1;obtain⟨z,hS,vs,rel,dd⟩:=W8 I1.hok hd;obtain⟨h1,h2⟩:=Jp (T:="dict") I1 (x:=.ref d) rfl (.inr (.inr (.inl ⟨rfl,.inl ⟨kvs,hd⟩⟩)));refine⟨"dict","dict.items",gi,rV,ze,h1,h2,jJ rfl (pS ?_)⟩;refine CU rV h1 PySem.F.entry_dict_items (PySem.F.args_dict_items_1 _) (meets_dict_items (bK X.prog X.w) d hS) ⟨⟨vs,dd⟩,?_⟩;have dd':(s1.heap.push {cls:=.type "dict_items",data:=.fields #[.ref d]}).DictOf (bK X.prog X.w) d vs:=dd.push _;obtain⟨o,es,ep,ho,rr⟩:=id dd';have fz:∀h:YR,h.get? d=Ya o->h.DictAt (bK X.prog X.w) d vs ep:=λh hh=>⟨o,es,hh,rr⟩;have I2:bw X pins σ H1 {s1 with heap:=s1.heap.push {cls:=.type "dict_items",data:=.fields #[.ref d]}}:=I1.kept (t':=s1.toks) λb ob e=>Yg _ e;have hv:(s1.heap.push {cls:=.type "dict_items",data:=.fields #[.ref d]}).IsItemsView s1.heap.objs.size d:=⟨_,Yq _ rfl,rfl,rfl⟩;show Ym _ _ (tq (.ref s1.heap.objs.size)) _ _ _;refine wpAny_pyIter_items hv (fz _ ho) ?_;have I3:bw X pins σ (upd H1 d (.frz o (.dK kvs))) {s1 with heap:=s1.heap.push {cls:=.type "dict_items",data:=.fields #[.ref d]}}:=
  I2.write (t':=s1.toks) (x:=d) (e:=d) (by rw[hd];trivial) (.inl rfl) (λ_ _ _ e=>e) ⟨o,ho⟩ ⟨ho,z,hS,vs,rel,dd'⟩
 refine⟨_,[_],_,Itm d o kvs,upd H1 d (.frz o (.dK kvs)),rfl,I3.kept (t':=s1.toks) λb ob e=>Yg _ e,abb rel fz,⟨.none,.none,Yq _ rfl⟩,λb hb=>?_,q o⟩;have eb:b=(s1.heap.push {cls:=.type "dict_items",data:=.fields #[.ref d]}).objs.size:=by simpa using hb
 subst eb;exact I3.fpOk (Yn _) (I3.hok.fresh (Yn _))
end
end L2
namespace GX
open PySem PyProof.Rows
variable{xs:Array Nat}{i j sl p n ep c:Nat}{t t':u4}{h:YR}{b:Bool}{x first:Yd}{prog:YJ}{w:YV}{A:Y4}{E Q1:Yd->Yh->Prop}{s:Yh}{a I tp:Yc}{S:Int->Bool}{es es':Array (Int×Yd)}{Q:Option Yd->Yh->Prop}{k:Int}{R:pf->Yh->Prop}{ns:List Int}{M:Model}{o:Y3}{ps:List Nat}
def Ris(xs:Array Nat):Prop:=xs.toList.Pairwise (·<·)
theorem Ris.at(h:Ris xs)(hi:i<j)(hj:j<xs.size):xs.getD i 0<xs.getD j 0:=by
 have:=hX.mp h i j (by simp;omega) (by simpa using hj) hi;simp only[tJ]at this;rw[ay,ay,YI (by omega),YI hj];exact this
theorem Xe(h:i<xs.size)(a b:Nat):xs.getD i a=xs.getD i b:=by
 rw[ay,ay,YI h];rfl
theorem M8{xs:Array Nat}(hr:Ris xs)(j:Nat):∀(fuel lo hi:Nat),lo<=hi->hi<=xs.size->hi-lo<=fuel->(∀i,i<lo->xs.getD i 0<j)->(∀i,hi<=i->i<xs.size->j<=xs.getD i 0)->
  iS xs j fuel lo hi<=xs.size/\(∀i,i<iS xs j fuel lo hi->xs.getD i 0<j)/\(∀i,iS xs j fuel lo hi<=i->i<xs.size->j<=xs.getD i 0)
 |0,lo,hi,h1,h2,h3,h4,h5=>by
  have e:lo=hi:=by omega
  subst e;unfold iS;exact⟨h2,h4,h5⟩
 |fuel+ 1,lo,hi,h1,h2,h3,h4,h5=>by
  unfold iS;by_cases h:lo<hi
  ·rw[if_pos h];have hm:(lo+ hi) / 2<xs.size:=by omega
   show(if xs.getD ((lo+ hi) / 2) j<j then iS xs j fuel ((lo+ hi) / 2+ 1) hi else iS xs j fuel lo ((lo+ hi) / 2))<=_/\_;by_cases hc:xs.getD ((lo+ hi) / 2) j<j
   ·simp only[if_pos hc];rw[Xe hm j 0]at hc;refine M8 hr j fuel _ hi (by omega) h2 (by omega) (λi hi'=>?_) h5;rcases qE i ((lo+ hi) / 2)with z|z
    ·have:=hr.at z hm;omega
    ·have:i=(lo+ hi) / 2:=by omega
     rw[this];exact hc
   ·simp only[if_neg hc];rw[Xe hm j 0]at hc;refine M8 hr j fuel lo _ (by omega) (by omega) (by omega) h4 (λi hi' hs=>?_);rcases qE ((lo+ hi) / 2) i with z|z
    ·have:=hr.at z hs;omega
    ·have:i=(lo+ hi) / 2:=by omega
     rw[this];omega
  ·rw[if_neg h];have e:lo=hi:=by omega
   subst e;exact⟨h2,h4,h5⟩
theorem Gv(hr:Ris xs)(j:Nat):bp xs j<=xs.size/\(∀i,i<bp xs j->xs.getD i 0<j)/\(∀i,bp xs j<=i->i<xs.size->j<=xs.getD i 0):=by
 unfold bp;exact M8 hr j _ 0 _ (YZ _) (Yn _) (by omega) (λi h=>by omega) (λi h1 h2=>by omega)
theorem aaZ(hr:Ris xs)(hi:i<xs.size):bp xs (xs.getD i 0+ 1)=i+ 1:=by
 obtain⟨h1,h2,h3⟩:=Gv hr (xs.getD i 0+ 1);rcases EA (bp xs (xs.getD i 0+ 1)) (i+ 1)with z|z|z
 ·have:=h3 i (by omega) hi;omega
 ·exact z
 ·have q:=h2 (i+ 1) z;have:=hr.at (i:=i) (j:=i+ 1) (by omega) (by omega);omega
theorem aaR(hr:Ris xs):bp xs 0=0:=by
 obtain⟨h1,h2,h3⟩:=Gv hr 0;rcases Nat.eq_zero_or_pos (bp xs 0)with z|z
 ·exact z
 ·have:=h2 0 z;omega
def Off(xs:Array Nat)(d:Nat):Prop:=xs[bp xs d]?≠Ya d
theorem Off.no(hr:Ris xs){d:Nat}(h:Off xs d):∀i,i<xs.size->xs.getD i 0≠d:=by
 intro i hi e;obtain⟨h1,h2,h3⟩:=Gv hr d;have b1:bp xs d<=i:=by
  rcases qE i (bp xs d)with z|z
  ·have:=h2 i z;omega
  ·exact z
 have b2:bp xs d=i:=by
  rcases qE (bp xs d) i with z|z
  ·have:=hr.at z hi;have:=h3 (bp xs d) (Yn _) (by omega);omega
  ·omega
 apply h;rw[b2,YI hi];rw[ay,YI hi]at e;exact congrArg Ya e
theorem Xj(h:∀i,t.slot j≠.live i):Off t.place j:=by
 intro z;apply h (bp t.place j);unfold SetTable.slot;simp only[z,beq_self_eq_true,if_true]
theorem Rh(t:u4)(p:F7):(t.advance p).dummy=p.dummy:=by
 unfold SetTable.advance;split<;>rfl
theorem JD{t:u4}{f:Nat->Int}{h:Int}:∀(fuel:Nat) (p:F7) (j:Nat) (dm:Option Nat),(∀d,p.dummy=Ya d->Off t.place d)->r6 t f h fuel p=Ya (.empty j dm)->Off t.place j/\∀d,dm=Ya d->Off t.place d
 |0,p,j,dm,hp,e=>by
  unfold r6 at e;cases e
 |fuel+ 1,p,j,dm,hp,e=>by
  unfold r6 at e;cases hs:t.slot p.j with
  |empty=>
   rw[hs]at e;dsimp only at e;cases e;exact⟨Xj (λi z=>by rw[hs]at z;cases z),hp⟩
  |dummy=>
   rw[hs]at e;dsimp only at e;refine JD fuel _ j dm (λd hd=>?_) e;rw[Rh]at hd;cases hd;exact Xj (λi z=>by rw[hs]at z;cases z)
  |live i=>
   rw[hs]at e;dsimp only at e;split at e
   ·cases e
   ·exact JD fuel _ j dm (λd hd=>hp d (by rw[Rh]at hd;exact hd)) e
theorem aeI{h:Int}(e:t.freeSlot h=Ya (sl,b)):Off t.place sl:=by
 unfold SetTable.freeSlot SetTable.probe at e;generalize hg:r6 t (λ_=>h+ 1) h (10*SetTable.turns t.mask) (t.probeStart h)=g at e;cases g with
 |none=>cases e
 |some m=>
  cases m with
  |candidate j i n=>cases e
  |empty j dm=>
   obtain⟨h1,h2⟩:=JD _ _ j dm (λd hd=>by cases hd) hg;dsimp only at e;have e':=YL e;cases dm with
   |none=>
    have:j=sl:=congrArg Prod.fst e';rw[←this];exact h1
   |some d=>
    have:d=sl:=congrArg Prod.fst e';rw[←this];exact h2 d rfl
theorem af3{x:Nat}(h:x∈xs.toList.take p):∃i,i<p/\i<xs.size/\xs.getD i 0=x:=by
 obtain⟨i,hi,e⟩:=pT h;rw[ae,aT]at hi;refine⟨i,by omega,by omega,?_⟩;rw[EB,tJ]at e;rw[ay,YI (by omega)];exact e
theorem Q8{x:Nat}(h:x∈xs.toList.drop p):∃i,p<=i/\i<xs.size/\xs.getD i 0=x:=by
 obtain⟨i,hi,e⟩:=pT h;rw[oy,aT]at hi;refine⟨p+ i,by omega,by omega,?_⟩;rw[List.getElem_drop,tJ]at e;rw[ay,YI (by omega)];exact e
theorem ahl(hr:Ris t.place)(ho:Off t.place sl):Ris (t.put sl).1.place:=by
 obtain⟨h1,h2,h3⟩:=Gv hr sl;show(SetTable.insertAt t.place (bp t.place sl) sl).toList.Pairwise (·<·);rw[SetTable.toList_insertAt,tN];refine⟨hr.sublist (iP _ _),?_,?_⟩
 ·rw[vw];refine⟨λx hx=>?_,hr.sublist (EC _ _)⟩;obtain⟨i,a,b,c⟩:=Q8 hx;have q1:=h3 i a b;have q2:=ho.no hr i b;omega
 ·intro x hx y hy;obtain⟨i,a,b,c⟩:=af3 hx;have q1:=h2 i a;rcases YC.mp hy with z|z
  ·omega
  ·obtain⟨i',a',b',c'⟩:=Q8 z;have q2:=h3 i' a' b';omega
theorem CG(t:u4)(n:Nat):Ris (t.standIn n).place:=by
 show(Array.range n).toList.Pairwise (·<·);rw[Array.toList_range];exact mI
def Tb(b:Bool)(t:u4):Prop:=Ris t.place/\t.led=b
theorem akk(h:Tb b t)(es:Array (Int×Yd))(k:Int)(x:Yd):Tb b (layNew t es k x).2.1:=by
 unfold layNew;split
 ·rename_i sl wd e;dsimp only;unfold SetTable.orStandIn;split
  ·exact⟨ahl h.1 (aeI e),h.2⟩
  ·exact⟨CG _ _,h.2⟩
 ·exact⟨CG _ _,h.2⟩
theorem adf{hs:Array Int}{o:Array Nat}(h:Tb b t)(e:t.relaid hs n=Ya (t',o)):Tb b t':=by
 unfold SetTable.relaid SetTable.laid at e;cases hc:SetTable.layClean (SetTable.sizeAbove n-1) hs with
 |none=>rw[hc]at e;cases e
 |some ow=>
  rw[hc]at e;have e':=YL e;have e1:=congrArg Prod.fst e';dsimp only at e1;rw[←e1];refine⟨?_,h.2⟩;show List.Pairwise _ (CA (List.toArray _));rw[List.toList_toArray,List.map_filterMap];refine List.Pairwise.filterMap (R:=(·<·)) _ (λx y hxy a ha c hc=>?_) mI;simp only[Option.map_map,Option.mem_def,ah]at ha hc;obtain⟨_,_,rfl⟩:=ha;obtain⟨_,_,rfl⟩:=hc;exact hxy
theorem afw(h:Tb b t)(es:Array (Int×Yd))(n:Nat):Tb b (EW t es n).2.1:=by
 unfold EW;split
 ·rename_i t' o e;dsimp only;split
  ·exact adf h e
  ·exact⟨CG _ _,h.2⟩
 ·exact⟨CG _ _,h.2⟩
noncomputable abbrev byT(w:YV):Bool:=w.params.followText "set-order"
section
def Fi(prog:YJ)(w:YV)(h:YR)(a:Yc)(S:Int->Bool)(n:Nat):Prop:=
 ∃o es ep t,h.get? a=Ya o/\o.ExactSet/\o.data=.set es ep t/\IU (gz prog w) es.toList/\(∀k,S k=true↔∃e∈es.toList,(gz prog w).is k e.2=true)/\es.size<om/\t.fits es.size=true/\es.size=n/\Tb (!byT w) t
theorem Fi.at{h':YR}(x:Fi prog w h a S n)(k:∀o,h.get? a=Ya o->h'.get? a=Ya o):Fi prog w h' a S n:=by
 obtain⟨o,es,ep,t,ho,r⟩:=x;exact⟨o,es,ep,t,k o ho,r⟩
theorem Fi.congr{S':Int->Bool}{n':Nat}(x:Fi prog w h a S n)(e:∀k,S k=S' k)(en:n=n'):Fi prog w h a S' n':=by
 have z:S=S':=funext e;rw[←z,←en];exact x
def BW(prog:YJ)(w:YV)(es:Array (Int×Yd))(t:u4)(S:Int->Bool)(n:Nat):Prop:=
 IU (gz prog w) es.toList/\(∀k,S k=true↔∃e∈es.toList,(gz prog w).is k e.2=true)/\es.size<om/\t.fits es.size=true/\es.size=n/\Tb (!byT w) t
def UG(h:YR)(a:Yc)(es:Array (Int×Yd))(t:u4):Prop:=∃o ep,h.get? a=Ya o/\o.ExactSet/\o.data=.set es ep t
theorem UG.good(r:UG h a es t)(g:BW prog w es t S n):Fi prog w h a S n:=by
 obtain⟨o,ep,r1,r2,r3⟩:=r;exact⟨o,es,ep,t,r1,r2,r3,g⟩
theorem UG.put{Q:Unit->Yh->Prop}(r:UG s.heap a es t)(hz:es'.size<om)(h:∀h',eT a s.heap h'->UG h' a es' t'->Q () {s with heap:=h'}):
  Ym (Ys prog w) A (storeSet a es' t') Q E s:=by
 obtain⟨⟨c,d,b,sl⟩,ep,ho,hx,hd⟩:=r;cases hd;exact wpAny_storeSet_of ho rfl (h _ (dQ ..) ⟨_,ep+ 1,eB _ ho rfl,hx,rfl⟩) (w9 hz)
theorem BW.mix(g:BW prog w es t S n)(p:JY es'.toList es.toList)(f:t'.fits es'.size=true)(b:Tb (!byT w) t'):BW prog w es' t' S n:=by
 obtain⟨g1,g2,g3,_,g5,_⟩:=g;have z:es'.size=es.size:=by simpa using p.length_eq
 exact⟨g1.perm p,λk=>(g2 k).trans ⟨fun⟨e,u,v⟩=>⟨e,p.mem_iff.mpr u,v⟩,fun⟨e,u,v⟩=>⟨e,p.mem_iff.mp u,v⟩⟩,z▸g3,f,z.trans g5,b⟩
theorem BW.relaid(g:BW prog w es t S n)(m:Nat):BW prog w (EW t es m).1 (EW t es m).2.1 S n:=
 g.mix (relayAll_perm t es m) (relayAll_fits t es m) (afw g.2.2.2.2.2 es m)
theorem BW.more(g:BW prog w es t S n)(hk:(gz prog w).is k x=true)(hx:x.scannable=true)(room:n+ 1<om):
  BW prog w (layNew t es ((gz prog w).hash k) x).1 (layNew t es ((gz prog w).hash k) x).2.1 (λk'=>S k'||decide (k'=k)) (n+ 1):=by
 obtain⟨g1,g2,g3,_,g5,g6⟩:=g;have p:JY _ (es.push ((gz prog w).hash k,x)).toList:=layNew_perm t es ((gz prog w).hash k) x;rw[ED]at p;have z:(layNew t es ((gz prog w).hash k) x).1.size=n+ 1:=by simpa [g5]using p.length_eq
 exact⟨(g1.push hk hx).perm p,mem_push_iff hk g2 p,z▸room,layNew_fits t es _ x,z,akk g6 es _ x⟩
theorem W3{Q:Unit->Yh->Prop}(q:Q () s):Ym (Ys prog w) A (match b with|true=>rule "set.scan.the-table-gave-way"|false=>pure ()) Q E s:=by
 cases b
 ·exact Yr q
 ·exact FK q
theorem ah5{u:l7}{Q:Bool->Yh->Prop}(x:Fi prog w s.heap a S n)(room:n+ 1<om)(h:∀h' b,eT a s.heap h'->Fi prog w h' a (λk'=>S k'||decide (k'=k)) (if S k then n else n+ 1)->Q b {s with heap:=h'}):
  Ym (Ys prog w) A (Iy a (.int k u) ((gz prog w).hash k)) Q E s:=by
 obtain⟨o,es,ep,t,ho,hx,hd,g⟩:=x;have g0:BW prog w es t S n:=g;obtain⟨he,hm,hb,hf,hn,tb⟩:=g;have hk:(gz prog w).is k (.int k u)=true:=intKind_is _ _ _ _;rw[Iy,setAddHashedIn];apply e8;apply Yf;apply gy ho hd hf;dsimp only;rw[byScan_of rfl hb he,if_pos rfl]
 wp_walk using wpAny_setScan_of hk ho hd hf he
 cases hr:List.findIdx? (λe=>(gz prog w).is k e.2) es.toList with
 |some j=>
  obtain⟨lt,is,_⟩:=List.findIdx?_eq_some_iff_getElem.mp hr;have sk:S k=true:=(hm k).mpr ⟨_,ja lt,is⟩
  wp_walk
  refine h s.heap false (.refl a _) (UG.good ⟨o,ep,ho,hx,hd⟩ ?_);rw[if_pos sk,show(λk'=>S k'||decide (k'=k))=S from funext λk'=>?_]
  ·exact g0
  ·by_cases e:k'=k
   ·rw[e,sk];rfl
   ·rw[decide_eq_false e,He]
 |none=>
  have sk:¬ S k=true:=λz=>by
   obtain⟨e,u,v⟩:=(hm k).mp z;exact absurd v (by simpa using List.findIdx?_eq_none_iff.mp hr e u)
  have g1:=g0.more hk rfl room;rw[if_neg sk]at h;dsimp only;generalize layNew t es ((gz prog w).hash k) (.int k u)=L at g1⊢;obtain⟨es1,t1,wd,gv⟩:=L;refine Yf (W3 ?_);dsimp only;rw[hashByValue_scannable 8 (x:=.int k u) rfl];split
  all_goals
   refine Yf (Yr ?_);rw[if_pos (by rfl)];refine Yf (UG.put ⟨o,ep,ho,hx,hd⟩ g1.2.2.1 λh1 s1 r1=>?_);split
   ·have g2:=g1.relaid (SetTable.grown es1.size);refine Yf (W3 (Yf (UG.put (s:={s with heap:=h1}) r1 g2.2.2.1 λh2 s2 r2=>?_)))
    wp_walk
    exact h h2 true (s1.trans s2) (r2.good g2)
   ·wp_walk
    exact h h1 true s1 (r1.good g1)
theorem VD(S I:Yc):F5 prog w (cg.«set.update.loop» ⟨[.ref S,.ref I],[]⟩) λA R s=>Ym (Ys prog w) A.in1 (fw (.ref I)) (λr s=>match r with
  |none=>R (.ok (.ret .none)) s
  |some v=>Ym (Ys prog w) A.in1 (setAdd S v) (λ_ s=>de (Ys prog w) A (.builtin "set.update.loop" ⟨[.ref S,.ref I],[]⟩) R s) (λ_ _=>False) s) (λ_ _=>False) s:=by
 intro A R s nx;show Ym _ _ (fw (.ref I) >>= _) _ _ s;apply Yf;refine ax nx (λr s1 h=>?_) λ_ _ z=>z.elim;rcases r with _|v
 ·wp_walk
  exact h
 ·wp_walk using ax h
  ·exact λ_ _ e=>Yr ⟨eA kc _,e⟩
  ·exact λ_ _ z=>z.elim
theorem aeJ{S:Yc}{fp wr:List Yc}{P:Nat->Yd->Prop}{St:Nat->YR->Prop}(W:zI prog w A.in1 I fp wr n P St)(nS:S∉fp)(val:Nat->Int)(hv:∀i v,P i v->∃t,v=.int (val i) t)(hb:n+ 1<om):
  ∀(k i:Nat) (s:Yh),n=i+ k->St i s.heap->Fi prog w s.heap S (λk'=>(mM val i).any (·==k')) (mM val i).length->
   (∀h' tk,(∀b o,b∉wr->b≠S->s.heap.get? b=Ya o->h'.get? b=Ya o)->Fi prog w h' S (λk'=>(mM val n).any (·==k')) (mM val n).length->R (.ok (.ret .none)) {s with heap:=h',toks:=tk})->
   de (Ys prog w) A (.builtin "set.update.loop" ⟨[.ref S,.ref I],[]⟩) R s:=by
 have nW:S∉wr:=λz=>nS (W.sub _ z);intro k
 induction k with
 |zero=>
  intro i s en st x fin;obtain rfl:n=i:=en;exact enter qS kc (VD S I) (W.done s _ _ st λh tk kp=>fin h tk (λb o nb _ e=>kp b o nb e) (x.at λo e=>kp S o nW e))
 |succ k ih=>
  intro i s en st x fin;refine enter qS kc (VD S I) (W.item i s _ _ (by omega) st λv h tk pv st1 kp=>?_);obtain⟨t,rfl⟩:=hv i v pv;have len:=firstMet_length_le val i;show Ym _ _ (setAdd S (.int (val i) t)) _ _ _;unfold setAdd;refine e8 (Yf ((gz prog w).pyHash (k:=val i) (intKind_is _ _ _ _) (ah5 (s:={s with heap:=h,toks:=tk+ 1}) (x.at λo e=>kp S o nW e) (by omega) λh2 b sb x2=>?_)));refine ih (i+ 1) {s with heap:=h2,toks:=tk+ 1} (by omega) (W.frame _ _ _ st1 λb hb o e=>(sb.2 b λz=>nS (z▸hb)).trans e) (x2.congr (λk'=>?_) ?_) λh3 tk3 k3 x3=>fin h3 tk3 (λb o nb nb' e=>k3 b o nb nb' ((sb.2 b nb').trans (kp b o nb e))) x3
  ·rw[Ck,step_any]
  ·rw[Ck,step_length]
theorem ahH(a:Yd)(h:Q1 (.ref s.heap.objs.size) {s with heap:=s.heap.push {cls:=.type "set",dict:=Yb,data:=.set #[] 0 (.fresh 0 0 (!byT w))}}):
  de (Ys prog w) A (.call (.builtin "set.__new__") ⟨[.type "set",a],[]⟩) (HV Q1 E) s:=by
 refine kM PySem.F.plain_set_new PySem.F.entry_set_new (AD (PySem.F.newCall_set_1 a) ?_);have sub:=sub_set_self;obtain⟨hp,g,d,tk,os⟩:=s
 wp_walk using kX
 exact h
theorem Xd{T newId initId:String}{args:List Yd}{Q:Yd->Yh->Prop}(ft:TypeCalled T newId initId)(ct:checkTypeCall T ⟨args,[]⟩=pure ())(new:de (Ys prog w) A.in1 (.call (.builtin newId) ⟨.type T::args,[]⟩) (HV Q1 E) s)(init:∀v s1,Q1 v s1->s1.TypeIs v T/\de (Ys prog w) A.in1 (.call (.builtin initId) ⟨v::args,[]⟩) (HV (λr s2=>r=.none/\Q v s2) E) s1):Ym (Ys prog w) A (call (.type T) args) Q E s:=by
 obtain⟨_,_,_⟩:=ft.mro;have:=ft.notType;have:=ft.canCreate;have:=ft.made;have:=ft.sub;refine BD (codeAny_of_tree (Yr ⟨Code.quiet_builtin _ (by decide +kernel),zC PySem.F.entry_type_call ?_⟩));rw[Around.under_plain (weight_type_call_type T args []) rfl]
 repeat' first|assumption|wp_step
 refine codeAny_mono new λr s1 h=>?_
 match r,h with
 | .error _,h=>exact h
 | .ok (.ret v),h=>
  obtain⟨ty,c⟩:=init v s1 h;have:=ft.init.lookup;have:=ft.init.bind v
  repeat' first|assumption|wp_step
  refine codeAny_mono c λr s2 h=>?_
  match r,h with
  | .error _,h=>exact h
  | .ok (.ret _),h=>
   obtain⟨rfl,_⟩:=h
   repeat' first|assumption|wp_step
end
theorem dU:Iq "set_iterator" "__next__" "set_iterator.__next__":=
 .of (owner:="set_iterator") (n:="__next__") (by rw[FL,AV];kernel_rfl) (by decide +kernel) (by decide +kernel) (by decide +kernel) (by first|exact .inl (by decide +kernel)|exact .inr (by decide +kernel)) (by rw[rq];kernel_rfl)
theorem sS:mE ve "set_iterator.__next__"=Ya cg.«set_iterator.__next__»:=EU (by kernel_rfl)
theorem tE(a:Yd):ka "set_iterator.__next__" ⟨[a],[]⟩:=by unfold ka;kernel_rfl
theorem Kv:Iq "set_iterator" "__iter__" "set_iterator.__iter__":=
 .of (owner:="set_iterator") (n:="__iter__") (by rw[FL,AV];kernel_rfl) (by decide +kernel) (by decide +kernel) (by decide +kernel) (by first|exact .inl (by decide +kernel)|exact .inr (by decide +kernel)) (by rw[rq];kernel_rfl)
theorem Ws:mE ve "set_iterator.__iter__"=Ya cg.«dict_keyiterator.__iter__»:=F8 (id':="dict_keyiterator.__iter__") (by kernel_rfl) rfl (by decide +kernel) (by kernel_rfl)
theorem Wb(a:Yd):ka "set_iterator.__iter__" ⟨[a],[]⟩:=by unfold ka;kernel_rfl
theorem VR:mE ve "set.__iter__"=Ya cg.«frozenset.__iter__»:=F8 (id':="frozenset.__iter__") (by kernel_rfl) rfl (by decide +kernel) (by kernel_rfl)
noncomputable abbrev newS(w:YV)(h:YR):YR:=h.push {cls:=.type "set",dict:=Yb,data:=.set #[] 0 (.fresh 0 0 (!byT w))}
section
theorem Xq{l:Yc}{items:Array Yd}{Q:Yd->Yh->Prop}(hh:A.handled=Yb)(hl:s.heap.IsList l items)(hi:bg items.toList ns)(hb:items.size+ 1<om)(h:∀h' tk,Fi prog w h' s.heap.objs.size (λk'=>(mM (λi=>ns.getD i 0) items.size).any (·==k')) (mM (λi=>ns.getD i 0) items.size).length->(∀b o,s.heap.get? b=Ya o->h'.get? b=Ya o)->Q (.ref s.heap.objs.size) {s with heap:=h',toks:=tk}):
  Ym (Ys prog w) A (call (.type "set") [.ref l]) Q E s:=by
 obtain⟨⟨oc,od,odt,osl⟩,hol,hcl,nl,hdl⟩:=id hl;cases hcl;cases hdl;have lS:l<s.heap.objs.size:=Yu hol;refine Xd CY (PySem.F.typeCall_set_1 _) (ahH (.ref l) (Q1:=λv s1=>v=.ref s.heap.objs.size/\s1={s with heap:=newS w s.heap}) ⟨rfl,rfl⟩) ?_;rintro _ _ ⟨rfl,rfl⟩;have new:(newS w s.heap).get? s.heap.objs.size=Ya {cls:=.type "set",dict:=Yb,data:=.set #[] 0 (.fresh 0 0 (!byT w))}:=Yq _ rfl;have old:(newS w s.heap).get? l=Ya {cls:=.type "list",dict:=od,data:=.seq items nl,slots:=osl}:=Yg _ hol;have size:(newS w s.heap).objs.size=s.heap.objs.size+ 1:=ff ..;have ty:ck {s with heap:=newS w s.heap} (.ref s.heap.objs.size) "set":=⟨_,new,rfl⟩;refine⟨ty,kM CY.init.plain PySem.F.entry_set_init (check_set_init_1 ty ?_)⟩;have:=PySem.F.sub_list_set;have:=PySem.F.sub_list_frozenset;have nd:(jI "list"==jI "dict")=false:=by decide
 have grown:∀b o,s.heap.get? b=Ya o->(newS w s.heap).get? b=Ya o:=λb o e=>Yg _ e;generalize newS w s.heap=h1 at new old size ty grown⊢;have il:h1.IsList l items:=⟨_,old,rfl,nl,rfl⟩
 wp_walk using gx il
 have nf:s.heap.objs.size∉[h1.objs.size,l]:=by
  rw[size];intro z;rcases YC.mp z with z|z
  ·exact absurd z (YH (i8 _))
  ·exact j3 lS (Yy.mp z)
 refine aeJ (xi (by simpa using hh) _ l (by rw[size];exact YH (kG lS)) items) nf (λi=>ns.getD i 0) (λi v hv=>IntsAre.int_at hi i v (by rw[Y9];exact hv)) hb items.size 0 _ (by omega)
  ⟨⟨_,Yq _ rfl,rfl,rfl⟩,il.push _⟩ ⟨_,#[],0,_,Yg _ new,⟨rfl,rfl,rfl⟩,rfl,λe he=>by simp at he,λk=>by simp[firstMet_zero],by decide,by rfl,rfl,⟨List.Pairwise.nil,rfl⟩⟩ λh2 tk kp x=>?_
 wp_walk
 refine⟨rfl,h h2 tk x λb o e=>?_⟩;have lb:=Yu e;refine kp b o (λz=>?_) (YH lb) (Yg _ (grown b o e));rw[Yy.mp z,size]at lb;exact absurd lb (JA.mpr (hZ _))
end
section
theorem FP{α:Type}:∀{xs:List α} {i:Nat} (h:i<xs.length),(xs[i]::xs.eraseIdx i).Perm xs
 |x::xs,0,_=>.refl _
 |x::xs,i+ 1,h=>(List.Perm.swap x (xs[i]'(sh h)) _).trans ((FP (xs:=xs) (i:=i) (sh h)).cons x)
theorem adt{src:Source}{Q:Nat->Yh->Prop}(hn:n≠0)(h:∀i d,i<n->Q i {s with drawn:=d}):Ym M A (choose src n) Q E s:=fun Γ p _=>by
 unfold choose;rw[Sem.wp_choose];exact⟨hn,h _ _ (JE _ (Nat.pos_of_ne_zero hn))⟩
theorem abF{α:Type}{M:Model}:∀(n:Nat) (xs:List α) (s:Yh) (Q:List α->Yh->Prop),xs.length=n->(∀ys d,ys.Perm xs->Q ys {s with drawn:=d})->Ym M A (GI n xs) Q E s
 |0,xs,s,Q,hl,h=>by
  have e:xs=[]:=dA hl;subst e;unfold GI;exact Yr (h [] s.drawn .nil)
 |n+ 1,[],s,Q,hl,h=>by cases hl
 |n+ 1,x::xs,s,Q,hl,h=>by
  unfold GI;refine Yf (adt (by simp) λi d hi=>?_);rw[Yo hi];dsimp only;refine Yf (abF n _ _ _ (by rw[vS hi,hl];rfl) λys d' pm=>?_);exact Yr (h _ d' ((pm.cons _).trans (FP hi)))
theorem ace{α:Type}(f:Nat->Nat):∀(n k:Nat) (xs:List α) (out:Array α),xs.length=n->(pickOrder.go f n k xs out).toList.Perm (out.toList++xs)
 |0,k,xs,out,hl=>by
  have e:xs=[]:=dA hl;subst e;unfold pickOrder.go;rw[cy]
 |n+ 1,k,xs,out,hl=>by
  unfold pickOrder.go;have hi:f k%xs.length<xs.length:=JE _ (by omega);rw[Yo hi];dsimp only;refine(ace f n (k+ 1) _ _ (by rw[vS hi,hl];rfl)).trans ?_;rw[ED,mT];exact List.Perm.append_left _ (FP hi)
theorem acS{α:Type}(f:Nat->Nat)(xs:Array α):(sR f xs).toList.Perm xs.toList:=by
 have:=ace f xs.size 0 xs.toList #[] (by simp);simpa [sR]using this
end
section
noncomputable def Lh(first:Yd)(i:Nat)(a:Yc)(n ep:Nat):Y3:={cls:=.type "set_iterator",dict:=Yb,data:=.fields #[first,.int i 0,.ref a,.int n 0,.int ep 0],slots:=#[]}
theorem Fg(h:YR)(hI:h.get? I=Ya (Lh first i a n ep))(k:Nat)(x:Yd):(h.update I (sq (·.setIfInBounds k x))).get? I=Ya {cls:=.type "set_iterator",dict:=Yb,data:=.fields ((#[first,.int i 0,.ref a,.int n 0,.int ep 0]:Array Yd).setIfInBounds k x),slots:=#[]}:=
 eB _ hI rfl
theorem iT(hI:s.heap.get? I=Ya (Lh first i a es.size ep)):s.TypeIs (.ref I) "set_iterator":=⟨_,hI,rfl⟩
theorem Gm{sl:Int}{nx:Nat}(hI:s.heap.get? I=Ya (Lh (.int sl 0) i a es.size ep))(ho:s.heap.get? a=Ya o)(hd:o.data=.set es ep t)(hf:t.fits es.size=true)(hn:∀(A:Y4) (E:Yd->Yh->Prop) (Q':Option (Yd×Nat)->Yh->Prop),Q' (Ya (x,nx)) s->Ym (Ys prog w) A (va a sl.toNat i ep) Q' E s)(h:∀h',h'.get? I=Ya (Lh (.int nx 0) (i+ 1) a es.size ep)->eT I s.heap h'->Q (Ya x) {s with heap:=h'}):Ym (Ys prog w) A (fw (.ref I)) Q E s:=by
 unfold fw;refine Yf (sC (i0 (name:=af "__next__") (iT hI) dU (hG dU (iT hI) sS ?_ (tE _))));unfold cg.«set_iterator.__next__»;refine Yf (Yr (Yf (vb hI rfl ?_)));show Ym _ _ (BO a >>= _) _ _ _;refine Yf (l6 ho hd hf ?_);show Ym _ _ (if(((es.size:Nat):Int) !=((es.size:Nat):Int))=true then _ else _) _ _ _;rw[if_neg (by simp)];show Ym _ _ (va a sl.toNat ((i:Int)).toNat ((ep:Int)).toNat >>= _) _ _ _;rw[YA,YA];refine Yf (hn _ _ _ ?_);show Ym _ _ (BP (.ref I) 0 (rawInt nx) >>= _) _ _ _;refine Yf (nN hI rfl (by simp) ?_);have h1:=Fg s.heap hI 0 (rawInt nx);refine Yf (nN (s:={s with heap:=s.heap.update I (sq (·.setIfInBounds 0 (rawInt nx)))}) h1 rfl (by simp) ?_);refine Yr ⟨_,rfl,Yr (h _ ?_ ((dQ ..).trans (dQ ..)))⟩;exact eB _ h1 rfl
theorem W2{Q:CM->Yh->Prop}(hh:A.handled=Yb)(h:∀h' e,(∀b o,s.heap.get? b=Ya o->h'.get? b=Ya o)->(∃o,h'.get? e=Ya o/\o.cls=.type "StopIteration")->E (.ref e) {s with heap:=h'}):
  Ym M A (newExc (.type "StopIteration") [] >>= λe=>EX e) Q E s:=by
 refine Yf ?_;simp only[newExc,newTuple];refine Yf (el ?_ (by size_fits));refine Yf (m:=F9 _ _) (AD (a:=ij) (by first|rfl|(simp only[F9];rfl)) ?_);refine el ?_ (by size_fits);refine wpAny_raiseNew_none hh (h _ _ (λb o e=>Yg _ (Yg _ e)) ⟨_,Yq _ rfl,rfl⟩)
theorem Gh{sl:Int}(hh:A.handled=Yb)(hI:s.heap.get? I=Ya (Lh (.int sl 0) i a es.size ep))(ho:s.heap.get? a=Ya o)(hd:o.data=.set es ep t)(hf:t.fits es.size=true)(hn:∀(A:Y4) (E:Yd->Yh->Prop) (Q':Option (Yd×Nat)->Yh->Prop),Q' Yb s->Ym (Ys prog w) A (va a sl.toNat i ep) Q' E s)(h:∀h',(∀b o,b≠I->s.heap.get? b=Ya o->h'.get? b=Ya o)->Q Yb {s with heap:=h'}):Ym (Ys prog w) A (fw (.ref I)) Q E s:=by
 unfold fw;refine Yf (sC (i0 (name:=af "__next__") (iT hI) dU (hG dU (iT hI) sS ?_ (tE _))));unfold cg.«set_iterator.__next__»;refine Yf (Yr (Yf (vb hI rfl ?_)));show Ym _ _ (BO a >>= _) _ _ _;refine Yf (l6 ho hd hf ?_);show Ym _ _ (if(((es.size:Nat):Int) !=((es.size:Nat):Int))=true then _ else _) _ _ _;rw[if_neg (by simp)];show Ym _ _ (va a sl.toNat ((i:Int)).toNat ((ep:Int)).toNat >>= _) _ _ _;rw[YA,YA];refine Yf (hn _ _ _ ?_);show Ym _ _ (BP (.ref I) 2 .none >>= _) _ _ _;refine Yf (nN hI rfl (by simp) ?_);refine W2 (A:=A.in1) hh λh' e kp zz=>?_;obtain⟨oe,q1,q2⟩:=zz;refine Yf (yn (T:="StopIteration") (b:=true) ⟨oe,q1,q2⟩ GA ?_);exact Yr (h h' λb ob nb e=>kp b ob ((br _ _ (Ne.symm nb)).trans e))
theorem Sx{k:Nat}{hk:Int}(hI:s.heap.get? I=Ya (Lh (.ref tp) i a es.size ep))(ho:s.heap.get? a=Ya o)(hd:o.data=.set es ep t)(hf:t.fits es.size=true)(ht:s.heap.get? tp=Ya {cls:=.type "tuple",dict:=Yb,data:=.seq (ps.map fun(i:Nat)=>rawInt i).toArray c,slots:=#[]})(hp:ps[i]?=Ya k)(hx:es[k]?=Ya (hk,x))(h:∀h',h'.get? I=Ya (Lh (.ref tp) (i+ 1) a es.size ep)->eT I s.heap h'->Q (Ya x) {s with heap:=h'}):Ym (Ys prog w) A (fw (.ref I)) Q E s:=by
 unfold fw;refine Yf (sC (i0 (name:=af "__next__") (iT hI) dU (hG dU (iT hI) sS ?_ (tE _))));unfold cg.«set_iterator.__next__»;refine Yf (Yr (Yf (vb hI rfl ?_)));show Ym _ _ (BO a >>= _) _ _ _;refine Yf (l6 ho hd hf ?_);show Ym _ _ (if(((es.size:Nat):Int) !=((es.size:Nat):Int))=true then _ else _) _ _ _;rw[if_neg (by simp)];show Ym _ _ (zw (.ref tp) >>= _) _ _ _;refine Yf (ri ht rfl ?_);have e1:((ps.map fun(i:Nat)=>rawInt i).toArray)[((i:Nat):Int).toNat]?=Ya (.int k 0):=by
  rw[YA,AW,Yv,hp];rfl
 dsimp only;rw[e1];show Ym _ _ (IA a ((k:Nat):Int).toNat ((ep:Nat):Int).toNat >>= _) _ _ _;rw[YA,YA];unfold IA;refine Yf (Yf (gy ho hd hf ?_));show Ym _ _ (if(ep !=ep)=true then _ else _) _ _ _;rw[if_neg (by simp)];refine Yf (Yr ?_);rw[hx];refine Yr ?_;show Ym _ _ (BP (.ref I) 1 (rawInt ((i:Int)+ 1)) >>= _) _ _ _;refine Yf (nN hI rfl (by simp) (Yr ⟨_,rfl,Yr (h _ ?_ (dQ ..))⟩));exact Fg s.heap hI 1 (rawInt ((i:Int)+ 1))
theorem RD(hh:A.handled=Yb)(hI:s.heap.get? I=Ya (Lh (.ref tp) i a es.size ep))(ho:s.heap.get? a=Ya o)(hd:o.data=.set es ep t)(hf:t.fits es.size=true)(ht:s.heap.get? tp=Ya {cls:=.type "tuple",dict:=Yb,data:=.seq (ps.map fun(i:Nat)=>rawInt i).toArray c,slots:=#[]})(hp:ps[i]?=Yb)(h:∀h',(∀b o,b≠I->s.heap.get? b=Ya o->h'.get? b=Ya o)->Q Yb {s with heap:=h'}):Ym (Ys prog w) A (fw (.ref I)) Q E s:=by
 unfold fw;refine Yf (sC (i0 (name:=af "__next__") (iT hI) dU (hG dU (iT hI) sS ?_ (tE _))));unfold cg.«set_iterator.__next__»;refine Yf (Yr (Yf (vb hI rfl ?_)));show Ym _ _ (BO a >>= _) _ _ _;refine Yf (l6 ho hd hf ?_);show Ym _ _ (if(((es.size:Nat):Int) !=((es.size:Nat):Int))=true then _ else _) _ _ _;rw[if_neg (by simp)];show Ym _ _ (zw (.ref tp) >>= _) _ _ _;refine Yf (ri ht rfl ?_);have e1:((ps.map fun(i:Nat)=>rawInt i).toArray)[((i:Nat):Int).toNat]?=none:=by
  rw[YA,AW,Yv,hp];rfl
 dsimp only;rw[e1];show Ym _ _ (BP (.ref I) 0 (rawInt 0) >>= _) _ _ _;refine Yf (nN hI rfl (by simp) ?_);have h1:=Fg s.heap hI 0 (rawInt 0);refine Yf (nN (s:={s with heap:=s.heap.update I (sq (·.setIfInBounds 0 (rawInt 0)))}) h1 rfl (by simp) ?_);refine W2 (A:=A.in1) hh λh' e kp zz=>?_;obtain⟨oe,q1,q2⟩:=zz;refine Yf (yn (T:="StopIteration") (b:=true) ⟨oe,q1,q2⟩ GA ?_);exact Yr (h h' λb ob nb e=>kp b ob ((br _ _ (Ne.symm nb)).trans ((br _ _ (Ne.symm nb)).trans e)))
theorem Rz{Q:Option (Yd×Nat)->Yh->Prop}(b:byT w=true)(ho:s.heap.get? a=Ya o)(hd:o.data=.set es ep t)(hf:t.fits es.size=true)(h:Q (((sR (w.params.setOrder a ep) es)[i]?).map λe=>(e.2,sl)) s):Ym (Ys prog w) A (va a sl i ep) Q E s:=by
 have hb:w.params.followText "set-order"=true:=b;unfold va;refine Yf (gy ho hd hf (Yf (Yf (kX (Yr ?_)))));show Ym _ _ (if w.params.followText "set-order"=true then _ else _) _ _ _;rw[hb,if_pos rfl];show Ym _ _ (if(ep !=ep)=true then _ else _) _ _ _;rw[if_neg (by simp)];refine Yf ?_;unfold setWalk;refine Yf (gy ho hd hf (Yf (Yf (kX (Yr ?_)))));show Ym _ _ (if w.params.followText "set-order"=true then _ else _) _ _ _;rw[hb,if_pos rfl];exact Yf (kX (Yr (Yr h)))
theorem Xr{Q:Option (Yd×Nat)->Yh->Prop}(b:byT w=false)(d:(!t.plain&&decide (es.size>1))=false)(hl:t.led=true)(ho:s.heap.get? a=Ya o)(hd:o.data=.set es ep t)(hf:t.fits es.size=true)(h:Q (match es[bp t.place sl]?,t.place[bp t.place sl]? with|some (_,x),Ya j=>Ya (x,j+ 1)|_,_=>Yb) s):Ym (Ys prog w) A (va a sl i ep) Q E s:=by
 have hb:w.params.followText "set-order"=false:=b;unfold va;refine Yf (gy ho hd hf (Yf (Yf (kX (Yr ?_)))));show Ym _ _ (if w.params.followText "set-order"=true then _ else _) _ _ _;rw[hb,if_neg YS];refine Yf (Yr ?_);show Ym _ _ (if(!t.plain&&decide (es.size>1))=true then _ else _) _ _ _;rw[d,if_neg YS];refine Yf ?_;show Ym _ _ (if(!t.led&& !es.isEmpty)=true then _ else _) _ _ _;rw[hl];show Ym _ _ (if(false&& !es.isEmpty)=true then _ else _) _ _ _;rw[fe,if_neg YS];exact Yr (Yr h)
end
section
theorem NZ{Q:Yd->Yh->Prop}(hI:s.heap.get? I=Ya (Lh first i a es.size ep))(h:Q (.ref I) s):Ym (Ys prog w) A (tq (.ref I)) Q E s:=by
 refine r9 (iT hI) Kv (hG Kv (iT hI) Ws ?_ (Wb _));show Ym _ _ (ret (.ref I)) _ _ s;exact Yr ⟨_,rfl,"set_iterator",_,iT hI,dU.lookup,h⟩
theorem adU(hh:A.handled=Yb)(b:byT w=true)(hd:o.data=.set es ep t)(hf:t.fits es.size=true)(ne:a≠I):
  zI prog w A I [I,a] [I] ((sR (w.params.setOrder a ep) es).toList.map (·.2)).length (λi v=>((sR (w.params.setOrder a ep) es).toList.map (·.2))[i]?=Ya v)
   (λi h=>(∃sl:Nat,h.get? I=Ya (Lh (.int sl 0) i a es.size ep))/\h.get? a=Ya o) where
 sub:=λb hb=>Yy.mp hb▸Yl
 frame:=λi h h' st hk=>⟨let ⟨sl,e⟩:=st.1;⟨sl,hk I (by simp) _ e⟩,hk a (by simp) _ st.2⟩
 item:=λi s _ _ hi st hQ=>by
  obtain⟨⟨sl,hI⟩,ho⟩:=st;have hi':i<(sR (w.params.setOrder a ep) es).size:=by simpa using hi
  refine Gm (x:=((sR (w.params.setOrder a ep) es)[i]).2) (nx:=sl) hI ho hd hf (λA E Q' q=>Rz b ho hd hf ?_) λh' e sb=>hQ _ h' s.toks ?_ ⟨⟨sl,e⟩,(sb.2 a ne).trans ho⟩ λc oc nc ec=>(sb.2 c (λz=>nc (by simp[z]))).trans ec
  ·rw[YI hi'];exact q
  ·rw[Yv,Y9,YI hi'];rfl
 done:=λs Q E st hQ=>by
  obtain⟨⟨sl,hI⟩,ho⟩:=st;refine Gh hh hI ho hd hf (λA E Q' q=>Rz b ho hd hf ?_) λh' kp=>hQ h' s.toks λc oc nc ec=>kp c oc (λz=>nc (by simp[z])) ec;rw[fg (by simp)];exact q
 self:=λi s Q E st hQ=>let ⟨⟨_,hI⟩,_⟩:=st;NZ hI hQ
theorem agj(hh:A.handled=Yb)(b:byT w=false)(d:(!t.plain&&decide (es.size>1))=false)(tb:Tb (!byT w) t)(hd:o.data=.set es ep t)(hf:t.fits es.size=true)(ne:a≠I):
  zI prog w A I [I,a] [I] (es.toList.map (·.2)).length (λi v=>(es.toList.map (·.2))[i]?=Ya v)
   (λi h=>(∃sl:Nat,bp t.place sl=i/\h.get? I=Ya (Lh (.int sl 0) i a es.size ep))/\h.get? a=Ya o) where
 sub:=λb hb=>Yy.mp hb▸Yl
 frame:=λi h h' st hk=>⟨let ⟨sl,e1,e⟩:=st.1;⟨sl,e1,hk I (by simp) _ e⟩,hk a (by simp) _ st.2⟩
 item:=λi s _ _ hi st hQ=>by
  obtain⟨⟨sl,e1,hI⟩,ho⟩:=st;have hi':i<es.size:=by simpa using hi
  have hl:t.led=true:=by rw[tb.2,b];rfl
  have hp:t.place.size=es.size:=by
   simp only[SetTable.fits,fy,beq_iff_eq,decide_eq_true_eq]at hf;exact hf.1
  have hip:i<t.place.size:=by omega
  refine Gm (x:=(es[i]).2) (nx:=t.place.getD i 0+ 1) hI ho hd hf (λA E Q' q=>Xr b d hl ho hd hf ?_) λh' e sb=>hQ _ h' s.toks ?_ ⟨⟨t.place.getD i 0+ 1,aaZ tb.1 hip,e⟩,(sb.2 a ne).trans ho⟩ λc oc nc ec=>(sb.2 c (λz=>nc (by simp[z]))).trans ec
  ·rw[YA,e1,YI hi',YI hip];rw[ay,YI hip]at q;exact q
  ·rw[Yv,Y9,YI hi'];rfl
 done:=λs Q E st hQ=>by
  obtain⟨⟨sl,e1,hI⟩,ho⟩:=st;have hl:t.led=true:=by rw[tb.2,b];rfl
  refine Gh hh hI ho hd hf (λA E Q' q=>Xr b d hl ho hd hf ?_) λh' kp=>hQ h' s.toks λc oc nc ec=>kp c oc (λz=>nc (by simp[z])) ec;rw[YA,e1,fg (by simp)];exact q
 self:=λi s Q E st hQ=>let ⟨⟨_,_,hI⟩,_⟩:=st;NZ hI hQ
theorem aao(hh:A.handled=Yb)(pm:ps.Perm (cS es.size))(hd:o.data=.set es ep t)(hf:t.fits es.size=true)(ne:a≠I)(nt:tp≠I):
  zI prog w A I [I,a,tp] [I] (ps.map λi=>(es.getD i (0,.none)).2).length (λi v=>(ps.map λi=>(es.getD i (0,.none)).2)[i]?=Ya v)
   (λi h=>h.get? I=Ya (Lh (.ref tp) i a es.size ep)/\h.get? a=Ya o/\h.get? tp=Ya {cls:=.type "tuple",dict:=Yb,data:=.seq (ps.map fun(i:Nat)=>rawInt i).toArray c,slots:=#[]}) where
 sub:=λb hb=>Yy.mp hb▸Yl
 frame:=λi h h' st hk=>⟨hk I (by simp) _ st.1,hk a (by simp) _ st.2.1,hk tp (by simp) _ st.2.2⟩
 item:=λi s _ _ hi st hQ=>by
  obtain⟨hI,ho,ht⟩:=st;rw[Yi]at hi;have hm:ps[i]<es.size:=fb.mp (pm.mem_iff.mp (ja hi));refine Sx (x:=(es[ps[i]]).2) (hk:=(es[ps[i]]).1) hI ho hd hf ht (Yo hi) (YI hm) λh' e sb=>hQ _ h' s.toks ?_ ⟨e,(sb.2 a ne).trans ho,(sb.2 tp nt).trans ht⟩ λc oc nc ec=>(sb.2 c (λz=>nc (by simp[z]))).trans ec;rw[Yv,Yo hi,FO,ay,YI hm];rfl
 done:=λs Q E st hQ=>by
  obtain⟨hI,ho,ht⟩:=st;exact RD hh hI ho hd hf ht (km (by rw[Yi];exact Yn _)) λh' kp=>hQ h' s.toks λc oc nc ec=>kp c oc (λz=>nc (by simp[z])) ec
 self:=λi s Q E st hQ=>NZ st.1 hQ
theorem aax(es:Array (Int×Yd)):(cS es.size).map (λi=>(es.getD i (0,ij)).2)=es.toList.map (·.2):=by
 apply xa;intro i;rw[Yv,Yv,Y9 (xs:=es)];by_cases h:i<es.size
 ·rw[Yo (by rw[cK];exact h),List.getElem_range,FO,ay,YI h];rfl
 ·rw[km (by rw[cK];omega),fg (by omega)];rfl
theorem afc(hh:A.handled=Yb)(ho:s.heap.get? a=Ya o)(hx:o.ExactSet)(hd:o.data=.set es ep t)(hf:t.fits es.size=true)(hb:es.size<om)(tb:Tb (!byT w) t){Q:Yd->Yh->Prop}
  (h:∀(h':YR) (d':HL) (I:Yc) (fp:List Yc) (vs:List Yd) (St:Nat->YR->Prop),(∀b o,s.heap.get? b=Ya o->h'.get? b=Ya o)->s.heap.objs.size<=I->(∀b∈fp,b=a∨s.heap.objs.size<=b)->vs.Perm (es.toList.map (·.2))->
   (∀A:Y4,A.handled=Yb->zI prog w A I fp [I] vs.length (λi v=>vs[i]?=Ya v) St)->St 0 h'->Q (.ref I) {s with heap:=h',drawn:=d'}):Ym (Ys prog w) A (tq (.ref a)) Q E s:=by
 have hT:s.TypeIs (.ref a) "set":=⟨o,ho,hx.1⟩;have la:=Yu ho;refine r9 hT AX (hG AX hT VR ?_ (PySem.F.args_set_iter_1 _));unfold cg.«frozenset.__iter__» Builtin.Frozenset.slot0 Builtin.Frozenset.addrOf Builtin.Frozenset.sizeOf;refine Yf (Yf (Yr (Yr (Yf (Yf (l6 ho hd hf (Yr ?_)))))));refine Yf ?_;unfold setDrawn;refine Yf (gy ho hd hf (Yf (Yf (kX (Yr (Yr ?_))))));show Ym _ _ (if(!byT w&&(!t.plain&&decide (es.size>1)))=true then _ else _) _ _ _;cases hc:(!byT w&&(!t.plain&&decide (es.size>1)))with
 |false=>
  rw[if_neg YS];refine Yf (Yr (Yf ?_));unfold setEpoch;refine Yf (gy ho hd hf (Yr ?_));refine Yf (el (Yr ⟨_,rfl,"set_iterator",_,⟨_,Yq _ rfl,rfl⟩,dU.lookup,?_⟩));have nI:a≠s.heap.objs.size:=YH la;have fpok:∀b∈[s.heap.objs.size,a],b=a∨s.heap.objs.size<=b:=λb hb=>by
   simp only[YC,yy,or_false]at hb;rcases hb with z|z
   ·exact .inr (kR z.symm)
   ·exact .inl z
  cases hT:byT w with
  |true=>
   refine h _ s.drawn s.heap.objs.size [s.heap.objs.size,a] _ _ (λb o e=>Yg _ e) (Yn _) fpok ((acS (w.params.setOrder a ep) es).map _) (λA hA=>adU hA hT hd hf nI) ⟨⟨0,Yq _ rfl⟩,Yg _ ho⟩
  |false=>
   have hc':(!t.plain&&decide (es.size>1))=false:=by rw[hT]at hc;exact hc
   refine h _ s.drawn s.heap.objs.size [s.heap.objs.size,a] _ _ (λb o e=>Yg _ e) (Yn _) fpok (.refl _) (λA hA=>agj hA hT hc' tb hd hf nI) ⟨⟨0,aaR tb.1,Yq _ rfl⟩,Yg _ ho⟩
 |true=>
  rw[if_pos rfl];refine Yf (abF es.size (cS es.size) s _ (by rw[cK]) λps d' pm=>Yf ?_);refine AY (Yf ?_) ?_
  ·unfold setEpoch;have ho':(s.heap.push {cls:=.type "tuple",data:=.seq (ps.map fun(i:Nat)=>rawInt i).toArray}).get? a=Ya o:=Yg _ ho;refine Yf (gy ho' hd hf (Yr ?_));refine Yf (el (Yr ⟨_,rfl,"set_iterator",_,⟨_,Yq _ rfl,rfl⟩,dU.lookup,?_⟩));have sz:(s.heap.push {cls:=.type "tuple",data:=.seq (ps.map fun(i:Nat)=>rawInt i).toArray}).objs.size=s.heap.objs.size+ 1:=ff ..;refine h _ d' (s.heap.push {cls:=.type "tuple",data:=.seq (ps.map fun(i:Nat)=>rawInt i).toArray}).objs.size [(s.heap.push {cls:=.type "tuple",data:=.seq (ps.map fun(i:Nat)=>rawInt i).toArray}).objs.size,a,s.heap.objs.size] (ps.map λi=>(es.getD i (0,.none)).2) _
    (λb o e=>Yg _ (Yg _ e)) (by rw[sz];exact hZ _) (λb hb=>?_) ?_ (λA hA=>aao (c:=0) hA pm hd hf (by rw[sz];exact YH (kG la)) (by rw[sz];exact YH (i8 _)))
    ⟨Yq _ rfl,Yg _ ho',Yg _ (Yq _ rfl)⟩
   ·simp only[YC,yy,or_false]at hb;rcases hb with z|z|z
    ·exact .inr (by rw[z,sz];exact hZ _)
    ·exact .inl z
    ·exact .inr (kR z.symm)
   ·exact(pm.map _).trans (by rw[aax])
  ·rw[Yi,pm.length_eq,cK];exact w9 hb
end
theorem Fv{α:Type}[DecidableEq α]:∀{l m:List α},l.Nodup->(∀x∈l,x∈m)->m.length<=l.length->m.Perm l
 |[],m,_,_,h=>by
  have e:m=[]:=dA (Nat.le_zero.mp h);rw[e]
 |x::l,m,nd,sub,h=>by
  rw[aw]at nd;have hx:=sub x Yl;have pm:=List.perm_cons_erase hx;refine pm.trans (List.Perm.cons x (Fv nd.2 (λy hy=>?_) ?_))
  ·have hy':=sub y (Yk _ hy);exact(List.mem_erase_of_ne (show y≠x from λz=>nd.1 (z▸hy))).mpr hy'
  ·have:=pm.length_eq;rw[YT]at this h;omega
theorem Kr(val:Nat->Int):∀i,(mM val i).Nodup
 |0=>AR
 |i+ 1=>by
  rw[Ck];unfold step_dedup;have ih:=Kr val i;by_cases h:List.any (mM val i) (·==val i)
  ·rw[if_pos h];exact ih
  ·rw[if_neg h,fi];refine⟨ih,by simp,λx hx y hy e=>h ?_⟩;rw[eR];refine⟨x,hx,?_⟩;have e2:=Yy.mp hy;rw[e,e2,beq_self_eq_true]
theorem TJ(val:Nat->Int)(i:Nat)(k:Int):k∈mM val i↔∃j,j<i/\val j=k:=by
 have h:=firstMet_any val i k;rw[eD,eR,eR]at h;constructor
 ·intro z;obtain⟨x,hx,e⟩:=h.mp ⟨k,z,by simp⟩;obtain⟨j,hj,ej⟩:=YF.mp hx;exact⟨j,fb.mp hj,by rw[ej];simpa using e⟩
 ·rintro⟨j,hj,e⟩;obtain⟨x,hx,e2⟩:=h.mpr ⟨val j,YF.mpr ⟨j,fb.mpr hj,rfl⟩,by simp[e]⟩;have:x=k:=by simpa using e2
  rw[←this];exact hx
section
theorem Mi:∀{l:List (Int×Yd)},IU (gz prog w) l->∃ns,bg (l.map (·.2)) ns/\∀k,k∈ns↔∃e∈l,(gz prog w).is k e.2=true
 |[],_=>⟨[],.nil,λk=>by simp⟩
 |e::l,h=>by
  obtain⟨ns,h1,h2⟩:=Mi h.tail;obtain⟨⟨k,hk,_⟩,_⟩:=h.head;obtain⟨t,et⟩:=DH (k:=k) (v:=e.2) hk;refine⟨k::ns,?_,λj=>?_⟩
  ·rw[YQ,et];exact .cons k t h1
  ·rw[YC,h2 j];constructor
   ·rintro(z|⟨e',he,q⟩)
    ·exact⟨e,Yl,by rw[z];exact hk⟩
    ·exact⟨e',Yk _ he,q⟩
   ·rintro⟨e',he,q⟩;rcases YC.mp he with z|z
    ·rw[z]at q;exact .inl ((gz prog w).inj e.2 j k q hk)
    ·exact .inr ⟨e',z,q⟩
theorem ac3{vs us:List Yd}(pm:vs.Perm us)(h:bg us ns):∃ms,bg vs ms/\ms.Perm ns:=by
 induction pm generalizing ns with
 |nil=>exact⟨ns,h,.refl _⟩
 |cons x p ih=>
  cases h with
  |cons n t hr=>
   obtain⟨ms,h1,h2⟩:=ih hr;exact⟨n::ms,.cons n t h1,h2.cons n⟩
 |swap x y l=>
  cases h with
  |cons n t hr=>
   cases hr with
   |cons m u hr=>exact⟨_,.cons m u (.cons n t hr),List.Perm.swap ..⟩
 |trans p q ih1 ih2=>
  obtain⟨ms,h1,h2⟩:=ih2 h;obtain⟨ks,h3,h4⟩:=ih1 h1;exact⟨ks,h3,h4.trans h2⟩
theorem af0{Q:Bool->Yh->Prop}(hT:s.TypeIs (.ref a) "set")(h:Q false s):Ym (Ys prog w) A (GL (.ref a)) Q E s:=by
 show Ym _ _ (specialOf (.ref a) "__len__" >>= _) _ _ s;refine Yf (FH hT PySem.F.slot_set_len.lookup ?_);generalize hid:("set.__len__":String)=id0
 wp_delta
 rw[show splitId id0=Ya ("set","__len__")from by subst hid;decide +kernel];subst hid;refine Yf (yn (T:="set") (b:=true) hT (by rw[rq];kernel_rfl) ?_);refine zS (λz=>absurd z (by decide)) (λ_=>?_);refine zS (λ_=>?_) (λz=>absurd (by decide +kernel) z);exact Yf (CL hT (Yr h))
theorem aeU{id:String}{B:cg}{args:Args}(he:mE ve id=Ya B)(hp:AU id=true)(h:Ym (Ys prog w) A.in1 (B args) (λf s1=>match f with| .done f=>R (.ok f) s1| .again c=>c.quiet=true/\de (Ys prog w) A c R s1) (λe s1=>R (.error e) s1) s):de (Ys prog w) A (.builtin id args) R s:=
 zC he (by rw[Around.under_plainId hp];exact h)
theorem XD{R:List Yd->Yh->Prop}(hh:A.handled=Yb)(x:Fi prog w s.heap a S n)(h:∀(h':YR) (d':HL) (tk:Nat) (vs:List Yd) (ns:List Int),(∀b o,s.heap.get? b=Ya o->h'.get? b=Ya o)->bg vs ns->ns.length=n->(∀k,k∈ns↔S k=true)->R vs {s with heap:=h',drawn:=d',toks:=tk}):
  Ym (Ys prog w) A (IT (.ref a)) R E s:=by
 obtain⟨o,es,ep,t,ho,hx,hd,he,hm,hb,hf,hn,tb⟩:=x;have la:=Yu ho;unfold IT;refine Yf (wpAny_runValue (aeU entry_proto_collect' PySem.F.plain_proto_collect (Yf (el (Yr ⟨eA zh _,aeU entry_list_iadd' zh ?_⟩)))));have hS1:(s.heap.push {cls:=.type "list",data:=.seq ([]:List Yd).toArray}).get? s.heap.objs.size=Ya {cls:=.type "list",data:=.seq #[]}:=Yq _ rfl;have ho1:(s.heap.push {cls:=.type "list",data:=.seq ([]:List Yd).toArray}).get? a=Ya o:=Yg _ ho;have sz1:(s.heap.push {cls:=.type "list",data:=.seq ([]:List Yd).toArray}).objs.size=s.heap.objs.size+ 1:=ff ..;have kp1:∀b ob,s.heap.get? b=Ya ob->(s.heap.push {cls:=.type "list",data:=.seq ([]:List Yd).toArray}).get? b=Ya ob:=λb ob e=>Yg _ e;show Ym _ A.in1 (GN (.ref s.heap.objs.size) (.ref a) (.ref s.heap.objs.size)) _ _ _;generalize s.heap.push {cls:=.type "list",data:=.seq ([]:List Yd).toArray}=H1 at hS1 ho1 sz1 kp1⊢;show Ym _ _ (typeOf (.ref a) >>= _) _ _ _;refine Yf (CL (T:="set") ⟨o,ho1,hx.1⟩ ?_);have n1:yA (.ref s.heap.objs.size) (.ref a)=false:=by simp[yA,j3 la]
 have n2:(jI "set"==jI "list")=false:=by decide
 have n3:(jI "set"==jI "tuple")=false:=by decide
 simp only[n1,n2,n3,He,qB,if_false];refine Yf (afc (s:={s with heap:=H1}) (A:=A.in1) hh ho1 hx hd hf hb tb λh2 d2 I fp vs St k2 lI fpk pm W st=>?_);refine Yf (e8 (af0 (s:={s with heap:=h2,drawn:=d2}) ⟨o,k2 _ _ ho1,hx.1⟩ ?_));have hS2:=k2 _ _ hS1;have nf:s.heap.objs.size∉fp:=λz=>by
  rcases fpk _ z with q|q
  ·exact absurd la (by rw[←q];exact Y2 _)
  ·rw[sz1]at q;exact absurd q (Nat.not_succ_le_self _)
 have hlen:vs.length=n:=by rw[pm.length_eq,Yi,aT,hn]
 have nz:vs.length<=YB:=by rw[hlen,←hn];exact w9 hb
 refine zS (λ_=>?_) (λz=>absurd (by decide) z);refine Yf (FK (Yf ?_));show Ym _ _ (updateSeq s.heap.objs.size (·.push .none) >>= λ_=>updateSeq s.heap.objs.size (·.pop)) _ _ _;refine Yf (ir hS2 rfl ?_);have hS3:=eB (ez (·.push ij)) hS2 rfl;refine ir (hz:=by seq_fits) hS3 rfl ?_;have hS4:=eB (ez (·.pop)) hS3 rfl;have oth:∀b ob,b≠s.heap.objs.size->h2.get? b=Ya ob->((h2.update s.heap.objs.size (ez (·.push ij))).update s.heap.objs.size (ez (·.pop))).get? b=Ya ob:=λb ob nb e=>(br _ _ (Ne.symm nb)).trans ((br _ _ (Ne.symm nb)).trans e);refine Yr ⟨eA PySem.F.plain_extend_loop _,codeAny_extend_loopS (W A.in1 hh).toS nz _ nf _ vs.length 0 _ #[] _ rfl (YZ _) ((W A.in1 hh).frame 0 _ _ st λb hb ob e=>oth b ob (λz=>nf (z▸hb)) e) hS4 (ItemsOf.nil _) λs' acc c' hmv hS' hacc=>?_⟩;apply Yf (wpAny_load hS' _);have ea:acc.toList=vs:=by
  apply xa;intro j;rw[Y9];by_cases hj:j<acc.size
  ·rw[YI hj];exact(hacc.2 j _ (YI hj)).symm
  ·rw[fg (by omega),km (by rw[←hacc.1];omega)]
 obtain⟨ns0,q1,q2⟩:=Mi he;obtain⟨ns,q3,q4⟩:=ac3 pm q1;have ln:ns.length=n:=by rw[←q3.length,hlen]
 have:=h s'.heap s'.drawn s'.toks vs ns (λb ob e=>hmv.heap b ob (λz=>?_) (oth b ob (YH (Yu e)) (k2 b ob (kp1 b ob e)))) q3 ln (λk=>by rw[q4.mem_iff,q2 k,hm k])
 ·obtain⟨h',g',d',t',os'⟩:=s';have eg:g'=s.gens:=hmv.gens;have eo:os'=s.os:=hmv.os;subst eg eo;show Ym _ A (pure acc.toList) _ _ _;rw[ea];exact Yr this
 ·have l1:=Yu e;rcases YC.mp z with z|z
  ·rw[z]at l1;exact Y2 _ l1
  ·rw[Yy.mp z]at l1;have q:H1.objs.size<=I:=lI;rw[sz1]at q;exact absurd l1 (JA.mpr (dy (hZ _) q))
end
end GX
namespace L2
open PySem PySem.Spec PyProof.Rows
noncomputable def agc(P:YJ)(w:YV)(a:Yc)(ks:List Int):HO:=.ext λh=>GX.Fi P w h a (λk=>ks.any (·==k)) ks.length
section
variable{X:Cx}
theorem bw.draw{pins:List (Yc×Y3)}{σ:St}{H:Hp}{s:Yh}(I:bw X pins σ H s)(d:HL):bw X pins σ H {s with drawn:=d}:=⟨I.ok,I.os,I.bare,I.base,I.loc,I.cell,I.free,I.freeC,I.pin,I.hok,I.len⟩
theorem QS(hc:X.calm=true):iZ X (.type "set") (λxs H Q=>∃(p:Yc) (ns:List Int),xs=[.ref p]/\bI X.K H p (ns.map V.int)/\ns.length<=1000/\∀(q:Yc) (ks:List Int),H q=Yb->ks.Nodup->(∀k,k∈ks↔k∈ns)->Q (.ref q) (upd H q (agc X.prog X.w q ks))):=by
 intro pins s σ H xs us Q I r h;obtain⟨p,ns,rfl,hq,hz,q⟩:=h;obtain⟨u,rfl,rx⟩:=j0 r;cases rx;obtain⟨its,rv,pl,hzz⟩:=I.list hq;have hi:bg its ns:=mj rv;have hl:its.length=ns.length:=hi.length;refine GX.Xq (items:=its.toArray) (ns:=ns) (I.ok.hd hc) pl.isList (by simpa using hi) (by rw[Yx,hl];unfold om;omega) λh' tk x kp=>?_;have sz:its.toArray.size=ns.length:=by rw[Yx,hl]
 rw[sz]at x;have new:fc X.prog X.w (upd H s.heap.objs.size (agc X.prog X.w s.heap.objs.size (mM (λi=>ns.getD i 0) ns.length))) h' s.heap.objs.size (agc X.prog X.w s.heap.objs.size (mM (λi=>ns.getD i 0) ns.length)):=by
  refine⟨x,?_,λh1 h2 y k=>y.at k⟩;obtain⟨o,_,_,_,ho,_⟩:=x;exact⟨o,ho⟩
 refine⟨.ref s.heap.objs.size,_,I.laid (t':=tk) kp (Yn _) new,rfl,q _ _ (I.hok.fresh (Yn _)) (GX.Kr _ _) λk=>?_⟩;rw[GX.TJ];constructor
 ·rintro⟨j,hj,e⟩;rw[YU,Yo hj]at e;have e':ns[j]=k:=e;rw[←e'];exact ja hj
 ·intro hk;obtain⟨j,hj,e⟩:=pT hk;refine⟨j,hj,?_⟩;rw[YU,Yo hj];exact e
theorem Ho(hc:X.calm=true):iZ X (.builtin "sorted") (λxs H Q=>∃(a:Yc) (ks:List Int),xs=[.ref a]/\H a=Ya (agc X.prog X.w a ks)/\ks.Nodup/\ks.length<64/\∀(l:Yc) (ns:List Int),H l=Yb->ns.Perm ks->ns.Pairwise (·<=·)->Q (.ref l) (upd H l (.lst (ns.map V.int)))):=by
 intro pins s σ H xs us Q I r h;obtain⟨a,ks,rfl,ha,nd,hlen,q⟩:=h;obtain⟨u,rfl,rx⟩:=j0 r;cases rx;have x:GX.Fi X.prog X.w s.heap a (λk=>ks.any (·==k)) ks.length:=(I.hok a _ ha).1;refine GX.BZ (CS _) (GX.XD (A:=X.A.in1) (I.ok.hd hc) x λh' d' tk vs ns hk hi hl hm=>?_);have pm:ns.Perm ks:=GX.Fv nd (λk hk=>(hm k).mpr (eR.mpr ⟨k,hk,by simp⟩)) (kR hl);have hv:vs.length=ks.length:=by rw[hi.length,hl]
 have I1:bw X pins σ H {s with heap:=h',drawn:=d',toks:=tk}:=(I.draw d').kept (t':=tk) hk;refine Jr (s:={s with heap:=h',drawn:=d',toks:=tk}) hi (by rw[hv];exact hlen) (by rw[hv];exact Y7 (aU (by omega))) λh2 out ns' e k2 he a1 a2 a3=>?_;have ln:ns'.length<=YB:=by rw[a2.length_eq,hl];exact Y7 (aU (by omega))
 exact⟨.ref h'.objs.size,_,I1.lay_ints (tk:=tk) k2 he a1 ln,rfl,q _ ns' (I1.hok.fresh (Yn _)) (a2.trans pm) a3⟩
theorem aaN(hc:X.calm=true):iZ X (.type "list") (λxs H Q=>∃(d:Yc) (m:List (Int×Int)),xs=[.ref d]/\Rd H d (.dK (dI m))/\m.length<=1000/\∀(l:Yc),H l=Yb->Q (.ref l) (upd H l (.lst ((m.map (·.1)).map V.int)))):=by
 intro pins s σ H xs us Q I r h;obtain⟨d,m,rfl,hd,hlen,q⟩:=h;obtain⟨u,rfl,rx⟩:=j0 r;cases rx;obtain⟨z,hS,vs,rel,dd⟩:=Ax I.hok hd;obtain⟨ep,hat⟩:=dd.dictAt;have hl:vs.length=m.length:=by rw[←rel.length,O3]
 refine sP (A:=X.A) (sN (knd:=bK X.prog X.w) (kvs:=vs) (ep:=ep) hS) (I.ok.hd hc) hat (by rw[hl];exact Y7 (aU (by omega))) λh' tk acc c hk he hacc=>?_;have hi:bg acc.toList (m.map (·.1)):=Jh (P:=X.prog) (w:=X.w) rel (by rw[aT];exact hacc.1) λj v e=>hacc.2 j v (by rw[←Y9];exact e);exact⟨.ref s.heap.objs.size,_,I.lay_ints (tk:=tk) (e:=c) hk he hi (by rw[Yi];exact Y7 (aU (by omega))),rfl,q _ (I.hok.fresh (Yn _))⟩
end
end L2
namespace GX
open PySem PyProof.Rows
section
variable{prog:YJ}{w:YV}{A:Y4}{E:Yd->Yh->Prop}{s:Yh}{I:Yc}{fp wr:List Yc}{N:Nat}{P:Nat->Yd->Prop}{St:Nat->YR->Prop}
end
end GX
namespace L2
open PySem PySem.Spec PyProof.Rows
variable{X:Cx}
section
end
section
theorem bw.thaw{pins:List (Yc×Y3)}{σ:St}{H:Hp}{s:Yh}{a:Yc}{o:Y3}{kvs:List (dC×V)}(I:bw X pins σ H s)(h:H a=Ya (.frz o (.dK kvs)))(n1:∀xs,X.H₀ a≠Ya (.tup xs))(n2:∀o u,X.H₀ a≠Ya (.frz o u))(n3:∀ps,X.H₀ a≠Ya (.tbl ps)):bw X pins σ (upd H a (.dK kvs)) s:=by
 have ne:∀b,H b=Yb->b≠a:=λb q z=>by rw[z,h]at q;cases q
 have b:=I.base;refine⟨I.ok,I.os,I.bare,⟨b.keep,b.slot,λc oc e n x=>?_,b.there,λc xs e=>?_,λc oc u e=>?_,λc ps e=>?_⟩,I.loc,I.cell,by rw[aK (ne _ I.free)];exact I.free,λx c z=>by rw[aK (ne _ (I.freeC x c z))];exact I.freeC x c z,
  λp hp=>let ⟨p1,p2,p3⟩:=I.pin p hp;⟨p1,by rw[aK (ne _ p2)];exact p2,p3⟩,λc u e=>?_,I.len⟩
 ·have q:=b.free c oc e n x;rw[aK (ne _ q)];exact q
 ·have nc:c≠a:=λz=>n1 _ (z▸e);rw[aK nc];exact b.tups c xs e
 ·have nc:c≠a:=λz=>n2 _ _ (z▸e);rw[aK nc];exact b.frzs c oc u e
 ·have nc:c≠a:=λz=>n3 _ (z▸e);rw[aK nc];exact b.tbls c ps e
 ·by_cases hc:c=a
  ·subst hc;rw[aB]at e;cases e;exact(I.hok c _ h).2
  ·rw[aK hc]at e;refine(I.hok c u e).stay (λ_ _ _ q=>q) (λd q=>?_) λd xs q=>?_
   ·rw[aK (λz=>by rw[z,h]at q;cases q)];exact q
   ·rw[aK (λz=>by rw[z,h]at q;cases q)];exact q
def aiF(t:TS):TS:=λD σ H=>∃a kvs,H a=Ya (.dK kvs)/\t {D with nx:=λσ' H'=>(∃o,H' a=Ya (.frz o (.dK kvs)))/\D.nx σ' (upd H' a (.dK kvs)),rt:=λv H'=>(∃o,H' a=Ya (.frz o (.dK kvs)))/\D.rt v (upd H' a (.dK kvs))} σ H
theorem ab9{st:YN}{t:TS}(h:PS X st t):PS X st (aiF t):=by
 intro pins s σ H D I hw;obtain⟨a,kvs,ha,ht⟩:=hw;have n1:∀xs,X.H₀ a≠Ya (.tup xs):=λxs e=>by have:=I.base.tups a xs e;rw[ha]at this;cases this
 have n2:∀o u,X.H₀ a≠Ya (.frz o u):=λo u e=>by have:=I.base.frzs a o u e;rw[ha]at this;cases this
 have n3:∀ps,X.H₀ a≠Ya (.tbl ps):=λps e=>by obtain⟨m,q⟩:=I.base.tbls a ps e;rw[ha]at q;cases q
 refine dN (h pins s σ H _ I ht) λf s1 q=>?_;cases f with
 |next=>
  obtain⟨σ',H',I',⟨o,e⟩,n⟩:=q;exact⟨σ',_,I'.thaw e n1 n2 n3,n⟩
 |brk=>exact q
 |cont=>exact q
 |ret u=>
  obtain⟨v,σ',H',I',r,⟨o,e⟩,n⟩:=q;exact⟨v,σ',_,I'.thaw e n1 n2 n3,r,n⟩
end
mutual
inductive Dp (K:Ye) (H:Hp):V->cx->Prop
 |none:Dp K H .non .none
 |bool (b:Bool):Dp K H (.bl b) (.bool b)
 |int (i:Int):Dp K H (.int i) (.int i)
 |str (x:Yj):Dp K H (.str x) (.str x)
 |tup {a:Yc} {xs:List V} {ds:List cx}:cN K H a xs->Dps K H xs ds->Dp K H (.ref a) (.tuple ds)
inductive Dps (K:Ye) (H:Hp):List V->List cx->Prop
 |nil:Dps K H [] []
 |cons {x:V} {xs:List V} {d:cx} {ds:List cx}:Dp K H x d->Dps K H xs ds->Dps K H (x::xs) (d::ds)
end
def SmT(K:Ye)(H H':Hp):Prop:=∀a xs,cN K H a xs->cN K H' a xs
theorem SmT.same{K:Ye}{H H':Hp}(e:aO H H'):SmT K H H':=by
 rintro a xs ((h|⟨o,h⟩)|h)
 ·exact .inl (.inl (e _ _ h))
 ·exact .inl (.inr ⟨o,e _ _ h⟩)
 ·exact .inr h
section
variable{X:Cx}{pins:List (Yc×Y3)}{σ:St}{H:Hp}{s:Yh}
mutual
theorem Dp.reads(I:bw X pins σ H s):∀{x:V} {d:cx} {u:Yd},Dp X.K H x d->RelV x u->∃as,Reads s.heap u d as
 |_,_,_,.none,r=>by cases r;exact⟨_,.none⟩
 |_,_,_,.bool b,r=>by cases r;exact⟨_,.bool b⟩
 |_,_,_,.int i,r=>by obtain⟨t,rfl⟩:=r;exact⟨_,.int i t⟩
 |_,_,_,.str z,r=>by obtain⟨t,rfl⟩:=r;exact⟨_,.str z t⟩
 |_,_,_,.tup h t,r=>by
  cases r;obtain⟨its,rv,⟨o,e,c,n,dd⟩,_⟩:=I.tuple h;obtain⟨as,q⟩:=Dps.reads I t rv;exact⟨_,.tuple e c dd (by simpa using q)⟩
theorem Dps.reads(I:bw X pins σ H s):∀{xs:List V} {ds:List cx} {us:List Yd},Dps X.K H xs ds->Vals xs us->∃as,ReadsAll s.heap us ds as
 |_,_,_,.nil,r=>by cases r;exact⟨_,.nil⟩
 |_,_,_,.cons h t,r=>by
  cases r with
  |cons r1 r2=>
   obtain⟨as,q⟩:=Dp.reads I h r1;obtain⟨bs,q2⟩:=Dps.reads I t r2;exact⟨_,.cons q q2⟩
end
def Dl(K:Ye)(H:Hp)(x:V)(d:cx):Prop:=Dp K H x d∨∃a xs ds,x=.ref a/\d=.list ds/\bI K H a xs/\Dps K H xs ds
theorem Dl.reads(I:bw X pins σ H s){x:V}{d:cx}{u:Yd}(h:Dl X.K H x d)(r:RelV x u):∃as,Reads s.heap u d as:=by
 rcases h with h|⟨a,xs,ds,rfl,rfl,h,t⟩
 ·exact Dp.reads I h r
 ·cases r;obtain⟨its,rv,⟨o,n,e,c,_,dd⟩,_⟩:=I.list h;obtain⟨as,q⟩:=Dps.reads I t rv;exact⟨_,.list e c dd (by simpa using q)⟩
def ajI(K:Ye):R2:=λx y H Q=>∃d e,Dl K H x d/\Dl K H y e/\d.canLay0=true/\e.canLay0=true/\min d.depth e.depth<=60/\Q (.bl (d.eqv e)) H
def acL(K:Ye):R2:=λx y H Q=>∃d e,Dl K H x d/\Dl K H y e/\d.canLay0=true/\e.canLay0=true/\min d.depth e.depth<=60/\Q (.bl (!d.eqv e)) H
theorem agw(hu:X.A.units+ 64<fm):yV X (bX .Eq) (ajI X.K):=by
 intro pins s σ H x y v u Q I rx ry h;obtain⟨d,e,h1,h2,c1,c2,dp,q⟩:=h;obtain⟨as,r1⟩:=h1.reads I rx;obtain⟨bs,r2⟩:=h2.reads I ry;exact SeqAt.compareEq_reads r1 r2 c1 c2 (by omega) ⟨.bl _,H,I,rfl,q⟩
theorem ahQ(hu:X.A.units+ 64<fm):yV X (bX .NotEq) (acL X.K):=by
 intro pins s σ H x y v u Q I rx ry h;obtain⟨d,e,h1,h2,c1,c2,dp,q⟩:=h;obtain⟨as,r1⟩:=h1.reads I rx;obtain⟨bs,r2⟩:=h2.reads I ry;exact SeqAt.compareNe_reads r1 r2 c1 c2 (by omega) ⟨.bl _,H,I,rfl,q⟩
def ah6(K:Ye)(neg:Bool):R2:=λx y H Q=>∃a xs ds d,y=.ref a/\(bI K H a xs∨cN K H a xs)/\Dps K H xs ds/\Dp K H x d/\nh ds=true/\d.canLay0=true/\d.depth<=60/\Q (.bl (if neg then !(ds.any λz=>z.eqv d)else ds.any λz=>z.eqv d)) H
theorem anj(hu:X.A.units+ 64<fm):yV X (bX .In) (ah6 X.K false):=by
 intro pins s σ H x y v u Q I rx ry h;obtain⟨a,xs,ds,d,rfl,hs,hd,hx,c1,c2,dp,q⟩:=h;obtain⟨bs,r2⟩:=hx.reads I rx;cases ry;rcases hs with hs|hs
 ·obtain⟨as,r1⟩:=Dl.reads I (x:=.ref a) (u:=.ref a) (.inr ⟨a,xs,ds,rfl,rfl,hs,hd⟩) rfl;exact SeqAt.in_list_reads r1 r2 c1 c2 (by omega) ⟨.bl _,H,I,rfl,q⟩
 ·obtain⟨as,r1⟩:=Dp.reads I (x:=.ref a) (u:=.ref a) (.tup hs hd) rfl;exact SeqAt.in_tuple_reads r1 r2 c1 c2 (by omega) ⟨.bl _,H,I,rfl,q⟩
theorem adP(hu:X.A.units+ 64<fm):yV X (bX .NotIn) (ah6 X.K true):=by
 intro pins s σ H x y v u Q I rx ry h;obtain⟨a,xs,ds,d,rfl,hs,hd,hx,c1,c2,dp,q⟩:=h;obtain⟨bs,r2⟩:=hx.reads I rx;cases ry;rcases hs with hs|hs
 ·obtain⟨as,r1⟩:=Dl.reads I (x:=.ref a) (u:=.ref a) (.inr ⟨a,xs,ds,rfl,rfl,hs,hd⟩) rfl;exact SeqAt.notIn_list_reads r1 r2 c1 c2 (by omega) ⟨.bl _,H,I,rfl,q⟩
 ·obtain⟨as,r1⟩:=Dp.reads I (x:=.ref a) (u:=.ref a) (.tup hs hd) rfl;exact SeqAt.notIn_tuple_reads r1 r2 c1 c2 (by omega) ⟨.bl _,H,I,rfl,q⟩
end
theorem Q7{K:Ye}{x y:V}{H:Hp}{Q:VK}{d:cx}(h1:Dl K H x d)(h2:Dl K H y d)(c:d.canLay0=true)(dp:d.depth<=60)(q:Q (.bl true) H):ajI K x y H Q:=
 ⟨d,d,h1,h2,c,c,by omega,by rw[SeqAt.eqv_refl d c];exact q⟩
theorem ww{K:Ye}{x y:V}{H:Hp}{Q:VK}{d:cx}(h1:Dl K H x d)(h2:Dl K H y d)(c:d.canLay0=true)(dp:d.depth<=60)(q:Q (.bl false) H):acL K x y H Q:=
 ⟨d,d,h1,h2,c,c,by omega,by rw[SeqAt.eqv_refl d c];exact q⟩
theorem aF{H:Hp}{l:Yc}{o:HO}(h:H l=Yb):aO H (upd H l o):=λb u e=>by rw[aK (aP e h)];exact e
def But(d:Yc)(H H':Hp):Prop:=∀b,b≠d->H' b=H b
theorem But.upd{d:Yc}{H:Hp}{o:HO}:But d H (L2.upd H d o):=λb h=>aK h
theorem But.at{d b:Yc}{H H':Hp}{o:Option HO}(e:But d H H')(n:b≠d)(h:H b=o):H' b=o:=by rw[e b n];exact h
theorem But.of{d b:Yc}{H H':Hp}{o u:HO}(e:But d H H')(hd:H d=Ya u)(h:H b=Ya o)(n:o≠u):H' b=Ya o:=e.at (bj h hd n) h
def nwT(xs:List V)(H:Hp)(Q:VK):Prop:=xs.length<=YB/\∀p,H p=Yb->Q (.ref p) (upd H p (.tup xs))
def nwL(xs:List V)(H:Hp)(Q:VK):Prop:=xs.length<=YB/\∀p,H p=Yb->Q (.ref p) (upd H p (.lst xs))
section
variable{D:Er}{σ:St}{H:Hp}{Q:VK}{K:Ye}
theorem HN{t u:TS}(h:t {D with nx:=u D} σ H):aM t u D σ H:=h
theorem aks{te:TE}{g:TG}{u:TS}(h:te σ H λx H1=>g x σ H1 (u D)):aM (ag0 te g) u D σ H:=h
theorem ajV{te:TE}{u:TS}(h:te σ H λ_ H1=>u D σ H1):aM (ab6 te) u D σ H:=h
theorem ai2{wi:TI}{g:TG}{tb u:TS}(h:agY wi g tb {D with nx:=u D} σ H):aM (agY wi g tb) u D σ H:=h
theorem akU{c:TT}{tb u:TS}(h:aan c tb {D with nx:=u D} σ H):aM (aan c tb) u D σ H:=h
theorem akp{ta tv:TE}{f:Yj}{u:TS}(h:adM K ta tv f {D with nx:=u D} σ H):aM (adM K ta tv f) u D σ H:=h
theorem aiT{c:TT}{te:TE}{u:TS}(h:c σ H λb H1=>if b=true then te σ H1 D.rt else u D σ H1):aM (ahA c (aiR te) abZ) u D σ H:=h
theorem rT(I:St->Hp->Prop){t u:TS}(h2:∀σ' H',I σ' H'->u D σ' H')(h:∀N:St->Hp->Prop,(∀σ' H',I σ' H'->N σ' H')->t {D with nx:=N} σ H):aM t u D σ H:=h _ h2
theorem ajW(h:D.nx σ H):abZ D σ H:=h
theorem amN{te:TE}(h:te σ H D.rt):aiR te D σ H:=h
theorem aiU{te:TE}(h:te σ H λ_ H1=>D.nx σ H1):ab6 te D σ H:=h
theorem amC{te:TE}{g:TG}(h:te σ H λx H1=>g x σ H1 D.nx):ag0 te g D σ H:=h
theorem alz{c:TT}{t u:TS}(h:c σ H λb H1=>if b=true then t D σ H1 else u D σ H1):ahA c t u D σ H:=h
theorem ajA{i:Nat}{v:V}{R:St->Hp->Prop}(h:R (σ.set i (Ya v)) H):abk i v σ H R:=h
theorem aj2{R:St->Hp->Prop}(h:R σ H):alK [] σ H R:=⟨rfl,h⟩
theorem ahT{t:TG}{u:TGs}{v:V}{r:List V}{R:St->Hp->Prop}(h:t v σ H λσ' H'=>u r σ' H' R):aiP t u (v::r) σ H R:=⟨v,r,rfl,h⟩
theorem aiV{n:Nat}{t:TGs}{a:Yc}{xs:List V}{R:St->Hp->Prop}(h1:cN K H a xs)(h2:xs.length=n)(h:t xs σ H R):akJ K n t (.ref a) σ H R:=⟨a,xs,rfl,h1,h2,h⟩
theorem af1{i:Nat}{v:V}(h1:σ[i]?=Ya (Ya v))(h:Q v H):Tv i σ H Q:=⟨v,h1,h⟩
theorem x_c{v:V}(h:Q v H):tC v σ H Q:=h
theorem alp{r:R2}{ta tb:TE}(h:ta σ H λx H1=>tb σ H1 λy H2=>r x y H2 Q):tOp r ta tb σ H Q:=h
theorem am9{r:V->Hp->VK->Prop}{ta:TE}(h:ta σ H λx H1=>r x H1 Q):tUn r ta σ H Q:=h
theorem anF{g:Int->Int->V}{i j:Int}(h:Q (g i j) H):rI0 g (.int i) (.int j) H Q:=⟨i,j,rfl,rfl,h⟩
theorem x_I{C:Int->Int->Prop}{g:Int->Int->V}{i j:Int}(hc:C i j)(h:Q (g i j) H):rI C g (.int i) (.int j) H Q:=⟨i,j,rfl,rfl,hc,h⟩
theorem x_U{g:Int->V}{i:Int}(h:Q (g i) H):rU g (.int i) H Q:=⟨i,rfl,h⟩
theorem amw(i j:Int):decide (V.int i=V.int j)=decide (i=j):=by
 by_cases h:i=j
 ·subst h;rw[decide_eq_true rfl,decide_eq_true rfl]
 ·rw[decide_eq_false h,decide_eq_false (λe=>h (V.int.inj e))]
theorem ang(i j:Yj):decide (V.str i=V.str j)=decide (i=j):=by
 by_cases h:i=j
 ·subst h;rw[decide_eq_true rfl,decide_eq_true rfl]
 ·rw[decide_eq_false h,decide_eq_false (λe=>h (V.str.inj e))]
theorem alf{i j:Int}(h:Q (.bl (decide (i=j))) H):rEq (.int i) (.int j) H Q:=⟨rfl,by rw[amw];exact h⟩
theorem amk{i j:Int}(h:Q (.bl (!decide (i=j))) H):rNe (.int i) (.int j) H Q:=⟨rfl,by rw[amw];exact h⟩
theorem alD{i j:Yj}(h:Q (.bl (decide (i=j))) H):rEq (.str i) (.str j) H Q:=⟨rfl,by rw[ang];exact h⟩
theorem ajH{t:TE}{R:Bool->Hp->Prop}(h:t σ H λx H'=>∃k,x=.bl k/\R k H'):aiG t σ H R:=h
theorem alJ{t:TE}{R:Bool->Hp->Prop}(h:t σ H λx H'=>∃k,afz K x H' k/\R k H'):ajS K t σ H R:=h
theorem x_b{t:TE}{R:Bool->Hp->Prop}(h:t σ H λx H'=>∃k,x=.bl k/\R k H'):tB t σ H R:=h
theorem ajY{c:Bool}{P:Bool->Prop}(h:P c):∃k,V.bl c=.bl k/\P k:=⟨c,rfl,h⟩
theorem ahV{c:Bool}{P:Bool->Prop}(h:P c):∃k,afz K (.bl c) H k/\P k:=⟨c,rfl,h⟩
theorem amM{t u:TT}{R:Bool->Hp->Prop}(h:t σ H λc H1=>if c=true then u σ H1 R else R false H1):alE t u σ H R:=h
theorem anA{t u:TT}{R:Bool->Hp->Prop}(h:t σ H λc H1=>if c=true then R true H1 else u σ H1 R):tOr t u σ H R:=h
theorem ak8{t:TT}{R:Bool->Hp->Prop}(h:t σ H λc H1=>R (!c) H1):alG t σ H R:=h
theorem akT{ta tb:TE}(h:ta σ H λx H1=>∃c,x=.bl c/\if c=true then tb σ H1 Q else Q (.bl false) H1):aiE ta tb σ H Q:=h
theorem ale{ta tb:TE}(h:ta σ H λx H1=>∃c,x=.bl c/\if c=true then Q (.bl true) H1 else tb σ H1 Q):alI ta tb σ H Q:=h
theorem ajN{ta:TE}(h:ta σ H λx H1=>∃c,x=.bl c/\Q (.bl (!c)) H1):aik ta σ H Q:=h
theorem al4{t:TT}{ta tb:TE}(h:t σ H λc H1=>if c=true then ta σ H1 Q else tb σ H1 Q):tIf t ta tb σ H Q:=h
theorem amK{R:List V->Hp->Prop}(h:R [] H):K7 σ H R:=h
theorem akX{ta:TE}{tr:TA}{R:List V->Hp->Prop}(h:ta σ H λx H1=>tr σ H1 λxs H2=>R (x::xs) H2):Iz ta tr σ H R:=h
theorem amf{t:TA}(h:t σ H λxs H1=>nwT xs H1 Q):akW t σ H Q:=h
theorem alB{t:TA}(h:t σ H λxs H1=>nwL xs H1 Q):alM t σ H Q:=h
theorem ama{xs:List V}(hl:xs.length<=YB)(h:∀p H',H p=Yb->aO H H'->H' p=Ya (.tup xs)->Q (.ref p) H'):nwT xs H Q:=⟨hl,λp hp=>h p _ hp (aF hp) aB⟩
theorem al9{xs:List V}(hl:xs.length<=YB)(h:∀p H',H p=Yb->aO H H'->H' p=Ya (.lst xs)->Q (.ref p) H'):nwL xs H Q:=⟨hl,λp hp=>h p _ hp (aF hp) aB⟩
theorem aj1(h:∀p H',H p=Yb->aO H H'->H' p=Ya (.dK (dI []))->Q (.ref p) H'):af4 σ H Q:=λp hp=>h p _ hp (aF hp) aB
theorem ajP{sp:Sp}{dvs:List V}{E:XK}{t:TA}(h:t σ H λvs H1=>sp (vs++dvs) H1 Q E):ab5 sp dvs E t σ H Q:=h
theorem am3{r:List V->Hp->VK->Prop}{t:TA}(h:t σ H λvs H1=>r vs H1 Q):tCB r t σ H Q:=h
theorem anf{r:V->Option Int->Option Int->Hp->VK->Prop}{te:TE}{tl th:TO}(h:te σ H λx H1=>tl σ H1 λl H2=>th σ H2 λu H3=>r x l u H3 Q):tSl r te tl th σ H Q:=h
theorem aeC{R:Option Int->Hp->Prop}(h:R Yb H):abo σ H R:=h
theorem ajm{t:TE}{R:Option Int->Hp->Prop}(h:t σ H λx H1=>∃i,x=.int i/\R (Ya i) H1):aiz t σ H R:=h
theorem agE{c:Int}{P:Int->Prop}(h:P c):∃k,V.int c=.int k/\P k:=⟨c,rfl,h⟩
theorem alX{a:Yc}{xs:List V}{lo hi:Option Int}(h1:bI K H a xs)(h:∀p H',H p=Yb->aO H H'->H' p=Ya (.lst (FJ xs lo hi))->Q (.ref p) H'):ajU K (.ref a) lo hi H Q:=⟨a,xs,rfl,h1,λp hp=>h p _ hp (aF hp) aB⟩
theorem jC{a:Yc}{xs:List V}{i:Int}{v:V}(h1:bI K H a xs)(h2:lH xs i=Ya v)(h:Q v H):af2 K (.ref a) (.int i) H Q:=⟨a,xs,i,v,rfl,rfl,h1,h2,h⟩
theorem amB{a:Yc}{xs:List V}{i:Int}{v:V}(h1:cN K H a xs)(h2:lH xs i=Ya v)(h:Q v H):ajK K (.ref a) (.int i) H Q:=⟨a,xs,i,v,rfl,rfl,h1,h2,h⟩
theorem akE{td ty:TE}(h:td σ H λx H1=>ty σ H1 λy H2=>∃a v,x=.ref a/\TX H2 a y (Ya v)/\Q v H2):aiy td ty σ H Q:=h
theorem amt{td ty:TE}(h:ty σ H λy H1=>td σ H1 λx H2=>∃a o,x=.ref a/\TX H2 a y o/\Q (.bl o.isSome) H2):alV ty td σ H Q:=h
theorem aju{td ty tv:TE}(h:tv σ H λv H1=>td σ H1 λx H2=>ty σ H2 λy H3=>∃a H4,x=.ref a/\agx H3 a y v H4/\D.nx σ H4):aiJ td ty tv D σ H:=h
theorem alS{wi:TI}{g:TG}{tb:TS}(h:wi σ H λJ H1=>∃W:Nat->Nat->St->Hp->Prop,(∃m,W 0 m σ H1)/\∀i m σ H,W i m σ H->
 (J.stop i H/\D.nx σ H)∨(J.go i H/\∃N:St->Hp->Prop,(∀σ' H',N σ' H'->∃m',m'<m/\W (i+ 1) m' σ' H')/\∀x H',J.yld i H x H'->g x σ H' λσ2 H2=>tb {D with nx:=N,ct:=N,bk:=D.nx} σ2 H2)):agY wi g tb D σ H:=h
theorem ahv{tl:TE}{R:It->Hp->Prop}(h:tl σ H λx H1=>∃a,x=.ref a/\(∃xs,bI K H1 a xs)/\R (Itl K a) H1):ad8 K tl σ H R:=h
theorem ajh{a:Yc}{xs:List V}{P:Yc->Prop}(hd:bI K H a xs)(h:P a):∃b,V.ref a=.ref b/\(∃xs,bI K H b xs)/\P b:=⟨a,rfl,⟨xs,hd⟩,h⟩
theorem ajF{tl:TE}{R:It->Hp->Prop}(h:tl σ H λx H1=>∃a,x=.ref a/\(∃xs,cN K H1 a xs)/\R (Itt K a) H1):akt K tl σ H R:=h
theorem ajv{a:Yc}{xs:List V}{P:Yc->Prop}(hd:cN K H a xs)(h:P a):∃b,V.ref a=.ref b/\(∃xs,cN K H b xs)/\P b:=⟨a,rfl,⟨xs,hd⟩,h⟩
theorem aml{ta:TA}{R:It->Hp->Prop}(h:ta σ H λvs H1=>∃j:Int,vs=[.int j]/\-(2^62)<=j/\j<2^62/\R (Itr 0 j.toNat) H1):aiD ta σ H R:=h
theorem anE{T:String}{r:V->List V->Hp->VK->Prop}{to:TE}{t:TA}(h:to σ H λx H1=>tyV K T x H1/\t σ H1 λxs H2=>r x xs H2 Q):tBM K T r to t σ H Q:=h
theorem amA{T:String}{r:V->List V->Hp->VK->Prop}{to:TE}(h:to σ H λx H1=>tyV K T x H1/\r x [] H1 Q):alO K T r to σ H Q:=h
theorem alw{a:Yc}{xs:List V}{P:Prop}(hd:H a=Ya (.lst xs))(h:P):tyV K "list" (.ref a) H/\P:=⟨.inl ⟨rfl,_,bI.of hd⟩,h⟩
theorem af9{a:Yc}{xs:List V}{y:V}(hd:H a=Ya (.lst xs))(hl:xs.length<YB)(h:∀H2,But a H H2->H2 a=Ya (.lst (xs++[y]))->Q .non H2):Lw (.ref a) [y] H Q:=⟨a,xs,y,rfl,rfl,hd,hl,h _ .upd aB⟩
theorem ajy{src:List (Option Nat)}{wi:TI}{g:TG}{tt:TT}{te:TE}(h:wi σ H λJ H1=>∀D,H1 D=Yb->∃W:Nat->Nat->St->Hp->Prop,(∃m,W 0 m (Wj src σ) (upd H1 D (.lst [])))/\
 ∀i m σ' H',W i m σ' H'->(J.stop i H'/\Q (.ref D) H')∨(J.go i H'/\∃N:St->Hp->Prop,(∀σ2 H2,N σ2 H2->∃m',m'<m/\W (i+ 1) m' σ2 H2)/\
  ∀x H'',J.yld i H' x H''->pR g tt te D N x σ' H'')):aex src wi g tt te σ H Q:=h
end
theorem al6{A B:Prop}(h:B):if(!true)=true then A else B:=h
theorem alk{A B:Prop}(h:A):if(!false)=true then A else B:=h
section
variable{X:Cx}{K:Ye}
theorem aN(hK:X.K=K):IxR X (ajK K):=by subst hK;exact ai4
theorem cA(hK:X.K=K):IxR X (af2 K):=by subst hK;exact ahX
theorem qT(hK:X.K=K):SlR X (ajU K):=by subst hK;exact agF
theorem acn(hK:X.K=K):SlR X (ajt K):=by subst hK;exact ajp
theorem Oz(hK:X.K=K)(hu:X.A.units+ 64<fm):yV X (bX .Eq) (ajI K):=by subst hK;exact agw hu
theorem pM(hK:X.K=K)(hu:X.A.units+ 64<fm):yV X (bX .NotEq) (acL K):=by subst hK;exact ahQ hu
theorem ahC(hK:X.K=K)(hu:X.A.units+ 64<fm):yV X (bX .NotIn) (ah6 K true):=by subst hK;exact adP hu
def ame(K:Ye):List V->Hp->VK->Prop:=λxs H Q=>∃p ys,xs=[.ref p]/\(bI K H p ys∨cN K H p ys)/\Q (.int ys.length) H
theorem fB(hK:X.K=K):iZ X (.builtin "len") (ame K):=by subst hK;exact Sh
def aby(K:Ye):List V->Hp->VK->Prop:=λxs H Q=>∃p ys,xs=[.ref p]/\(bI K H p ys∨cN K H p ys)/\∀l,H l=Yb->Q (.ref l) (upd H l (.lst ys))
theorem Nk(hK:X.K=K):iZ X (.type "list") (aby K):=by subst hK;exact Uo
def Wf(K:Ye):List V->Hp->VK->Prop:=λxs H Q=>∃p ys,xs=[.ref p]/\((bI K H p ys/\∀l,H l=Yb->Q (.ref l) (upd H l (.tup ys)))∨(cN K H p ys/\Q (.ref p) H))
theorem fj(hK:X.K=K):iZ X (.type "tuple") (Wf K):=by subst hK;exact Py
def anB(K:Ye):List V->Hp->VK->Prop:=λxs H Q=>∃(x:V) (t:Yd) (T:String) (b:Bool),xs=[x,.ty T]/\Gx K H x t/\AN K t (.type T)=Ya b/\Q (.bl b) H
theorem vm(hK:X.K=K):iZ X (.builtin "isinstance") (anB K):=by subst hK;exact Ux
theorem Hj{es:List YY}{k:Nat}{t:TGs}{n:Nat}{pos:hJ}(hK:X.K=K)(hc:X.calm=true)(h:PGs X es t)(hn:(rf es X.env).length=n:=by rfl)(hst:(rf es X.env).findIdx? (·.1)=none:=by rfl):PG X (.Tuple es k pos) (akJ K n t):=by subst hK;exact akG hc h hn hst
theorem bC{tg l:YY}{tl:TE}(hK:X.K=K)(hl:PE X l tl):PI X tg l (ad8 K tl):=by subst hK;exact ahP hl
theorem Cm{tg l:YY}{tl:TE}(hK:X.K=K)(hl:PE X l tl):PI X tg l (akt K tl):=by subst hK;exact akl hl
theorem ahz{tg l:YY}{tl:TE}(hK:X.K=K)(hl:PE X l tl):PI X tg l (alP K tl):=by subst hK;exact akR hl
theorem Xu{x:Yj}{pos:hJ}{t:TE}(hK:X.K=K)(h:PE X (.Name x pos) t):PT X (.Name x pos) (ajS K t):=by
 subst hK;exact V7 h λ_=>rfl
theorem M9{o e:YY}{to:TE}{t:TA}{apos cpos:hJ}(hK:X.K=K)(h:PE X (.Call (.Attribute o "append" apos) [e] [] cpos) (tBM X.K "list" Lw to t)):PE X (.Call (.Attribute o "append" apos) [e] [] cpos) (tBM K "list" Lw to t):=by subst hK;exact h
end
section
variable{σ:St}{H:Hp}{Q:VK}{K:Ye}
theorem aek{a:Yc}{xs:List V}(hd:bI K H a xs)(h:∀p H',H p=Yb->aO H H'->H' p=Ya (.lst xs)->Q (.ref p) H'):aby K [.ref a] H Q:=⟨a,xs,rfl,.inl hd,λp hp=>h p _ hp (aF hp) aB⟩
theorem ahK{a:Yc}{xs:List V}(hd:bI K H a xs)(h:∀p H',H p=Yb->aO H H'->H' p=Ya (.tup xs)->Q (.ref p) H'):Wf K [.ref a] H Q:=⟨a,xs,rfl,.inl ⟨hd,λp hp=>h p _ hp (aF hp) aB⟩⟩
end
theorem eN{α:Type}{ls:List α}{i:Nat}{n:α}(h:ls[i]?=Ya n):ls.take (i+ 1)=ls.take i++[n]:=by
 rw[AZ,h];rfl
theorem IK{ms:List Int}{i:Nat}{x:V}(h:(ms.map V.int)[i]?=Ya x):∃n:Int,ms[i]?=Ya n/\x=.int n:=by
 rw[Yv]at h;cases e:ms[i]? with
 |none=>rw[e]at h;cases h
 |some n=>rw[e]at h;exact⟨n,rfl,(YL h).symm⟩
theorem agA{α:Type}{xs:List α}{i:Int}{v:α}(h0:0<=i)(h:xs[i.toNat]?=Ya v):lH xs i=Ya v:=by
 obtain⟨n,rfl⟩:=cw h0;exact cO h
def j4(H H':Hp):Prop:=∀a xs,H a=Ya (.tup xs)->H' a=Ya (.tup xs)
theorem j4.trans{H1 H2 H3:Hp}(a:j4 H1 H2)(b:j4 H2 H3):j4 H1 H3:=λ_ _ h=>b _ _ (a _ _ h)
theorem j4.same{H H':Hp}(e:aO H H'):j4 H H':=λ_ _ h=>e _ _ h
theorem j4.upd{H:Hp}{l:Yc}{o:HO}(h1:∀xs,H l≠Ya (.tup xs)):j4 H (upd H l o):=λa xs h=>by
 have:a≠l:=λe=>h1 xs (e▸h);rw[aK this];exact h
theorem j4.lst{H:Hp}{l:Yc}{o:HO}{ys:List V}(h:H l=Ya (.lst ys)):j4 H (L2.upd H l o):=.upd (λ_ z=>by rw[h]at z;cases z)
section
variable{σ:St}{H:Hp}{Q:VK}{K:Ye}{X:Cx}
theorem ahD{a:Yc}{xs:List V}(hd:bI K H a xs∨cN K H a xs)(h:Q (.int xs.length) H):ame K [.ref a] H Q:=⟨a,xs,rfl,hd,h⟩
end
theorem aeg{P:Prop}(h:P):V.non=V.non/\P:=⟨rfl,h⟩
section
variable{X:Cx}{CX:CXT}{k:Nat}{f C:Yc}{fd:Yt}{ps:List Yj}{sp:Sp}{dvs:List V}{ds:List Yd}{E:XK}{x m:Yj}{p pos apos:hJ}{e o:YY}{es:List YY}{ta:TE}{t:TA}
structure al0(K:Ye)(C:Yc)(m:Yj)(f:Yc):Prop where
 ga:DM K (.ref C) "__getattribute__"=Ya (Ya (.builtin "type.__getattribute__"))
 rd:PySem.W.readsIn K C (.type "type")=true
 at_:PySem.W.findCls K (.ref C) (.type "type") m=Ya (.val (.ref f))
 hd:xy (.ref f)=true
 kp:kP K (.ref f)=true
theorem alW{pl:vj Bool}(hg:Gl X x)(hm:X.mg x=Ya (.ref C))(c:al0 X.K C m f)(F:aG X.prog X.w X.K X.mg X.base bH k f fd ps sp)(hb:Binds X.K fd ps [])(hr:eQ k X.A)(ha:PA X (e::es) t)
  (hdb:(x==("__debug__":Yj))=false:=by decide)
  (hst:YO (e::es) X.env=(false,aE e X.env)::YO es X.env:=by rfl) (hpl:(dE pos (YO es X.env)).any (·.1)=false:=by rfl)
  (ht:aE (.Call (.Attribute (.Name x p) m apos) (e::es) [] pos) X.env=(do
   let ov←aE (.Name x p) X.env
   qV apos.atName
   let (f,first)←mi [ov] (qq ov m pl)
   uu pos f first (dE pos (YO (e::es) X.env)) (kz pos (fE [] X.env))):=by rfl):
  PE X (.Call (.Attribute (.Name x p) m apos) (e::es) [] pos) (ab5 sp [] E0 t):=by
 intro pins s σ H Q I h;refine hU (pl:=pl) (dN (T6 (v:=.ref C) hg hm rfl hdb pins s σ H (λv H1=>v=.ref C/\t σ H1 λvs H2=>sp (vs++[]) H2 Q E0) I ⟨rfl,h⟩) λu s1 zz=>?_) ht;obtain⟨x,H1,I1,rx,ex,q⟩:=zz;subst ex;obtain rfl:u=Y0 C:=rx;refine PySem.W.method_cls I1.kIn c.ga (PySem.W.cls_value I1.kIn c.rd c.at_ c.hd ?_);refine mn (first:=[]) (h₀:=X.base) I.ok.mod.kin c.kp (dN (ha pos pins _ σ H1 _ (I1.tok _) q) λus s2 ⟨vs,H2,I2,r,q2⟩=>⟨I2.kIn,?_⟩) hst hpl;exact Ak (us:=us) (vs:=vs) F hr hb .nil qZ I2 r q2
def cH(P:YJ)(w:YV)(K:Ye)(mg:Yj->Option Yd)(base:YR)(k:Nat)(m:Yj)(ms:List (Yc×Sp)):Prop:=
 ∀cs∈ms,∃f fd ps,QL K cs.1/\bU K cs.1 m f/\aG P w K mg base bH k f fd ps cs.2/\Binds K fd ps []
theorem cH.nil{P:YJ}{w:YV}{K:Ye}{mg:Yj->Option Yd}{base:YR}:cH P w K mg base k m []:=λ_ h=>nomatch h
theorem cH.cons{P:YJ}{w:YV}{K:Ye}{mg:Yj->Option Yd}{base:YR}{ms:List (Yc×Sp)}(c:QL K C)(hm:bU K C m f)(F:aG P w K mg base bH k f fd ps sp)(hb:Binds K fd ps [])(r:cH P w K mg base k m ms):cH P w K mg base k m ((C,sp)::ms):=by
 intro cs h;rcases YC.mp h with rfl|h
 ·exact⟨f,fd,ps,c,hm,F,hb⟩
 ·exact r cs h
def mtS(ms:List (Yc×Sp))(m:Yj)(t:TA)(σ:St)(x:V)(H:Hp)(Q:VK):Prop:=
 ∃cs∈ms,∃a dx fs,x=.ref a/\H a=Ya (.ins cs.1 dx fs)/\fs.lookup m=Yb/\t σ H λvs H2=>cs.2 (x::(vs++[])) H2 Q E0
def Um(ms:List (Yc×Sp))(m:Yj)(ta:TE)(t:TA):TE:=λσ H Q=>ta σ H λx H1=>mtS ms m t σ x H1 Q
theorem bD{pl:vj Bool}{ms:List (Yc×Sp)}(M:cH X.prog X.w X.K X.mg X.base k m ms)(he:PE X o ta)(hr:eQ k X.A)(ha:PA X (e::es) t)
  (hst:YO (e::es) X.env=(false,aE e X.env)::YO es X.env:=by rfl) (hpl:(dE pos (YO es X.env)).any (·.1)=false:=by rfl)
  (ht:aE (.Call (.Attribute o m apos) (e::es) [] pos) X.env=(do
   let ov←aE o X.env
   qV apos.atName
   let (f,first)←mi [ov] (qq ov m pl)
   uu pos f first (dE pos (YO (e::es) X.env)) (kz pos (fE [] X.env))):=by rfl):
  PE X (.Call (.Attribute o m apos) (e::es) [] pos) (Um ms m ta t):=by
 intro pins s σ H Q I h;refine hU (pl:=pl) (dN (he pins s σ H _ I h) λu s1 zz=>?_) ht;obtain⟨x,H1,I1,rx,cs,hcs,a,dx,fs,ex,ea,l,q⟩:=zz;subst ex;obtain rfl:u=Y0 a:=rx;obtain⟨f,fd,ps,c,hm,F,hb⟩:=M cs hcs;refine qU I1 ea c hm l ?_;refine mn (first:=[.ref a]) (h₀:=X.base) I.ok.mod.kin hm.kp (dN (ha pos pins s1 σ H1 _ I1 q) λus s2 ⟨vs,H2,I2,r,q2⟩=>⟨I2.kIn,?_⟩) hst hpl;exact Ak (us:=.ref a::us) (vs:=.ref a::vs) F hr hb .nil qZ I2 (.cons rfl r) q2
theorem bM{pl:vj Bool}{ms:List (Yc×Sp)}(M:cH X.prog X.w X.K X.mg X.base k m ms)(he:PE X o ta)(hr:eQ k X.A)
  (ht:aE (.Call (.Attribute o m apos) [] [] pos) X.env=(do
   let ov←aE o X.env
   qV apos.atName
   let (f,first)←mi [ov] (qq ov m pl)
   uu pos f first (dE pos (YO [] X.env)) (kz pos (fE [] X.env))):=by rfl):
  PE X (.Call (.Attribute o m apos) [] [] pos) (Um ms m ta K7):=by
 intro pins s σ H Q I h;refine hU (pl:=pl) (dN (he pins s σ H _ I h) λu s1 zz=>?_) ht;obtain⟨x,H1,I1,rx,cs,hcs,a,dx,fs,ex,ea,l,q⟩:=zz;subst ex;obtain rfl:u=Y0 a:=rx;obtain⟨f,fd,ps,c,hm,F,hb⟩:=M cs hcs;refine qU I1 ea c hm l ?_;exact Cn (first:=[.ref a]) I1.kIn hm.kp (Ak (us:=[.ref a]) (vs:=[.ref a]) F hr hb .nil qZ I1 (.cons rfl .nil) q)
end
section
variable{X:Cx}{K:Ye}
theorem au{e:YY}{ta:TE}{f:Yj}{pos:hJ}(hK:X.K=K)(he:PE X e ta)(hb:ku e f X.env (aE e X.env)=aE e X.env):PE X (.Attribute e f pos) (ajB K ta f):=by subst hK;exact ajn he hb
theorem aQ{o value:YY}{ta tv:TE}{f:Yj}{pos pos':hJ}(hK:X.K=K)(ha:PE X o ta)(hv:PE X value tv)(hs:vk value (Ya (.Attribute o f pos')) pos.line X.env=pure false):PS X (.Assign [.Attribute o f pos'] value pos) (adM K ta tv f):=by subst hK;exact aki ha hv hs
end
section
variable{D:Er}{σ:St}{H:Hp}{Q:VK}{K:Ye}
def al3(K:Ye)(f:Yj)(x:V)(H:Hp)(Q:VK):Prop:=∃a C dx fs v,x=.ref a/\H a=Ya (.ins C dx fs)/\QL K C/\bY K C f/\fs.lookup f=Ya v/\Q v H
theorem alH{ta:TE}{f:Yj}(h:ta σ H λx H1=>al3 K f x H1 Q):ajB K ta f σ H Q:=h
theorem ajO{f:Yj}{a C dx:Yc}{fs:List (Yj×V)}{v:V}(e:H a=Ya (.ins C dx fs))(c:QL K C)(n:bY K C f)(l:fs.lookup f=Ya v)(h:Q v H):al3 K f (.ref a) H Q:=⟨a,C,dx,fs,v,rfl,e,c,n,l,h⟩
def sfK(K:Ye)(f:Yj)(y x:V)(H:Hp)(R:Hp->Prop):Prop:=∃a C dx fs,x=.ref a/\H a=Ya (.ins C dx fs)/\QL K C/\bY K C f/\fs.length<1000/\R (upd H a (.ins C dx (cU f y fs)))
theorem ai5{ta tv:TE}{f:Yj}(h:tv σ H λy H1=>ta σ H1 λx H2=>sfK K f y x H2 λH3=>D.nx σ H3):adM K ta tv f D σ H:=h
theorem amn{f:Yj}{y:V}{a C dx:Yc}{fs:List (Yj×V)}{R:Hp->Prop}(e:H a=Ya (.ins C dx fs))(c:QL K C)(n:bY K C f)(hl:fs.length<1000)(h:∀H2,But a H H2->H2 a=Ya (.ins C dx (cU f y fs))->R H2):sfK K f y (.ref a) H R:=⟨a,C,dx,fs,rfl,e,c,n,hl,h _ .upd aB⟩
theorem aib{ms:List (Yc×Sp)}{m:Yj}{ta:TE}{t:TA}(h:ta σ H λx H1=>mtS ms m t σ x H1 Q):Um ms m ta t σ H Q:=h
theorem qY{ms:List (Yc×Sp)}{m:Yj}{t:TA}{C a dx:Yc}{sp:Sp}{fs:List (Yj×V)}(e:H a=Ya (.ins C dx fs))(l:fs.lookup m=Yb)(h:t σ H λvs H2=>sp (.ref a::(vs++[])) H2 Q E0):mtS ((C,sp)::ms) m t σ (.ref a) H Q:=
 ⟨(C,sp),Yl,a,dx,fs,rfl,e,l,h⟩
def mkK(C:Yc)(sp:Sp)(vs:List V)(H:Hp)(Q:VK):Prop:=∀x dx,H x=Yb->H dx=Yb->dx≠x->sp (.ref x::(vs++[])) (upd (upd H dx (.own x)) x (.ins C dx [])) (λv H2=>v=.non/\Q (.ref x) H2) E0
theorem aj0{C:Yc}{sp:Sp}{t:TA}(h:t σ H λvs H1=>mkK C sp vs H1 Q):agd C sp [] E0 t σ H Q:=h
theorem anh{C:Yc}{sp:Sp}{vs:List V}(h:∀x dx H',H x=Yb->aO H H'->H' x=Ya (.ins C dx [])->sp (.ref x::(vs++[])) H' (λv H2=>v=.non/\Q (.ref x) H2) E0):mkK C sp vs H Q:=by
 intro x dx nx ndx nex;refine h x dx _ nx (λb o e=>?_) aB;rw[aK (aP e nx),aK (aP e ndx)];exact e
end
theorem anu{f b c:St->Hp->Prop}{r:VK}{σ:St}{H:Hp}(h:f σ H):Er.nx ⟨f,r,b,c⟩ σ H:=h
theorem alu{σ:St}{H:Hp}{R:Bool->Hp->Prop}(h:R true H):ams σ H R:=h
theorem aiX{g:TG}{tt:TT}{te:TE}{D:Yc}{N:St->Hp->Prop}{x:V}{σ:St}{H:Hp}(h:g x σ H λσ2 H2=>tt σ2 H2 λb H3=>if b=true then te σ2 H3 λy H4=>∃ys,H4 D=Ya (.lst ys)/\ys.length<YB/\N σ2 (upd H4 D (.lst (ys++[y])))else N σ2 H3):pR g tt te D N x σ H:=h
theorem akB{D:Er}{σ:St}{H:Hp}{c:TT}{u:TS}(h:c σ H λb H1=>if b=true then False else u D σ H1):aM (ahA c afx abZ) u D σ H:=h
theorem Bs{K:Ye}{H H':Hp}{a:Yc}{xs:List V}(e:aO H H')(h:cN K H a xs):cN K H' a xs:=by
 rcases h with(h|⟨o,h⟩)|h
 ·exact .inl (.inl (e _ _ h))
 ·exact .inl (.inr ⟨o,e _ _ h⟩)
 ·exact .inr h
theorem ahh{K:Ye}{H:Hp}{Q:VK}{a b:Yc}{xs:List V}{ds:List cx}(ha:bI K H a xs)(hx:Dps K H xs ds)(hl:nh ds=true)(hb:bI K H b [])(q:Q (.bl (!decide (ds=[]))) H):acL K (.ref a) (.ref b) H Q:=by
 refine⟨.list ds,.list [],.inr ⟨_,_,_,rfl,rfl,ha,hx⟩,.inr ⟨_,_,_,rfl,rfl,hb,.nil⟩,by rw[uj];exact hl,rfl,by have:(AG []).depth=1:=rfl;omega,?_⟩;have e:(AG ds).eqv (.list [])=decide (ds=[]):=by
  cases ds with
  |nil=>rfl
  |cons d ds=>rw[decide_eq_false (by intro z;cases z)];rfl
 rw[e];exact q
theorem abM{H:Hp}{Q:VK}{a b:Yc}{xs zs:List V}(h1:H a=Ya (.lst xs))(h2:H b=Ya (.lst zs))(hl:xs.length+ zs.length<=1000)(h:∀p H',H p=Yb->aO H H'->H' p=Ya (.lst (xs++zs))->Q (.ref p) H'):alA (.ref a) (.ref b) H Q:=⟨a,b,xs,zs,rfl,rfl,h1,h2,Y7 (aU hl),λp hp=>h p _ hp (aF hp) aB⟩
def SmB(d:Yc)(B H:Hp):Prop:=∀b o,b≠d->B b=Ya o->H b=Ya o
noncomputable def dG(m:List (Int×V)):List (dC×V):=m.map λp=>(YX p.1,p.2)
theorem Jt(m:List (Int×V)):(dG m).length=m.length:=Yi ..
noncomputable def Vd:List (Int×V)->Int->Option V
 |[],_=>Yb
 |p::m,k=>if p.1=k then Ya p.2 else Vd m k
theorem aae:∀(m:List (Int×V)) (k:Int),HS (dG m) (YX k:dC)=Vd m k
 |[],_=>rfl
 |p::m,k=>by
  show HS ((YX p.1,p.2)::dG m) (YX k)=_;unfold Vd;by_cases e:p.1=k
  ·rw[if_pos e,Bb (by rw[e])]
  ·rw[if_neg e,zJ (λz=>e (kN z)),aae m k]
noncomputable def qj:List (Int×V)->Int->V->List (Int×V)
 |[],k,v=>[(k,v)]
 |p::m,k,v=>if p.1=k then(p.1,v)::m else p::qj m k v
theorem ahm:∀(m:List (Int×V)) (k:Int) (v:V) (j:Int),Vd (qj m k v) j=if j=k then Ya v else Vd m j
 |[],k,v,j=>by
  show(if k=j then Ya v else Yb)=_;by_cases e:j=k
  ·rw[if_pos e,if_pos e.symm]
  ·rw[if_neg e,if_neg (λz=>e z.symm)];rfl
 |p::m,k,v,j=>by
  show Vd (if p.1=k then(p.1,v)::m else p::qj m k v) j=if j=k then Ya v else(if p.1=j then Ya p.2 else Vd m j)
  by_cases e:p.1=k
  ·rw[if_pos e];show(if p.1=j then Ya v else Vd m j)=_;by_cases e2:j=k
   ·rw[if_pos e2,if_pos (e.trans e2.symm)]
   ·rw[if_neg e2,if_neg (λz=>e2 (z.symm.trans e)),if_neg (λz=>e2 (z.symm.trans e))]
  ·rw[if_neg e];show(if p.1=j then Ya p.2 else Vd (qj m k v) j)=_;rw[ahm m k v j];by_cases e2:j=k
   ·rw[if_pos e2,if_neg (λz=>e (z.trans e2)),if_pos e2]
   ·rw[if_neg e2,if_neg e2]
theorem Rp:∀(m:List (Int×V)) (k:Int) (v:V) (x:Int),x∈(qj m k v).map (·.1)↔x=k∨x∈m.map (·.1)
 |[],k,v,x=>by simp[qj]
 |p::m,k,v,x=>by
  show x∈(if p.1=k then(p.1,v)::m else p::qj m k v).map (·.1)↔_;by_cases e:p.1=k
  ·rw[if_pos e];simp only[YQ,YC];constructor
   ·exact λh=>.inr h
   ·rintro(h|h)
    ·exact .inl (h.trans e.symm)
    ·exact h
  ·rw[if_neg e];simp only[YQ,YC];have:=Rp m k v x;constructor
   ·rintro(h|h)
    ·exact .inr (.inl h)
    ·rcases this.mp h with h|h
     ·exact .inl h
     ·exact .inr (.inr h)
   ·rintro(h|h|h)
    ·exact .inr (this.mpr (.inl h))
    ·exact .inl h
    ·exact .inr (this.mpr (.inr h))
theorem acg:∀(m:List (Int×V)) (k:Int) (v:V),(m.map (·.1)).Nodup->((qj m k v).map (·.1)).Nodup
 |[],k,v,_=>by simp[qj]
 |p::m,k,v,h=>by
  show((if p.1=k then(p.1,v)::m else p::qj m k v).map (·.1)).Nodup;rw[YQ,aw]at h;by_cases e:p.1=k
  ·rw[if_pos e,YQ,aw];exact h
  ·rw[if_neg e,YQ,aw];refine⟨λz=>?_,acg m k v h.2⟩;rcases(Rp m k v p.1).mp z with z|z
   ·exact e z
   ·exact h.1 z
theorem Ca:∀(m:List (Int×V)) (k:Int) (v:V) (p:Int×V),p∈qj m k v->p=(k,v)∨p∈m
 |[],k,v,p,h=>.inl (by simpa [qj]using h)
 |q::m,k,v,p,h=>by
  have h':p∈(if q.1=k then(q.1,v)::m else q::qj m k v):=h;by_cases e:q.1=k
  ·rw[if_pos e]at h';rcases YC.mp h' with z|z
   ·exact .inl (by rw[z,e])
   ·exact .inr (Yk _ z)
  ·rw[if_neg e]at h';rcases YC.mp h' with z|z
   ·exact .inr (by rw[z];exact Yl)
   ·rcases Ca m k v p z with z|z
    ·exact .inl z
    ·exact .inr (Yk _ z)
theorem aeS(k:Int):∀m:List (Int×V),((dG m).any λkv=>decide (kv.1=(YX k:dC)))=m.any λp=>decide (p.1=k)
 |[]=>rfl
 |p::m=>by
  show(decide ((YX p.1:dC)=YX k)||(dG m).any _)=(decide (p.1=k)||m.any _);rw[aeS k m];congr 1;rw[decide_eq_decide];exact⟨λh=>kN h,λh=>congrArg _ h⟩
theorem N8:∀(m:List (Int×V)) (k:Int) (v:V),(m.any λp=>decide (p.1=k))=false->qj m k v=m++[(k,v)]
 |[],_,_,_=>rfl
 |p::m,k,v,h=>by
  rw[kC,BN]at h;show(if p.1=k then(p.1,v)::m else p::qj m k v)=_;rw[if_neg (of_decide_eq_false h.1),N8 m k v h.2];rfl
theorem UW:∀(m:List (Int×V)) (k:Int) (v:V),(m.map (·.1)).Nodup->(m.any λp=>decide (p.1=k))=true->qj m k v=m.map λp=>if p.1=k then(p.1,v)else p
 |[],_,_,_,h=>by cases h
 |p::m,k,v,nd,h=>by
  rw[YQ,aw]at nd;show(if p.1=k then(p.1,v)::m else p::qj m k v)=(if p.1=k then(p.1,v)else p)::m.map _;by_cases e:p.1=k
  ·rw[if_pos e,if_pos e];congr 1;have:m.map (λp=>if p.1=k then(p.1,v)else p)=m.map id:=i5 λq hq=>by
    rw[if_neg (λz=>nd.1 (by rw[e,←z];exact Y6 hq))];rfl
   rw[this,EL]
  ·rw[if_neg e,if_neg e,UW m k v nd.2 (by
    rw[kC,decide_eq_false e,iX]at h;exact h)]
theorem ae1(m:List (Int×V))(k:Int)(v:V)(nd:(m.map (·.1)).Nodup):ql (dG m) (YX k:dC) (v)=dG (qj m k v):=by
 unfold ql;rw[aeS];cases e:m.any λp=>decide (p.1=k)with
 |false=>
  rw[N8 m k v e];unfold dG;rw[YK];rfl
 |true=>
  rw[UW m k v nd e];unfold dG;rw[iA,if_pos rfl,iA];apply i5;intro p _;show(if(YX p.1:dC)=YX k then((YX p.1:dC),v)else(YX p.1,p.2))=((YX (if p.1=k then(p.1,v)else p).1:dC),(if p.1=k then(p.1,v)else p).2);by_cases z:p.1=k
  ·rw[if_pos (congrArg _ z),if_pos z]
  ·rw[if_neg (λq=>z (kN q)),if_neg z]
section
variable{X:Cx}
theorem Nv{α β:Type}{R:α->β->Prop}:∀{xs:List α} {ys:List β},xs.length=ys.length->(∀(i:Nat) x y,xs[i]?=Ya x->ys[i]?=Ya y->R x y)->d3 R xs ys:=by
 intro xs
 induction xs with
 |nil=>
  intro ys h _;cases ys with
  |nil=>exact .nil
  |cons _ _=>cases h
 |cons x xs ih=>
  intro ys h k;cases ys with
  |nil=>cases h
  |cons y ys=>exact .cons (k 0 x y rfl rfl) (ih (yi h) λi a b ha hb=>k (i+ 1) a b (by simpa using ha) (by simpa using hb))
theorem Uv:∀(ns:List Int) (n:Nat),n<=ns.length->preSum (λi=>ns.getD i 0) n=(ns.take n).sum:=by
 intro ns n
 induction n with
 |zero=>intro _;rfl
 |succ n ih=>
  intro h;show preSum _ n+ ns.getD n 0=_;rw[ih (by omega),AZ,z4];have:n<ns.length:=h;rw[YU,Yo this];simp
theorem Cz(hc:X.calm=true):iZ X (.builtin "sum") (λxs H Q=>∃(p:Yc) (ns:List Int),xs=[.ref p]/\bI X.K H p (ns.map V.int)/\Q (.int ns.sum) H):=by
 intro pins s σ H xs us Q I r h;obtain⟨p,ns,rfl,hq,q⟩:=h;obtain⟨u,rfl,rx⟩:=j0 r;cases rx;obtain⟨its,rv,pl,hz⟩:=I.list hq;have hl:its.toArray.size=ns.length:=by rw[Yx,←rv.length,Yi]
 have hp:p<s.heap.objs.size:=let ⟨_,z,_⟩:=pl.isList;Yu z;refine call_sum_walkG (gx pl.isList ?_);refine⟨s.heap.objs.size,[s.heap.objs.size,p],[s.heap.objs.size],its.toArray.size,_,_,λi=>ns.getD i 0,rfl,xi (A:=X.A.in1) (I.ok.hd hc) _ p (YH hp) its.toArray,
  ⟨⟨_,Yq _ rfl,rfl,rfl⟩,pl.isList.push _⟩,λb hb=>?_,λi v hP=>?_,λh' tk t' kp=>?_⟩
 ·rw[ff];rcases YC.mp hb with z|z
  ·rw[z];exact i8 _
  ·rw[Yy.mp z];exact kG hp
 ·have hv:its[i]?=Ya v:=by simpa using hP
  have hb:i<ns.length:=by
   have:=(Yp.mp hv).1;rw[←hl,Yx];exact this
  obtain⟨u,hu,ru⟩:=rv.get (i:=i) (x:=V.int ns[i]) (by rw[Yv,Yo hb];rfl);rw[hv]at hu;cases hu;obtain⟨t,rfl⟩:=ru;refine⟨t,?_⟩;show jS ns[i] t=jS (ns.getD i 0) t;rw[YU,Yo hb,EZ]
 ·refine⟨.int ns.sum,H,I.kept (t':=tk) λb o e=>kp b o ?_ (Yg _ e),⟨t',?_⟩,q⟩
  ·intro z;have z':b=s.heap.objs.size:=by simpa using z
   exact absurd (Yu e) (by rw[z'];exact Y2 _)
  ·rw[hl,Uv ns ns.length (Yn _),Y5]
abbrev aa5(H:Hp):List V->List (Int×V)->Prop:=d3 λx p=>∃a,x=.ref a/\H a=Ya (.tup [.int p.1,p.2])
theorem acC{pins:List (Yc×Y3)}{σ:St}{H:Hp}{s:Yh}(I:bw X pins σ H s):∀{xs:List V} {us:List Yd} {ps:List (Int×V)},aa5 H xs ps->Vals xs us->
  ∃kx:List (dC×Yd),KV (dG ps) kx/\kx.length=us.length/\∀(i:Nat) v,us[i]?=Ya v->∃a key k x o c,v=.ref a/\kx[i]?=Ya (k,x)/\(bK X.prog X.w).is k key=true/\s.heap.get? a=Ya o/\o.cls=.type "tuple"/\o.data=.seq #[key,x] c:=by
 intro xs us ps w
 induction w generalizing us with
 |nil=>
  intro w;cases w;exact⟨[],.nil,rfl,λi v e=>by simp at e⟩
 |@cons x p xs ps h t ih=>
  intro w;cases w with|cons r q=>
  rename_i u us;obtain⟨kx,k1,k2,k3⟩:=ih q;obtain⟨a,rfl,ha⟩:=h;obtain rfl:u=Y0 a:=r;obtain⟨_,its,rv,o,ho,hc,n,hd,_⟩:[V.int p.1,p.2].length<=YB/\∃its:List Yd,Vals [V.int p.1,p.2] its/\ut s.heap a its.toArray:=I.hok a _ ha;obtain⟨u1,u2,rfl,r1,r2⟩:=Xk rv;obtain⟨t1,rfl⟩:=r1;refine⟨(YX p.1,u2)::kx,.cons ⟨rfl,r2⟩ k1,congrArg (·+ 1) k2,λi v e=>?_⟩;cases i with
  |zero=>
   have e':Y0 a=v:=YL e;subst e';exact⟨a,_,_,u2,o,n,rfl,rfl,BL X.prog X.w p.1 t1,ho,hc,hd⟩
  |succ i=>exact k3 i v e
theorem Qy:∀(ps acc:List (Int×V)),((acc++ps).map (·.1)).Nodup->lF (dG acc) (dG ps)=dG (acc++ps)
 |[],acc,_=>by rw[cy];rfl
 |p::ps,acc,h=>by
  have e:lF (dG acc) (dG (p::ps))=lF (ql (dG acc) (YX p.1:dC) p.2) (dG ps):=rfl;have h1:(acc.map (·.1)).Nodup:=by rw[YK]at h;exact(fi.mp h).1
  have h2:p.1∉acc.map (·.1):=by
   rw[YK,YQ]at h;intro z;exact(fi.mp h).2.2 _ z _ Yl rfl
  rw[e,ae1 acc p.1 p.2 h1,N8 acc p.1 p.2 (by
   rw[wx];intro q hq;exact λz=>h2 (by rw[←of_decide_eq_true z];exact Y6 hq)),Qy ps (acc++[p]) (by rw[mT];exact h),mT]
  rfl
theorem XR(hc:X.calm=true):iZ X (.type "dict") (λxs H Q=>∃(a:Yc) (ys:List V) (ps:List (Int×V)),xs=[.ref a]/\H a=Ya (.lst ys)/\aa5 H ys ps/\(ps.map (·.1)).Nodup/\ps.length<=1000/\∀p,H p=Yb->Q (.ref p) (upd H p (.dK (dG ps)))):=by
 intro pins s σ H xs us Q I r h;obtain⟨a,ys,ps,rfl,ha,hp,nd,hl,q⟩:=h;obtain⟨u,rfl,rx⟩:=j0 r;cases rx;obtain⟨z,its,n,rv,hlen,e⟩:=I.lstM ha;obtain⟨kx,k1,k2,k3⟩:=acC I hp rv;refine GX.Hu (knd:=bK X.prog X.w) (I.ok.hd hc) e (by rw[←hlen];exact z) k2 k3 λh' tk kp dd=>?_;have rel:KV (dG ps) (xC [] kx):=by
  have:=KV.merge k1 (show KV (dG []) []from .nil);rw[Qy ps [] (by simpa using nd)]at this;exact this
 refine⟨.ref s.heap.objs.size,_,I.laid (t':=tk) kp (Yn _) (Su ?_ (beq_eq_false_iff_ne.mpr (Ne.symm (YH I.big))) rel dd),rfl,q _ (I.hok.fresh (Yn _))⟩;rw[Jt];exact Y7 (aU hl)
end
section
variable{D:Er}{σ:St}{H:Hp}{Q:VK}
theorem Rr{d:Yc}{H A:Hp}{u:HO}(s:SmB d H A)(h:H d=Ya u):aO H (upd A d u):=λb o e=>by
 by_cases z:b=d
 ·subst z;rw[h]at e;cases e;exact aB
 ·rw[aK z];exact s b o z e
theorem alZ{d:Yc}{m:List (Int×V)}{k:Int}{v:V}{P:V->Prop}(hd:Rd H d (.dK (dG m)))(hk:Vd m k=Ya v)(h:P v):∃a v,V.ref d=.ref a/\TX H a (.int k) (Ya v)/\P v:=
 ⟨d,v,rfl,.inl ⟨_,YX k,hd,rfl,by rw[aae,hk]⟩,h⟩
theorem ajE{d:Yc}{m:List (Int×V)}{k:Int}{P:Option V->Prop}(hd:Rd H d (.dK (dG m)))(h:P (Vd m k)):∃a o,V.ref d=.ref a/\TX H a (.int k) o/\P o:=⟨d,_,rfl,.inl ⟨_,YX k,hd,rfl,(aae m k).symm⟩,h⟩
theorem ah1{d:Yc}{m:List (Int×V)}{k:Int}{v:V}{P:Hp->Prop}(hd:H d=Ya (.dK (dG m)))(nd:(m.map (·.1)).Nodup)(hl:m.length<YB)(h:∀H2,But d H H2->H2 d=Ya (.dK (dG (qj m k v)))->P H2):∃a H4,V.ref d=.ref a/\agx H a (.int k) v H4/\P H4:=
 ⟨d,_,rfl,.inl ⟨_,YX k,hd,rfl,by rw[Jt];exact hl,rfl⟩,h _ .upd (by rw[aB,ae1 m k v nd])⟩
end
theorem afs{n h:Int}(h0:0<=n)(h1:0<=h):(!decide (V.int (Yz n (2^h.toNat))=V.int 0))=n.toNat.testBit h.toNat:=by
 have e1:(0:Int)<=2^h.toNat:=iw _;have e2:((2:Int)^h.toNat).toNat=2^h.toNat:=by
  have:((2:Int)^h.toNat)=((2^h.toNat:Nat):Int):=by push_cast;rfl
  rw[this,YA]
 rw[IJ h0 e1,e2];cases q:n.toNat.testBit h.toNat with
 |false=>
  rw[(GB.abG _ _).mpr q];rfl
 |true=>
  have z:¬ (n.toNat &&& 2^h.toNat=0):=λz=>by rw[(GB.abG _ _).mp z]at q;cases q
  have z':¬ V.int ((n.toNat &&& 2^h.toNat:Nat):Int)=V.int 0:=λe=>z (by injection e with e;omega);rw[decide_eq_false z'];rfl
noncomputable def LR(n:Int)(i:Nat):List Int:=((cS i).filter λh=>n.toNat.testBit h).map (fun(h:Nat)=>(h:Int))
theorem aes(n:Int)(i:Nat):(LR n i).length<=i:=by
 unfold LR;rw[Yi];have:=nE (λh=>n.toNat.testBit h) (cS i);rw[cK]at this;exact this
theorem aey{n:Int}{i:Nat}(h:n.toNat.testBit i=true):LR n (i+ 1)=LR n i++[(i:Int)]:=by
 unfold LR;rw[qh,mB,YK,xS,h];rfl
theorem agQ{n:Int}{i:Nat}(h:n.toNat.testBit i=false):LR n (i+ 1)=LR n i:=by
 unfold LR;rw[qh,mB,YK,xS,h];exact cy _
theorem adI{n:Int}(h0:0<=n)(h1:n<9223372036854775808):ed n<=63/\LR n (ed n)=GB.hl n:=by
 have a:n.natAbs=n.toNat:=by omega
 have l:n.toNat<2^63:=by
  have:(2:Nat)^63=9223372036854775808:=by decide
  omega
 have b:ed n<=63:=IF (by rw[a];exact l);refine⟨b,?_⟩;unfold LR GB.hl;rw[GB.agP b];unfold ed;by_cases z:n=0
 ·subst z;decide
 ·have z':(n==0)=false:=by simpa using z
  rw[z',a];exact Nat.lt_log2_self
theorem MP:∀{l m:List Nat},l.Pairwise (·<·)->m.Pairwise (·<·)->(∀x,x∈l↔x∈m)->l=m
 |[],[],_,_,_=>rfl
 |[],y::m,_,_,h=>absurd ((h y).mpr Yl) (by simp)
 |x::l,[],_,_,h=>absurd ((h x).mp Yl) (by simp)
 |x::l,y::m,hl,hm,h=>by
  rw[vw]at hl hm;have e:x=y:=by
   rcases YC.mp ((h x).mp Yl)with z|z
   ·exact z
   ·rcases YC.mp ((h y).mpr Yl)with w|w
    ·exact w.symm
    ·have:=hm.1 x z;have:=hl.1 y w;omega
  subst e;rw[MP hl.2 hm.2 λz=>?_];constructor
  ·intro hz;rcases YC.mp ((h z).mp (Yk _ hz))with w|w
   ·subst w;exact absurd (hl.1 _ hz) (Y2 _)
   ·exact w
  ·intro hz;rcases YC.mp ((h z).mpr (Yk _ hz))with w|w
   ·subst w;exact absurd (hm.1 _ hz) (Y2 _)
   ·exact w
theorem Uw{α:Type}{P:List α->Prop}(h0:P [])(h1:∀l a,P l->P (l++[a]))(l:List α):P l:=by
 have key:∀r:List α,P r.reverse:=by
  intro r
  induction r with
  |nil=>exact h0
  |cons a r ih=>rw[List.reverse_cons];exact h1 _ _ ih
 have:=key l.reverse;rw[List.reverse_reverse]at this;exact this
theorem ajl:∀(l:List Nat) (b:Nat),l.Pairwise (·<·)->(∀x∈l,x<b)->(l.map λh=>2^h).sum<2^b:=by
 refine Uw ?_ ?_
 ·intro b _ _;exact Nat.two_pow_pos b
 ·intro l h ih b hp hb;rw[tN]at hp;have h1:=ih h hp.1 λx hx=>hp.2.2 x hx h (by simp);have h2:h<b:=hb h (by simp);rw[YK,z4];have h3:2^(h+ 1)<=2^b:=oQ (by decide) h2;rw[Nat.pow_succ]at h3;simp only[YQ,kT,gX,IB];omega
theorem agR:∀(l:List Nat),l.Pairwise (·<·)->(l.map λh=>2^h).sum=GB.aaV l:=by
 refine Uw ?_ ?_
 ·intro _;rfl
 ·intro l h ih hp;rw[tN]at hp;have h1:=ajl l h hp.1 λx hx=>hp.2.2 x hx h (by simp);have e:=ih hp.1;rw[YK,z4];unfold GB.aaV at e⊢;rw[EF,←e];simp only[YQ,kT,gX,IB,kg,List.foldl_nil];have:=Nat.two_pow_add_eq_or_of_lt h1 1;rw[Nat.mul_one]at this;rw[Nat.add_zero,Nat.add_comm,this,Nat.or_comm]
structure Hs(hs:List Int):Prop where
 up:hs.Pairwise (·<·)
 rg:∀h∈hs,0<=h/\h<63
theorem Hs.nat{hs:List Int}(c:Hs hs):∃l:List Nat,hs=l.map (fun(h:Nat)=>(h:Int))/\l.Pairwise (·<·)/\∀x∈l,x<63:=by
 refine⟨hs.map ot,?_,?_,?_⟩
 ·rw[iA]
  conv=>lhs;rw[←EL hs]
  refine i5 λh hh=>?_;have:=(c.rg h hh).1;show h=((h.toNat:Nat):Int);omega
 ·rw[rX];refine c.up.imp_of_mem fun{a b} ha hb h=>?_;have:=(c.rg a ha).1;omega
 ·intro x hx;obtain⟨h,hh,rfl⟩:=YF.mp hx;have:=c.rg h hh;omega
theorem UV:∀l:List Nat,(l.map fun(h:Nat)=>(h:Int)).sum=((l.sum:Nat):Int)
 |[]=>rfl
 |x::l=>by rw[YQ,gX,gX,UV l];omega
theorem Hs.set{hs:List Int}(c:Hs hs):0<=(hs.map λh=>1*(2:Int)^h.toNat).sum/\(hs.map λh=>1*(2:Int)^h.toNat).sum<9223372036854775808/\GB.hl (hs.map λh=>1*(2:Int)^h.toNat).sum=hs:=by
 obtain⟨l,rfl,up,rg⟩:=c.nat
 have e:((l.map fun(h:Nat)=>(h:Int)).map λh=>1*(2:Int)^h.toNat).sum=((GB.aaV l:Nat):Int):=by
  rw[←agR l up,←UV,iA,iA];congr 1;refine i5 λh _=>?_;show 1*(2:Int)^((h:Int)).toNat=((2^h:Nat):Int);rw[YA,AH]
  push_cast
  rfl
 have lt:GB.aaV l<2^63:=GB.ag2 rg;have p63:(2:Nat)^63=9223372036854775808:=by decide
 rw[e];refine⟨by omega,by omega,?_⟩;unfold GB.hl;rw[YA];congr 1;refine MP (GB.zU _) up λx=>?_;rw[GB.HJ,GB.U4];constructor
 ·rintro⟨_,h⟩;exact of_decide_eq_true h
 ·intro h;exact⟨rg x h,decide_eq_true h⟩
structure XS(K:Ye)(C:Yc):Prop where
 cl:QL K C
 n1:bY K C "learnt"
theorem adQ{d:V}:([(("learnt":Yj),d)]:List (Yj×V)).lookup ("learnt":Yj)=Ya d:=by kernel_rfl
theorem aep{d:V}:([(("learnt":Yj),d)]:List (Yj×V)).lookup ("learn":Yj)=none:=by kernel_rfl
theorem afj{d:V}:([(("learnt":Yj),d)]:List (Yj×V)).lookup ("floor":Yj)=none:=by kernel_rfl
theorem ah4{d:V}:([(("learnt":Yj),d)]:List (Yj×V)).lookup ("sure":Yj)=none:=by kernel_rfl
noncomputable def Itv(d:Yc)(o:Y3)(kvs:List (dC×V)):It:=
 ⟨λi H=>i<kvs.length/\H d=Ya (.frz o (.dK kvs)),λi H x H'=>H'=H/\∃k,kvs[i]?=Ya (k,x),λi H=>kvs.length<=i/\H d=Ya (.frz o (.dK kvs))⟩
theorem acz{P:YJ}{w:YV}{K:Ye}{tg:YY}{d it:Yc}{o:Y3}{kvs:List (dC×V)}{vs:List (dC×Yd)}{ep:Nat}(rel:KV kvs vs)(fz:∀h:YR,h.get? d=Ya o->h.DictAt (bK P w) d vs ep):
  Turn P w K tg (Itv d o kvs) [it] it (λi h=>h.IsValIter it d i vs.length ep) where
 mem:=by simp
 obj:=λi h st b hb=>by
  have e:b=it:=by simpa using hb
  subst e;obtain⟨o,e,c,dd⟩:=st;exact⟨o,e,λv z=>by rw[dd]at z;cases z⟩
 keep:=λi h h' st k=>let ⟨o,e,c,dd⟩:=st;⟨o,k it (by simp) o e,c,dd⟩
 item:=by
  intro X hP hw hK hc i pins s σ H E I hf st hg;subst hP hw hK;obtain⟨hi,hd⟩:=hg;have hdo:s.heap.get? d=Ya o:=(show s.heap.get? d=Ya o/\_ from I.hok d _ hd).1;have hx:kvs[i]?=Ya kvs[i]:=Yo hi;obtain⟨u,hu,ru⟩:=rel.get (k:=kvs[i].1) (v:=kvs[i].2) hx;obtain⟨f0,f1,f2,f3,f4,f5⟩:=hf it (by simp);refine wpAny_pyNext_values_item st (fz _ hdo) hu λh' st' sb=>?_;have I1:bw X pins σ H {s with heap:=h'}:=I.turned (t':=s.toks) (λb o hb e=>(sb.2 b hb).trans e) f0 f1 f3 f4 f5;obtain⟨oo,e,c,dd⟩:=id st';exact⟨u,rfl,acr (s:={s with heap:=h'}) e c dd (by decide) ⟨kvs[i].2,H,I1,ru,⟨rfl,kvs[i].1,hx⟩,st',λb hb=>(hf b hb).1⟩⟩
 done:=by
  intro X hP hw hK hc i pins s σ H E I hf st hg;subst hP hw hK;obtain⟨hi,hd⟩:=hg;have hdo:s.heap.get? d=Ya o:=(show s.heap.get? d=Ya o/\_ from I.hok d _ hd).1;obtain⟨f0,f1,f2,f3,f4,f5⟩:=hf it (by simp);have hlen:kvs.length=vs.length:=KV.length rel;exact wpAny_pyNext_values_end (I.ok.hd hc) st (fz _ hdo) (km (by omega)) λh' eb=>⟨rfl,I.turned (t':=s.toks) (λb o hb e=>eb b o hb e) f0 f1 f3 f4 f5⟩
 self:=λ_ _ _ _ _ st h=>BQ st h
section
variable{X:Cx}
def aip(td:TE):TI:=λσ H R=>td σ H λx H1=>∃d kvs,x=.ref d/\H1 d=Ya (.dK kvs)/\∀o,R (Itv d o kvs) (upd H1 d (.frz o (.dK kvs)))
theorem ahc{tg e:YY}{apos cpos:hJ}{td:TE}(he:PE X e td)(hbase:ku e "values" X.env (aE e X.env)=aE e X.env:=by rfl)(hline:(apos.endLine==cpos.line)=true:=by rfl):
  PI X tg (.Call (.Attribute e "values" apos) [] [] cpos) (aip td):=by
 intro pins s σ H R I h;refine md hbase hline (dN (he pins s σ H _ I h) λv s1 zz=>?_);obtain⟨x,H1,I1,r1,d,kvs,ex,hd,q⟩:=zz;subst ex;obtain rfl:v=Y0 d:=r1;obtain⟨z,hS,vs,rel,dd⟩:=W8 I1.hok hd;obtain⟨h1,h2⟩:=Jp (T:="dict") I1 (x:=.ref d) rfl (.inr (.inr (.inl ⟨rfl,.inl ⟨kvs,hd⟩⟩)));refine⟨"dict","dict.values",gi,fA,lj,h1,h2,jJ rfl (pS ?_)⟩;refine CU fA h1 xl (vT _) (EG (bK X.prog X.w) d hS) ⟨⟨vs,dd⟩,?_⟩;have dd':(s1.heap.push {cls:=.type "dict_values",data:=.fields #[.ref d]}).DictOf (bK X.prog X.w) d vs:=dd.push _;obtain⟨o,es,ep,ho,rr⟩:=id dd';have fz:∀h:YR,h.get? d=Ya o->h.DictAt (bK X.prog X.w) d vs ep:=λh hh=>⟨o,es,hh,rr⟩;have I2:bw X pins σ H1 {s1 with heap:=s1.heap.push {cls:=.type "dict_values",data:=.fields #[.ref d]}}:=I1.kept (t':=s1.toks) λb ob e=>Yg _ e;have hv:(s1.heap.push {cls:=.type "dict_values",data:=.fields #[.ref d]}).IsValuesView s1.heap.objs.size d:=⟨_,Yq _ rfl,rfl,rfl⟩;show Ym _ _ (tq (.ref s1.heap.objs.size)) _ _ _;refine wpAny_pyIter_values hv (fz _ ho) ?_;have I3:bw X pins σ (upd H1 d (.frz o (.dK kvs))) {s1 with heap:=s1.heap.push {cls:=.type "dict_values",data:=.fields #[.ref d]}}:=
  I2.write (t':=s1.toks) (x:=d) (e:=d) (by rw[hd];trivial) (.inl rfl) (λ_ _ _ e=>e) ⟨o,ho⟩ ⟨ho,z,hS,vs,rel,dd'⟩
 refine⟨_,[_],_,Itv d o kvs,upd H1 d (.frz o (.dK kvs)),rfl,I3.kept (t':=s1.toks) λb ob e=>Yg _ e,acz rel fz,⟨_,Yq _ rfl,rfl,rfl⟩,λb hb=>?_,q o⟩;have eb:b=(s1.heap.push {cls:=.type "dict_values",data:=.fields #[.ref d]}).objs.size:=by simpa using hb
 subst eb;exact I3.fpOk (Yn _) (I3.hok.fresh (Yn _))
end
theorem adz{d:Yc}{o:Y3}{kvs:List (dC×V)}{g:TG}{tt:TT}{te:TE}{σ:St}{H:Hp}{D:Yc}{Qe:Hp->Prop}(Pv:Nat->St->Hp->Prop)(h0:Pv 0 σ H)(hl:∀i σ H,i<=kvs.length->Pv i σ H->H d=Ya (.frz o (.dK kvs)))
  (hs:∀i k v σ H,kvs[i]?=Ya (k,v)->Pv i σ H->pR g tt te D (Pv (i+ 1)) v σ H) (hd:∀σ H,Pv kvs.length σ H->Qe H):
  ∃W:Nat->Nat->St->Hp->Prop,(∃m,W 0 m σ H)/\∀i m σ' H',W i m σ' H'->((Itv d o kvs).stop i H'/\Qe H')∨((Itv d o kvs).go i H'/\∃N:St->Hp->Prop,(∀σ2 H2,N σ2 H2->∃m',m'<m/\W (i+ 1) m' σ2 H2)/\
   ∀x H'',(Itv d o kvs).yld i H' x H''->pR g tt te D N x σ' H''):=by
 refine⟨λi m σ H=>m=kvs.length-i/\i<=kvs.length/\Pv i σ H,⟨kvs.length,by simp,YZ _,h0⟩,?_⟩;rintro i m σ H ⟨rfl,hi,p⟩;have q:=hl i σ H hi p;by_cases hlt:i<kvs.length
 ·refine .inr ⟨⟨hlt,q⟩,Pv (i+ 1),λσ' H' p'=>⟨kvs.length-(i+ 1),by omega,rfl,hlt,p'⟩,λx H' y=>?_⟩;obtain⟨rfl,k,e1⟩:=y;exact hs i k x σ _ e1 p
 ·have e:i=kvs.length:=by omega
  subst e;exact .inl ⟨⟨Yn _,q⟩,hd σ H p⟩
def fzK(J:Yc->Y3->List (dC×V)->It)(x:V)(H:Hp)(R:It->Hp->Prop):Prop:=∃d kvs,x=.ref d/\H d=Ya (.dK kvs)/\∀o,R (J d o kvs) (upd H d (.frz o (.dK kvs)))
theorem aid{td:TE}{σ:St}{H:Hp}{R:It->Hp->Prop}(h:td σ H λx H1=>fzK Itv x H1 R):aip td σ H R:=h
theorem ala{J:Yc->Y3->List (dC×V)->It}{H:Hp}{d:Yc}{kvs:List (dC×V)}{R:It->Hp->Prop}(hd:H d=Ya (.dK kvs))(h:∀o A,A d=Ya (.frz o (.dK kvs))->SmB d H A->R (J d o kvs) A):fzK J (.ref d) H R:=
 ⟨d,kvs,rfl,hd,λo=>h o _ aB λb u n e=>by rw[aK n];exact e⟩
theorem agl{t:TS}{D:Er}{σ:St}{H:Hp}{d:Yc}{kvs:List (dC×V)}(hd:H d=Ya (.dK kvs))(h:t {D with nx:=λσ' H'=>(∃o,H' d=Ya (.frz o (.dK kvs)))/\D.nx σ' (upd H' d (.dK kvs)),rt:=λv H'=>(∃o,H' d=Ya (.frz o (.dK kvs)))/\D.rt v (upd H' d (.dK kvs))} σ H):aiF t D σ H:=⟨d,kvs,hd,h⟩
section
variable{X:Cx}
end
section
variable{X:Cx}
noncomputable def Ur(v d:Yc):HO:=.ext λh=>h.IsValuesView v d
theorem aaL:MtR X "dict.values" (λx vs H Q=>∃d kvs,x=.ref d/\vs=[]/\H d=Ya (.dK kvs)/\∀v,H v=Yb->Q (.ref v) (upd H v (Ur v d))):=by
 intro pins s σ H x xs v us Q I rx rv h;obtain⟨d,kvs,rfl,rfl,hd,q⟩:=h;cases rx;cases rv;obtain⟨z,hS,vs,rel,dd⟩:=W8 I.hok hd;obtain⟨h1,h2⟩:=Jp (T:="dict") I (x:=.ref d) rfl (.inr (.inr (.inl ⟨rfl,.inl ⟨kvs,hd⟩⟩)));refine CU fA h1 xl (vT _) (EG (bK X.prog X.w) d hS) ⟨⟨vs,dd⟩,?_⟩;refine⟨.ref s.heap.objs.size,_,I.laid (o:=Ur s.heap.objs.size d) (t':=s.toks) (λb ob e=>Yg _ e) (Yn _) ⟨⟨_,Yq _ rfl,rfl,rfl⟩,⟨_,Yq _ rfl⟩,λh1 h2 ⟨o,e1,e2,e3⟩ k=>⟨o,k o e1,e2,e3⟩⟩,rfl,q _ (I.hok.fresh (Yn _))⟩
theorem aar(hc:X.calm=true):iZ X (.type "list") (λxs H Q=>∃(v d:Yc) (kvs:List (dC×V)),xs=[.ref v]/\H v=Ya (Ur v d)/\Rd H d (.dK kvs)/\kvs.length<=1000/\∀l,H l=Yb->Q (.ref l) (upd H l (.lst (kvs.map (·.2))))):=by
 intro pins s σ H xs us Q I r h;obtain⟨v,d,kvs,rfl,hv,hd,hlen,q⟩:=h;obtain⟨u,rfl,rx⟩:=j0 r;cases rx;obtain⟨z,hS,vs,rel,dd⟩:=Ax I.hok hd;obtain⟨ep,hat⟩:=dd.dictAt;have hl:vs.length=kvs.length:=(KV.length rel).symm;have hvw:s.heap.IsValuesView v d:=(I.hok v _ hv).1;refine sP (A:=X.A) (PySem.W.kdl_values (knd:=bK X.prog X.w) (kvs:=vs) (ep:=ep)) (I.ok.hd hc) ⟨hvw,hat⟩ (by rw[hl];exact Y7 (aU (by omega))) λh' tk acc c hk he hacc=>?_;refine⟨.ref s.heap.objs.size,_,I.laid (o:=.lst (kvs.map (·.2))) (t':=tk) hk (Yn _) ⟨by rw[Yi];exact Y7 (aU hlen),acc.toList,c,Nv ?_ λi x u hx hu=>?_,he⟩,rfl,q _ (I.hok.fresh (Yn _))⟩
 ·have e:acc.toList.length=vs.length:=by rw[aT];exact hacc.1
  rw[Yi,e,hl]
 ·rw[Y9]at hu;obtain⟨k,hk⟩:=hacc.2 i u hu;rw[Yv]at hx;cases e:kvs[i]? with
  |none=>rw[e]at hx;cases hx
  |some p=>
   rw[e]at hx;cases hx;obtain⟨u',hu',ru⟩:=rel.get (k:=p.1) (v:=p.2) e;rw[hk]at hu';cases hu';exact ru
theorem amF{K:Ye}{H:Hp}{a:Yc}{kvs:List (dC×V)}{P:Prop}(hd:H a=Ya (.dK kvs))(h:P):tyV K "dict" (.ref a) H/\P:=⟨.inr (.inr (.inl ⟨rfl,.inl ⟨kvs,hd⟩⟩)),h⟩
end
section
variable{X:Cx}
def aln:R2:=λx y H Q=>∃(a c:Yc) (m:List (Int×Int)),x=.ref a/\y=.ref c/\Rd H a (.dK (dI m))/\Rd H c (.dK [])/\Q (.bl (!m.isEmpty)) H
theorem akx(hu:X.A.units<fm):yV X (bX .NotEq) aln:=by
 intro pins s σ H x y v u Q I rx ry h;obtain⟨a,c,m,rfl,rfl,ha,hb,q⟩:=h;cases rx;cases ry;obtain⟨_,s1,vs,r1,d1⟩:=Ax I.hok ha;obtain⟨_,s2,ws,r2,d2⟩:=Ax I.hok (show Rd H c (.dK (dI []))from hb);have e1:vs.length=m.length:=by rw[←r1.length,O3]
 have e2:ws.length=0:=by rw[←r2.length,O3];rfl
 refine PySem.W.keq_ne s1 s2 d1 d2 hu (r:=true) (λz=>abR r2 r1 (λp hp=>?_)) ⟨.bl (!m.isEmpty),H,I,?_,q⟩
 ·have:m.length=0:=by omega
  rw[List.length_eq_zero_iff.mp this]at hp;cases hp
 ·rw[e1,e2];cases m<;>rfl
theorem Fd{P:YJ}{w:YV}:∀{m:List (Int×V)} {vs:List (dC×Yd)} {us:List Yd},KV (dG m) vs->us.length=vs.length->(∀(j:Nat) v,us[j]?=Ya v->∃k x,vs[j]?=Ya (k,x)/\(bK P w).is k v=true)->bg us (m.map (·.1))
 |[],_,us,r,hl,h=>by
  have r':KV [] _:=r;cases r';cases us with
  |nil=>exact .nil
  |cons _ _=>cases hl
 |p::m,vs,us,r,hl,h=>by
  have r':KV ((YX p.1,p.2)::dG m) vs:=r;cases r' with
  |cons r1 r2=>
   rename_i q qs;cases us with
   |nil=>cases hl
   |cons u us=>
    obtain⟨k,x,e1,e2⟩:=h 0 u rfl;have e1':q=(k,x):=YL e1;subst e1';have ek:(YX p.1:dC)=k:=r1.1;subst ek;rcases dD (show Iu (YX p.1) u=true from e2)with⟨i,t,z1,z2⟩|⟨_,_,z,_⟩
    ·have z1':p.1=i:=kN z1;rw[z2,←z1'];exact .cons _ t (Fd (P:=P) (w:=w) r2 (yi hl) λj v e=>h (j+ 1) v e)
    ·cases z
theorem TY(hc:X.calm=true):iZ X (.builtin "sorted") (λxs H Q=>∃(d:Yc) (m:List (Int×V)),xs=[.ref d]/\Rd H d (.dK (dG m))/\m.length<64/\∀(l:Yc) (ns:List Int),H l=Yb->ns.Perm (m.map (·.1))->ns.Pairwise (·<=·)->Q (.ref l) (upd H l (.lst (ns.map V.int)))):=by
 intro pins s σ H xs us Q I r h;obtain⟨d,m,rfl,hd,hlen,q⟩:=h;obtain⟨u,rfl,rx⟩:=j0 r;cases rx;obtain⟨z,hS,vs,rel,dd⟩:=Ax I.hok hd;obtain⟨ep,hat⟩:=dd.dictAt;have hl:vs.length=m.length:=by rw[←rel.length,Jt]
 refine GX.BZ (CS _) (Co (A:=X.A.in1) (sN (knd:=bK X.prog X.w) (kvs:=vs) (ep:=ep) hS) (I.ok.hd hc) hat (by rw[hl];exact Y7 (aU (by omega))) λh' tk acc hk hacc=>?_);have hi:bg acc.toList (m.map (·.1)):=Fd (P:=X.prog) (w:=X.w) rel (by rw[aT];exact hacc.1) λj v e=>hacc.2 j v (by rw[←Y9];exact e);have ha:acc.toList.length=m.length:=by rw[hi.length,Yi]
 have I1:bw X pins σ H {s with heap:=h',toks:=tk}:=I.kept hk;refine Jr hi (by rw[ha];exact hlen) (by rw[ha];exact Y7 (aU (by omega))) λh2 out ns' e k2 he a1 a2 a3=>?_;have ln:ns'.length<=YB:=by rw[a2.length_eq,Yi];exact Y7 (aU (by omega))
 exact⟨.ref h'.objs.size,_,I1.lay_ints (tk:=tk) k2 he a1 ln,rfl,q _ ns' (I1.hok.fresh (Yn _)) a2 a3⟩
end
theorem abh{d:Yc}{o:Y3}{kvs:List (dC×V)}{g:TG}{tt:TT}{te:TE}{σ:St}{H:Hp}{D:Yc}{Qe:Hp->Prop}(Pv:Nat->St->Hp->Prop)(h0:Pv 0 σ H)(hl:∀i σ H,i<=kvs.length->Pv i σ H->H d=Ya (.frz o (.dK kvs)))
  (hs:∀i k v t σ H H1,kvs[i]?=Ya (k,v)->Pv i σ H->H t=Yb->aO H H1->H1 t=Ya (.tup [kV k,v])->pR g tt te D (Pv (i+ 1)) (.ref t) σ H1) (hd:∀σ H,Pv kvs.length σ H->Qe H):
  ∃W:Nat->Nat->St->Hp->Prop,(∃m,W 0 m σ H)/\∀i m σ' H',W i m σ' H'->((Itm d o kvs).stop i H'/\Qe H')∨((Itm d o kvs).go i H'/\∃N:St->Hp->Prop,(∀σ2 H2,N σ2 H2->∃m',m'<m/\W (i+ 1) m' σ2 H2)/\
   ∀x H'',(Itm d o kvs).yld i H' x H''->pR g tt te D N x σ' H''):=by
 refine⟨λi m σ H=>m=kvs.length-i/\i<=kvs.length/\Pv i σ H,⟨kvs.length,by simp,YZ _,h0⟩,?_⟩;rintro i m σ H ⟨rfl,hi,p⟩;have q:=hl i σ H hi p;by_cases hlt:i<kvs.length
 ·refine .inr ⟨⟨hlt,q⟩,Pv (i+ 1),λσ' H' p'=>⟨kvs.length-(i+ 1),by omega,rfl,hlt,p'⟩,λx H' y=>?_⟩;obtain⟨k,v,a,e1,e2,rfl,rfl⟩:=y;exact hs i k v a σ _ _ e1 p e2 (aF e2) aB
 ·have e:i=kvs.length:=by omega
  subst e;exact .inl ⟨⟨Yn _,q⟩,hd σ H p⟩
theorem afO{td:TE}{σ:St}{H:Hp}{R:It->Hp->Prop}(h:td σ H λx H1=>fzK Itm x H1 R):afp td σ H R:=h
theorem ac8{d:V}:([(("learnt":Yj),d)]:List (Yj×V)).lookup ("listed":Yj)=none:=by kernel_rfl
theorem afB{d:V}:([(("learnt":Yj),d)]:List (Yj×V)).lookup ("merge":Yj)=none:=by kernel_rfl
theorem alY{H:Hp}{Q:VK}{a c:Yc}{m:List (Int×Int)}(ha:Rd H a (.dK (dI m)))(hc:Rd H c (.dK []))(h:Q (.bl (!m.isEmpty)) H):aln (.ref a) (.ref c) H Q:=⟨a,c,m,rfl,rfl,ha,hc,h⟩
end L2
namespace GX
open PySem
section
variable{prog:YJ}{w:YV}{A:Y4}{E:Yd->Yh->Prop}{s:Yh}{K:Type}[DecidableEq K]{knd:rL prog w K}
end
end GX
namespace L2
open PySem PySem.Spec PyProof.Rows
section
variable{X:Cx}
end
end L2
namespace GX
open PySem PyProof.Rows
theorem aiY(a v d:Yd):ka "max" ⟨[a],[(af "key",v),(af "default",d)]⟩:=by unfold ka;kernel_rfl
end GX
namespace L2
open PySem PySem.Spec PyProof.Rows
variable{K:Ye}{te td:TE}
abbrev TLs(K:Ye)(H:Hp):List V->List Nat->Prop:=d3 λv n=>∃a ys,v=.ref a/\cN K H a ys/\ys.length=n
def aij(K:Ye)(te td:TE):TE:=λσ H Q=>te σ H λx H1=>td σ H1 λy H2=>∃l vs ns,x=.ref l/\bI K H2 l vs/\TLs K H2 vs ns/\(vs=[]->Q y H2)/\∀(i:Nat) v n,vs[i]?=Ya v->ns[i]?=Ya n->(∀j m,ns[j]?=Ya m->m<=n/\(j<i->m<n))->Q v H2
theorem gR{α β:Type}{F:α->β->Prop}:∀{l:List α} {m:List β} {i:Nat} {a:α},d3 F l m->l[i]?=Ya a->∃b,m[i]?=Ya b/\F a b:=by
 intro a b i x w
 induction w generalizing i with
 |nil=>exact λe=>by simp at e
 |cons r _ ih=>
  intro e;cases i with
  |zero=>simp at e;subst e;exact⟨_,rfl,r⟩
  |succ i=>
   obtain⟨p,h1,h2⟩:=ih (i:=i) (by simpa using e);exact⟨p,by simpa using h1,h2⟩
section
variable{X:Cx}
theorem adb{e dflt:YY}{p p2 pos k1 k2:hJ}(hK:X.K=K)(hc:X.calm=true)(ha:PA X [e] (Iz te K7))(hd:PE X dflt td)(hg:Gl X "max")(hm:X.mg "max"=Yb)(hgl:Gl X "len")(hml:X.mg "len"=Yb)(h1:dE pos (YO [e] X.env)=(false,aE e X.env)::dE pos (YO [] X.env):=by rfl)(h2:(dE pos (YO [e] X.env)).any (·.1)=false:=by rfl):
  PE X (.Call (.Name "max" p) [e] [⟨Ya "key",.Name "len" p2,k1⟩,⟨Ya "default",dflt,k2⟩] pos) (aij K te td):=by
 subst hK;intro pins s σ H Q I h;refine eL (wR I hg hm sT ?_);refine og ?_ h1 h2;refine dN (ha pos pins s σ H (λvs H1=>match vs with|[x]=>td σ H1 λy H2=>∃l vs ns,x=.ref l/\bI X.K H2 l vs/\TLs X.K H2 vs ns/\(vs=[]->Q y H2)/\∀(i:Nat) v n,vs[i]?=Ya v->ns[i]?=Ya n->(∀j m,ns[j]?=Ya m->m<=n/\(j<i->m<n))->Q v H2|_=>False) I h) λus s1 zz=>?_;obtain⟨vs,H1,I1,r1,q1⟩:=zz;obtain⟨x,rfl⟩:∃x,vs=[x]:=by
  match vs,q1 with
  |[x],_=>exact⟨x,rfl⟩
 obtain⟨u,rfl,rx⟩:=j0 r1;refine kq (wR I1 hgl hml dP ?_);refine kq (dN (hd pins s1 σ H1 _ I1 q1) λw s2 zz=>?_);obtain⟨y,H2,I2,ry,l,xs,ns,ex,hl,ht,q0,q⟩:=zz;subst ex;cases rx;refine tP ?_;obtain⟨its,rv,pl,hz⟩:=I2.list hl;have l63:=Nq;have lx:=rv.length;have ln:xs.length=ns.length:=bS ht;have lens:∀(i:Nat) v,its[i]?=Ya v->∃x n a ys,xs[i]?=Ya x/\ns[i]?=Ya n/\x=.ref a/\v=.ref a/\cN X.K H2 a ys/\ys.length=n:=by
  intro i v e;have hi:i<xs.length:=by rw[lx];exact(Yp.mp e).1
  obtain⟨n,hn,a,ys,ea,hs,hl⟩:=gR ht (Yo hi);obtain⟨u,hu,ru⟩:=rv.get (Yo hi);rw[e]at hu;cases hu;rw[ea]at ru;exact⟨_,n,a,ys,Yo hi,hn,ea,ru,hs,hl⟩
 show Ym _ _ (call (.builtin "max") [Y0 l] [(af "key",.builtin "len"),(af "default",w)]) _ _ _;refine GX.Ny GX.acR GX.aeV PySem.F.entry_max_loop PySem.F.plain_max_loop (ko:=Ya (.builtin "len")) (d:=Ya w) (I2.ok.hd hc) rfl (GX.aiY _ _ _) pl.isList
  (λi j=>decide (((ns.getD i 0:Nat):Int)>((ns.getD j 0:Nat):Int))) (λi=>by simp) (λi j h=>by simp at h⊢;omega) (λa b c h h2=>by simp at h h2⊢;omega) (λi v=>∃t,v=.int ((ns.getD i 0:Nat):Int) t) ?_ ?_ ?_ ?_
 ·intro i v h tk hv G;obtain⟨x,n,a,ys,hx,hn,rfl,rfl,hs,hl⟩:=lens i v hv;obtain⟨its2,r2,tp,hz2⟩:=I2.tuple hs;have l2:=r2.length;refine len_tuple (s:={s2 with heap:=h,toks:=tk}) (tp.keeps G) (by simp only[Yx]<;>omega) (And.intro ⟨_,congrArg (jS · _) ?_⟩ ⟨_,rfl⟩);rw[Yx,←r2.length,hl,YU,hn];rfl
 ·exact λi j k k' h tk hk hk' G Q q=>CmpOf.ints_gt (P:=λi v=>∃t,v=.int ((ns.getD i 0:Nat):Int) t) (λi=>((ns.getD i 0:Nat):Int)) (λ_ _ z=>z) j i _ _ _ _ _ hk hk' q
 ·exact λe=>⟨w,rfl,λh tk G=>⟨y,H2,I2.kept (t':=tk) G,ry,q0 (dA (by rw[lx,e];rfl))⟩⟩
 ·intro i v h tk hv ft G;obtain⟨x,n,a,ys,hx,hn,rfl,rfl,hs,hl⟩:=lens i v hv;refine⟨.ref a,H2,I2.kept (t':=tk) G,rfl,q i _ n hx hn λj m hm=>?_⟩;have b:=ft j (by have:=(Yp.mp hm).1;omega);simp only[YU,hn,hm,EZ,decide_eq_false_iff_not,decide_eq_true_eq]at b;omega
end
theorem akF{σ:St}{H:Hp}{Q:VK}(h:te σ H λx H1=>td σ H1 λy H2=>∃l vs ns,x=.ref l/\bI K H2 l vs/\TLs K H2 vs ns/\(vs=[]->Q y H2)/\∀(i:Nat) v n,vs[i]?=Ya v->ns[i]?=Ya n->(∀j m,ns[j]?=Ya m->m<=n/\(j<i->m<n))->Q v H2):aij K te td σ H Q:=h
end L2
namespace HT
open PySem PyProof.Rows
theorem ad7(A:Y4)(s:Yh)(a:Int)(t:l7)(c:Int)(u:l7)(prog:YJ)(w:YV)(E:Yd->Yh->Prop)(Q:Yd->Yh->Prop)(h:Q (.bool (decide (c<a))) s):
  Ym (Ys prog w) A (vc .Gt (.int a t) (.int c u)) Q E s:=
 (HM h:Ym (Ys prog w) A (bX .Gt (.int a t) (.int c u)) Q E s)
section
open PySem.SeqAt
open PySem.AutoSeq1 (wpAny_loadPart')
open PySem.MeetsSeq PySem.MeetsSeq2 PySem.MeetsSeq3
theorem O9(l b:Yc)(items items2:Array Yd)(n n2:Nat)(dd dd2:Option Yc)(sl sl2:Array (Option Yd))(ns ms:List Int)(hi:bg items.toList ns)(hj:bg items2.toList ms):
  ox (cg.«tuple.__gt__» ⟨[.ref l,.ref b],[]⟩)
   (λ_ R s=>s.heap.get? l=Ya {cls:=.type "tuple",dict:=dd,data:=.seq items n,slots:=sl}/\s.heap.get? b=Ya {cls:=.type "tuple",dict:=dd2,data:=.seq items2 n2,slots:=sl2}/\
    R (.ok (.ret (.bool (eE ms ns)))) s):=
 .of_wp λprog w A R s h=>by
  obtain⟨hp,g,d,tk,os⟩:=s;obtain⟨hl,hb,h⟩:=h;have f2:=AutoSeq1.sub_tuple_tuple;have z1:items.size=ns.length:=by rw[←hi.length];simp
  have z2:items2.size=ms.length:=by rw[←hj.length];simp
  wp_walk using tF hl,tF hb,ER _ (λrest b s'=>b.1=Yb/\s'=⟨hp,g,d,tk,os⟩/\∃(vs ws:List Yd) (ns' ms':List Int),rest=vs.zip ws/\
   bg vs ns'/\bg ws ms'/\ns'.length+ items2.size=ms'.length+ items.size/\R (.ok (.ret (.bool (eE ms' ns')))) ⟨hp,g,d,tk,os⟩) _
  case turn=>
   rintro⟨y,x⟩ rest b s' ⟨hb',rfl,vs,ws,ns',ms',hz,hvi,hwi,hlen,hR⟩;cases hvi with
   |nil=>rw[DV]at hz;cases hz
   |cons a t hvi'=>
    cases hwi with
    |nil=>rw[CH]at hz;cases hz
    |cons c u hwi'=>
     rw[qr]at hz;injection hz with hyx hrest;injection hyx with hy hx;subst hy hx;rw[jU]at hR;simp only[YT]at hlen;obtain⟨e,he,hiff⟩:=WP A.in1 ⟨hp,g,d,tk,os⟩ a t c u;refine Yf (he prog w _ _ ?_);cases e with
     |true=>
      rw[if_pos (hiff.mp rfl).symm]at hR
      wp_walk
      exact⟨rfl,rfl,_,_,_,_,hrest,hvi',hwi',by omega,hR⟩
     |false=>
      rw[if_neg (λq=>absurd (hiff.mpr q.symm) YS)]at hR;have hri:=ad7 A.in1 ⟨hp,g,d,tk,os⟩ a t c u prog w
      wp_walk using hri
      exact⟨_,rfl,by simpa using hR⟩
  case fin=>
   rintro⟨b1,b2⟩ s' ⟨hb',rfl,vs,ws,ns',ms',hz,hvi,hwi,hlen,hR⟩;simp only at hb';subst hb';have hv:eE ms' ns'=decide (items2.size<items.size):=by
    cases hvi with
    |nil=>
     cases hwi with
     |nil=>
      simp only[eJ]at hlen;rw[uH];exact(decide_eq_false (by omega)).symm
     |cons c u hw=>
      simp only[eJ,YT]at hlen;rw[zf];exact(decide_eq_false (by omega)).symm
    |cons a t hv=>
     cases hwi with
     |nil=>
      simp only[eJ,YT]at hlen;rw[Ac];exact(decide_eq_true (by omega)).symm
     |cons c u hw=>
      rw[qr]at hz;cases hz
   rw[hv]at hR
   wp_walk
   exact⟨_,rfl,by simpa [sZ]using hR⟩
  case h=>
   exact⟨rfl,rfl,items.toList,items2.toList,ns,ms,rfl,hi,hj,by omega,h⟩
end
section
variable{prog:YJ}{w:YV}{A:Y4}{E:Yd->Yh->Prop}{s:Yh}
theorem aak{l b:Yc}{items items2:Array Yd}{ns ms:List Int}{Q:Yd->Yh->Prop}(hl:zo s.heap l items)(hb:zo s.heap b items2)(hi:bg items.toList ns)(hj:bg items2.toList ms)
  (hu:A.units<fm) (h:Q (.bool (eE ms ns)) s):Ym (Ys prog w) A (bX .Gt (.ref l) (.ref b)) Q E s:=by
 obtain⟨⟨cls,dd,data,sl⟩,ho,hc,n,hd⟩:=id hl;obtain⟨⟨cls2,dd2,data2,sl2⟩,ho2,hc2,n2,hd2⟩:=id hb;simp only at hc hd hc2 hd2;subst hc hd hc2 hd2;exact AA (op:=.Gt) ⟨_,ho,rfl⟩ ⟨_,ho2,rfl⟩ PySem.F.slot_tuple_gt PySem.F.entry_tuple_gt (PySem.F.args_tuple_gt_2 _ _) (O9 l b items items2 n n2 dd dd2 sl sl2 ns ms hi hj)
  ⟨ho,ho2,show ti (eE ms ns)≠BH/\Q (.bool (eE ms ns)) s from⟨(λx=>nomatch x),h⟩⟩ hu
end
end HT
namespace L2
open PySem PySem.Spec PyProof.Rows
section
variable{X:Cx}
def am0(K:Ye):R2:=λx y H Q=>∃a b ns ms,x=.ref a/\y=.ref b/\cN K H a (ns.map V.int)/\cN K H b (ms.map V.int)/\Q (.bl (HT.eE ms ns)) H
theorem aj8{K:Ye}(hK:X.K=K)(hu:X.A.units<fm):yV X (bX .Gt) (am0 K):=by
 subst hK;intro pins s σ H x y v u Q I rx ry h;obtain⟨a,b,ns,ms,rfl,rfl,ha,hb,q⟩:=h;cases rx;cases ry;obtain⟨its,r1,p1,_⟩:=I.tuple ha;obtain⟨its2,r2,p2,_⟩:=I.tuple hb;have i1:bg its.toArray.toList ns:=mj r1;have i2:bg its2.toArray.toList ms:=mj r2;exact HT.aak p1 p2 i1 i2 hu ⟨.bl (HT.eE ms ns),H,I,rfl,q⟩
end
noncomputable def CQ(me hd ba ye vo re ag:V):List (Yj×V):=[("me",me),("hands",hd),("ballot",ba),("yes",ye),("votes",vo),("reports",re),("agreed",ag)]
structure Uk(K:Ye)(C:Yc):Prop where
 cl:QL K C
 n1:bY K C "me"
 n2:bY K C "hands"
 n3:bY K C "ballot"
 n4:bY K C "yes"
 n5:bY K C "votes"
 n6:bY K C "reports"
 n7:bY K C "agreed"
section
variable{me hd ba ye vo re ag v:V}
theorem agB:cU "agreed" ag (cU "reports" re (cU "votes" vo (cU "yes" ye (cU "ballot" ba (cU "hands" hd (cU "me" me []))))))=CQ me hd ba ye vo re ag:=by kernel_rfl
theorem ab0:cU "ballot" v (CQ me hd ba ye vo re ag)=CQ me hd v ye vo re ag:=by kernel_rfl
theorem abK:cU "yes" v (CQ me hd ba ye vo re ag)=CQ me hd ba v vo re ag:=by kernel_rfl
theorem Lp:cU "votes" v (CQ me hd ba ye vo re ag)=CQ me hd ba ye v re ag:=by kernel_rfl
theorem abI:cU "reports" v (CQ me hd ba ye vo re ag)=CQ me hd ba ye vo v ag:=by kernel_rfl
theorem ag7:cU "agreed" v (CQ me hd ba ye vo re ag)=CQ me hd ba ye vo re v:=by kernel_rfl
theorem akq:(CQ me hd ba ye vo re ag).lookup ("me":Yj)=Ya me:=by kernel_rfl
theorem adm:(CQ me hd ba ye vo re ag).lookup ("hands":Yj)=Ya hd:=by kernel_rfl
theorem X3:(CQ me hd ba ye vo re ag).lookup ("ballot":Yj)=Ya ba:=by kernel_rfl
theorem ahe:(CQ me hd ba ye vo re ag).lookup ("yes":Yj)=Ya ye:=by kernel_rfl
theorem acB:(CQ me hd ba ye vo re ag).lookup ("votes":Yj)=Ya vo:=by kernel_rfl
theorem Vk:(CQ me hd ba ye vo re ag).lookup ("reports":Yj)=Ya re:=by kernel_rfl
theorem aai:(CQ me hd ba ye vo re ag).lookup ("agreed":Yj)=Ya ag:=by kernel_rfl
theorem acx:(CQ me hd ba ye vo re ag).lookup ("begin":Yj)=none:=by kernel_rfl
theorem Ww:(CQ me hd ba ye vo re ag).lookup ("message":Yj)=none:=by kernel_rfl
theorem Wq:(CQ me hd ba ye vo re ag).lookup ("receive":Yj)=none:=by kernel_rfl
theorem Nz:(CQ me hd ba ye vo re ag).lookup ("see_ballot":Yj)=none:=by kernel_rfl
theorem W7:(CQ me hd ba ye vo re ag).lookup ("see_yes":Yj)=none:=by kernel_rfl
theorem Qc:(CQ me hd ba ye vo re ag).lookup ("see_votes":Yj)=none:=by kernel_rfl
theorem U3:(CQ me hd ba ye vo re ag).lookup ("gathers":Yj)=none:=by kernel_rfl
theorem W6:(CQ me hd ba ye vo re ag).lookup ("settled":Yj)=none:=by kernel_rfl
theorem ahZ:(CQ me hd ba ye vo re ag).length<1000:=by show 7<1000;decide
end
theorem ag3{tk tv:TE}{σ:St}{H:Hp}{Q:VK}(h:∀p,H p=Yb->tk σ (upd H p (.dK [])) λx H1=>tv σ H1 λy H2=>H2 p=Ya (.dK [])/\∃kvs:List (dC×V),[(x,y)]=kvs.map (λkv=>(kV kv.1,kv.2))/\kvs.length<=15/\Q (.ref p) (upd H2 p (.dK (lF [] kvs)))):aiw [(tk,tv)] σ H Q:=h
end L2
namespace GX
open PySem PyProof.Rows
variable{prog:YJ}{w:YV}{A:Y4}{n:Nat}{b:Yc}
section
variable{R:pf->Yh->Prop}{I d:Yc}{fp wr:List Yc}{P:Nat->Yd->Prop}{St:Nat->YR->Prop}{K:Type}[DecidableEq K]{knd:rL prog w K}
noncomputable def qm(kx:List (List K×Yc×Yd)):List (List K×Yc×Yd):=kx.foldl (λacc p=>ny acc p.1 p.2.1 p.2.2) []
theorem Uj(kx:List (List K×Yc×Yd))(p:List K×Yc×Yd):qm (kx++[p])=ny (qm kx) p.1 p.2.1 p.2.2:=by
 unfold qm;rw[EF];rfl
theorem Xb{xs:List (List K×Yc×Yd)}{k:List K}{v:Yd}{x:List K×Yc×Yd}(h:x∈ny xs k b v):(∃y∈xs,y.1=x.1/\y.2.1=x.2.1)∨x=(k,b,v):=by
 unfold ny at h;by_cases z:(xh xs k).isSome=true
 ·rw[if_pos z]at h;obtain⟨y,hy,e⟩:=YF.mp h;refine .inl ⟨y,hy,?_⟩;rw[←e];unfold putAt;split<;>exact⟨rfl,rfl⟩
 ·rw[if_neg z]at h;rcases ai.mp h with q|q
  ·exact .inl ⟨x,q,rfl,rfl⟩
  ·exact .inr (Yy.mp q)
theorem VJ(xs:List (List K×Yc×Yd))(k:List K)(b:Yc)(v:Yd):(ny xs k b v).length<=xs.length+ 1:=by
 unfold ny;split
 ·rw[Yi];omega
 ·rw[YG];exact Yn _
theorem BV{G:List K->Yc->Prop}:∀(kx acc:List (List K×Yc×Yd)),(∀x∈acc,G x.1 x.2.1)->(∀p∈kx,G p.1 p.2.1)->(∀x∈kx.foldl (λacc p=>ny acc p.1 p.2.1 p.2.2) acc,G x.1 x.2.1)/\(kx.foldl (λacc p=>ny acc p.1 p.2.1 p.2.2) acc).length<=acc.length+ kx.length
 |[],acc,ha,_=>⟨ha,Yn _⟩
 |p::kx,acc,ha,h=>by
  have hp:=h p Yl;have:=BV (G:=G) kx (ny acc p.1 p.2.1 p.2.2) (λx hx=>by
   rcases Xb hx with⟨y,hy,e1,e2⟩|e
   ·have:=ha y hy;rw[e1,e2]at this;exact this
   ·rw[e];exact hp) (λq hq=>h q (Yk _ hq))
  refine⟨this.1,?_⟩;have l:=VJ acc p.1 p.2.1 p.2.2;have l2:=this.2;simp only[kg,YT];omega
theorem Xo{h h':YR}{k:List K}(x:oT knd h k b)(e:∀o,h.get? b=Ya o->h'.get? b=Ya o):oT knd h' k b:=by
 obtain⟨o,items,n,ho,r⟩:=x;exact⟨o,items,n,e o ho,r⟩
def DT(knd:rL prog w K)(h:YR)(d:Yc)(xs:List (List K×Yc×Yd)):Prop:=∃o es ep,h.get? d=Ya o/\o.ExactDict/\o.data=.dict es ep/\es.toList=xs.map (Bz (j1 knd))/\(xs.map (·.1)).Nodup
theorem acJ(W:zI prog w A.in1 I fp wr n P St)(nd:d∉fp)(h₀:YR)(kx:List (List K×Yc×Yd))(hn:kx.length=n)(hz:n<=YB)(hu:(j1 knd).room A.in1)
  (hK:∀p∈kx,oT knd h₀ p.1 p.2.1/\p.2.1≠d/\p.2.1∉wr)
  (hP:∀i v,P i v->∃a k b x o c,v=.ref a/\kx[i]?=Ya (k,b,x)/\h₀.get? a=Ya o/\o.cls=.type "tuple"/\o.data=.seq #[.ref b,x] c/\a≠d/\a∉wr):
  ∀(k i:Nat) (s:Yh) (t:l7),n=i+ k->St i s.heap->(∀b o,b∉wr->b≠d->h₀.get? b=Ya o->s.heap.get? b=Ya o)->DT knd s.heap d (qm (kx.take i))->
  (∀h' tk,(∀b o,b∉wr->b≠d->h₀.get? b=Ya o->h'.get? b=Ya o)->DT knd h' d (qm kx)->R (.ok (.ret .none)) {s with heap:=h',toks:=tk})->
  de (Ys prog w) A (.builtin "dict.update.loop" ⟨[.ref d,.ref I,.int i t,.none],[]⟩) R s:=by
 have nw:d∉wr:=λz=>nd (W.sub _ z);have isAt:∀(h:YR) (j:Nat),(∀b o,b∉wr->b≠d->h₀.get? b=Ya o->h.get? b=Ya o)->∀x∈qm (kx.take j),oT knd h x.1 x.2.1:=λh j kp=>(BV (G:=λk b=>oT knd h k b) (kx.take j) [] (λx hx=>(nomatch hx)) (λp hp=>by
  obtain⟨q1,q2,q3⟩:=hK p (pe hp);exact Xo q1 λo e=>kp _ o q3 q2 e)).1
 intro k i s t en st kp dd fin;refine afa (D:=λi h=>(∀b o,b∉wr->b≠d->h₀.get? b=Ya o->h.get? b=Ya o)/\DT knd h d (qm (kx.take i))) W nd ?_ ?_ k i s t en st ⟨kp,dd⟩ λh tk q=>fin h tk q.1 ?_
 ·rintro i h h' ⟨kp,od,es,ep,ho,r⟩ q;exact⟨λb o nb nb' e=>q b o nb (kp b o nb nb' e),od,es,ep,q d od nw ho,r⟩
 ·rintro i v s pv ⟨kp,od,es,ep,ho,r1,r2,r3,r4⟩;obtain⟨a,k,b,x,o,c,rfl,hx,ha,hc,hd,na,naw⟩:=hP i v pv;obtain⟨q1,q2,q3⟩:=hK _ (YE hx);have len:=(BV (G:=λ_ _=>True) (kx.take i) [] (λ_ _=>trivial) λ_ _=>trivial).2;refine⟨a,o,.ref b,x,c,rfl,kp a o naw na ha,hc,hd,λQ q=>wpAny_dictSet_heap (knd:=j1 knd) hu (Xo q1 λo e=>kp _ o q3 q2 e) ⟨od,es,ep,ho,r1,r2,r3,isAt s.heap i kp,r4⟩ (λh2 d2 sb=>q h2 ⟨λb o nb nb' e=>(sb.2 b nb').trans (kp b o nb nb' e),?_⟩ sb.2 _) (dy len (by rw[ae,eJ];omega))⟩;obtain⟨od,es,ep,ho,r1,r2,r3,_,r4⟩:=d2;rw[AZ,hx,Option.toList_some,Uj];exact⟨od,es,ep,ho,r1,r2,r3,r4⟩
 ·have z:=q.2;rwa [←hn,Y5]at z
end
section
variable{E:Yd->Yh->Prop}{s:Yh}{K:Type}[DecidableEq K]{knd:rL prog w K}
theorem Qm{l:Yc}{vs:List Yd}{kx:List (List K×Yc×Yd)}{Q:Yd->Yh->Prop}(hA:A.handled=Yb)(hu:(j1 knd).room A.in1.in1)(hl:s.heap.get? l=Ya {cls:=.type "list",dict:=Yb,data:=.seq vs.toArray n,slots:=#[]})(hz:vs.length<=YB)(hlen:kx.length=vs.length)(hK:∀p∈kx,oT knd s.heap p.1 p.2.1)(hP:∀(i:Nat) v,vs[i]?=Ya v->∃a k b x o c,v=.ref a/\kx[i]?=Ya (k,b,x)/\s.heap.get? a=Ya o/\o.cls=.type "tuple"/\o.data=.seq #[.ref b,x] c)(h:∀h' tk,(∀b o,s.heap.get? b=Ya o->h'.get? b=Ya o)->DT knd h' s.heap.objs.size (qm kx)->Q (.ref s.heap.objs.size) {s with heap:=h',toks:=tk}):
  Ym (Ys prog w) A (call (.type "dict") [.ref l]) Q E s:=by
 have hl':(adW s.heap).get? l=Ya {cls:=.type "list",dict:=Yb,data:=.seq vs.toArray n,slots:=#[]}:=Yg _ hl;refine Ml (T:="list") ⟨_,hl',rfl⟩ (by decide) (acq hA hl' λh1 tk1 k1=>⟨rfl,?_⟩);have hl1:=k1 l _ hl';have lt1:l<h1.objs.size:=Yu hl1;have ld:l<s.heap.objs.size:=Yu hl;have il:h1.IsList l vs.toArray:=⟨_,hl1,rfl,n,rfl⟩;have d1:DT knd h1 s.heap.objs.size []:=by
  obtain⟨od,es,ep,ho,r1,r2,r3,_,r4⟩:=Heap.DictOfH.new (knd:=j1 knd) s.heap;exact⟨od,es,ep,k1 _ _ ho,r1,r2,r3,r4⟩
 have dlt:s.heap.objs.size<h1.objs.size:=by
  obtain⟨od,es,ep,ho,r⟩:=d1;exact Yu ho
 have hI:∀{b:Yc},b<h1.objs.size->b≠h1.objs.size:=λz=>YH z;have nw:∀{b:Yc},b<s.heap.objs.size->b∉[h1.objs.size]:=fun{b} hb z=>by
  have z':b=h1.objs.size:=by simpa using z
  exact absurd (xB hb dlt) (by rw[z'];exact Y2 _)
 refine gx (s:={s with heap:=h1,toks:=tk1}) il ?_;have W:=xi (prog:=prog) (w:=w) (A:=A.in1.in1) hA h1.objs.size l (hI lt1) vs.toArray;refine acJ (A:=A.in1) (knd:=knd) W (d:=s.heap.objs.size) ?_ s.heap kx (by rw[hlen,Yx]) (by rw[Yx];exact hz) hu (λp hp=>?_) (λi v hv=>?_) vs.toArray.size 0 _ 0 (by omega)
  ⟨⟨_,Yq _ rfl,rfl,rfl⟩,il.push _⟩ (λb o _ nb e=>Yg _ (k1 b o (Yg _ e))) ?_ λh2 tk2 k2 d2=>?_
 ·intro z;have z':s.heap.objs.size=h1.objs.size∨s.heap.objs.size=l:=by simpa using z
  rcases z' with z'|z'
  ·exact absurd dlt (by rw[z'];exact Y2 _)
  ·exact absurd ld (by rw[z'];exact Y2 _)
 ·have q:=hK p hp;obtain⟨o,items,m,ho,r⟩:=id q;exact⟨q,YH (Yu ho),nw (Yu ho)⟩
 ·obtain⟨a,k,b,x,o,c,e1,e2,e4,e5,e6⟩:=hP i v (by simpa using hv);exact⟨a,k,b,x,o,c,e1,e2,e4,e5,e6,YH (Yu e4),nw (Yu e4)⟩
 ·obtain⟨od,es,ep,ho,r⟩:=d1;exact⟨od,es,ep,Yg _ ho,r⟩
 ·exact⟨rfl,h h2 tk2 (λb o e=>k2 b o (nw (Yu e)) (YH (Yu e)) e) d2⟩
end
end GX
namespace L2
open PySem PySem.Spec PyProof.Rows
variable{X:Cx}{pins:List (Yc×Y3)}{σ:St}{H:Hp}{s:Yh}{l f a:Yc}{xs:List V}{its vs:List Yd}{ks:List (List Int)}{k n:Nat}{fd:Yt}{ps:List Yj}{sp:Sp}{Q E:Yd->Yh->Prop}{A:Y4}{K:Ye}{e:YY}{te td:TE}{p:Array Nat}{p2 pos k1:hJ}{fx:Yj}{prog:YJ}{w:YV}{P:CM->Yh->Prop}{b:Bool}
abbrev amE(H:Hp):List V->List (List dC×V)->Prop:=d3 λx q=>∃a b,x=.ref a/\H a=Ya (.tup [.ref b,q.2])/\H b=Ya (.tup (q.1.map kV))
noncomputable def uy(ps:List (List dC×V)):List (List dC×V):=ps.foldl (λacc p=>ql acc p.1 p.2) []
section
theorem acw(I:bw X pins σ H s):∀{xs:List V} {us:List Yd} {ps:List (List dC×V)},amE H xs ps->Vals xs us->
  ∃kx:List (List dC×Yc×Yd),d3 (fun(p:List dC×V) (q:List dC×Yc×Yd)=>p.1=q.1/\H q.2.1=Ya (.tup (p.1.map kV))/\RelV p.2 q.2.2) ps kx/\kx.length=us.length/\∀(i:Nat) v,us[i]?=Ya v->∃a k b x o c,v=.ref a/\kx[i]?=Ya (k,b,x)/\s.heap.get? a=Ya o/\o.cls=.type "tuple"/\o.data=.seq #[.ref b,x] c:=by
 intro xs us ps w
 induction w generalizing us with
 |nil=>
  intro w;cases w;exact⟨[],.nil,rfl,λi v e=>by simp at e⟩
 |@cons x p xs ps h t ih=>
  intro w;cases w with|cons r q=>
  rename_i u us;obtain⟨kx,k1,k2,k3⟩:=ih q;obtain⟨a,b,rfl,ha,hb⟩:=h;obtain rfl:u=Y0 a:=r;obtain⟨_,its,rv,o,ho,hc,n,hd,_⟩:[V.ref b,p.2].length<=YB/\∃its:List Yd,Vals [V.ref b,p.2] its/\ut s.heap a its.toArray:=I.hok a _ ha;obtain⟨u1,u2,rfl,r1,r2⟩:=Xk rv;obtain rfl:u1=Y0 b:=r1;refine⟨(p.1,b,u2)::kx,.cons ⟨rfl,hb,r2⟩ k1,congrArg (·+ 1) k2,λi v e=>?_⟩;cases i with
  |zero=>
   have e':Y0 a=v:=YL e;subst e';exact⟨a,p.1,b,u2,o,n,rfl,rfl,ho,hc,hd⟩
  |succ i=>exact k3 i v e
theorem agv:∀{ps:List (List dC×V)} {kx:List (List dC×Yc×Yd)},d3 (fun(p:List dC×V) (q:List dC×Yc×Yd)=>p.1=q.1/\H q.2.1=Ya (.tup (p.1.map kV))/\RelV p.2 q.2.2) ps kx->∀{acc:List (List dC×V)} {xs:List (List dC×Yc×Yd)},KT H acc xs->
  KT H (ps.foldl (λacc p=>ql acc p.1 p.2) acc) (kx.foldl (λacc p=>ny acc p.1 p.2.1 p.2.2) xs):=by
 intro ps kx w
 induction w with
 |nil=>exact λh=>h
 |@cons p q ps kx w t ih=>
  obtain⟨e1,e2,e3⟩:=w;intro acc xs h;rw[kg,kg];refine ih ?_;rw[←e1];exact h.put p.1 e2 e3
theorem aal(ps:List (List dC×V)):∀acc:List (List dC×V),(ps.foldl (λacc p=>ql acc p.1 p.2) acc).length<=acc.length+ ps.length:=by
 induction ps with
 |nil=>intro acc;exact Yn _
 |cons p ps ih=>
  intro acc;have h1:=ih (ql acc p.1 p.2);have h2:=tQ acc p.1 p.2;simp only[kg,YT];omega
theorem zc(hc:X.calm=true)(hu:X.A.units+ 2<fm):iZ X (.type "dict") (λxs H Q=>∃(a:Yc) (ys:List V) (ps:List (List dC×V)),xs=[.ref a]/\H a=Ya (.lst ys)/\amE H ys ps/\ps.length<=1000/\∀p,H p=Yb->Q (.ref p) (upd H p (.dT (uy ps)))):=by
 intro pins s σ H xs us Q I r h;obtain⟨a,ys,ps,rfl,ha,hp,hl,q⟩:=h;obtain⟨u,rfl,rx⟩:=j0 r;cases rx;obtain⟨z,its,n,rv,hlen,e⟩:=I.lstM ha;obtain⟨kx,k1,k2,k3⟩:=acw I hp rv;have hK:∀p∈kx,oT (bK X.prog X.w) s.heap p.1 p.2.1:=by
  have all:∀{l:List (List dC×V)} {m:List (List dC×Yc×Yd)},d3 (fun(p:List dC×V) (q:List dC×Yc×Yd)=>p.1=q.1/\H q.2.1=Ya (.tup (p.1.map kV))/\RelV p.2 q.2.2) l m->∀x∈m,oT (bK X.prog X.w) s.heap x.1 x.2.1:=by
   intro l m q
   induction q with
   |nil=>intro x hx;exact nomatch hx
   |@cons a b as bs h t ih=>
    intro x hx;rcases YC.mp hx with z|z
    ·rw[z,←h.1];exact key_of I.hok h.2.1
    ·exact ih x z
  exact all k1
 refine GX.Qm (knd:=bK X.prog X.w) (I.ok.hd hc) ?_ e (by rw[←hlen];exact z) k2 hK k3 λh' tk kp dd=>?_
 ·exact hu
 have I0:bw X pins σ H {s with heap:=h',toks:=tk}:=I.kept kp;obtain⟨o,es,ep,ho,r1,r2,r3,r4⟩:=dd;refine⟨.ref s.heap.objs.size,_,I.laid (o:=.dT (uy ps)) (t':=tk) kp (Yn _) ⟨?_,beq_eq_false_iff_ne.mpr (Ne.symm (YH I.big)),GX.qm kx,?_,o,es,ep,ho,r1,r2,r3,r4⟩,rfl,q _ (I.hok.fresh (Yn _))⟩
 ·have:=aal ps [];rw[eJ]at this;exact Y7 (aU (by unfold uy;omega))
 ·refine(agv k1 .nil).keeps λc zs ec=>?_;rw[aK (aP ec (I.hok.fresh (Yn _)))];exact ec
end
noncomputable abbrev Cx.one(X:Cx):Cx:={X with A:=X.A.in1,xe:=λ_ _=>False}
section
theorem bw.one(I:bw X pins σ H s):bw X.one pins σ H s:=
 ⟨⟨I.ok.mod,I.ok.kind,I.ok.glob,I.ok.blt,I.ok.above,I.ok.inj,I.ok.has,I.ok.cab,I.ok.hd,I.ok.frames,I.ok.stk,I.ok.exf,I.ok.bs,I.ok.bsz,I.ok.noex,I.ok.exfs,I.ok.funs,I.ok.frf⟩,I.os,I.bare,I.base,I.loc,I.cell,I.free,I.freeC,I.pin,I.hok,I.len⟩
theorem bw.back(ok:X.Ok)(I:bw X.one pins σ H s):bw X pins σ H s:=
 ⟨ok,I.os,I.bare,I.base,I.loc,I.cell,I.free,I.freeC,I.pin,I.hok,I.len⟩
end
theorem ab4:∀a:List Int,HT.eE a a=false
 |[]=>rfl
 |x::a=>by rw[HT.jU,if_pos rfl];exact ab4 a
theorem Us:∀{a b:List Int},HT.eE a b=true->HT.eE b a=false
 |[],[],h=>by cases h
 |[],_::_,_=>rfl
 |_::_,[],h=>by cases h
 |x::a,y::b,h=>by
  rw[HT.jU]at h⊢;by_cases z:x=y
  ·rw[if_pos z]at h;rw[if_pos z.symm];exact Us h
  ·rw[if_neg z]at h;rw[if_neg (λw=>z w.symm)];have h:=of_decide_eq_true h;exact decide_eq_false (by omega)
theorem abr:∀{a b c:List Int},HT.eE a b=true->HT.eE c b=false->HT.eE a c=true
 |[],[],_,h,_=>by cases h
 |_::_,[],_,h,_=>by cases h
 |[],_::_,[],_,h=>by cases h
 |[],_::_,_::_,_,_=>rfl
 |x::a,y::b,[],h,h2=>by cases h2
 |x::a,y::b,z::c,h,h2=>by
  rw[HT.jU]at h h2⊢;by_cases e1:x=y
  ·rw[if_pos e1]at h;by_cases e2:z=y
   ·rw[if_pos e2]at h2;rw[if_pos (e1.trans e2.symm)];exact abr h h2
   ·rw[if_neg e2]at h2;have h2:=of_decide_eq_false h2;rw[if_neg (λw=>e2 (w.symm.trans e1))];exact decide_eq_true (by omega)
  ·rw[if_neg e1]at h;have h:=of_decide_eq_true h;by_cases e2:z=y
   ·rw[if_neg (λw=>e1 (w.trans e2))];exact decide_eq_true (by omega)
   ·rw[if_neg e2]at h2;have h2:=of_decide_eq_false h2;rw[if_neg (by omega)];exact decide_eq_true (by omega)
section
theorem akC(a v d:Yd):ka "min" ⟨[a],[(af "key",v),(af "default",d)]⟩:=by unfold ka;kernel_rfl
theorem akb(d:Yd)(hh:X.A.handled=Yb)(hu:X.A.units+ 2<fm)(F:aG X.prog X.w X.K X.mg X.base bH k f fd ps sp)(hr:eQ k X.A.in1)(hb:Binds X.K fd ps [])(IV:bw X pins σ H s)(rv:Vals xs its)(lk:xs.length=ks.length)(lst:∀s H',bw X pins σ H' s->aO H H'->s.heap.IsList l its.toArray)(KY:∀(i:Nat) x k H3 (Q':VK),xs[i]?=Ya x->ks[i]?=Ya k->aO H H3->(∀H4 t,aO H3 H4->cN X.K H4 t (k.map V.int)->Q' (.ref t) H4)->sp [x] H3 Q' E0)(hD:xs=[]->∀s',bw X pins σ H s'->Q d s')(hR:∀(i:Nat) v kb s' H',its[i]?=Ya v->ks[i]?=Ya kb->(∀(j':Nat) k',ks[j']?=Ya k'->HT.eE k' kb=false/\(j'<i->HT.eE kb k'=true))->bw X pins σ H' s'->aO H H'->Q v s'):
  Ym (Ys X.prog X.w) X.A (call (.builtin "min") [.ref l] [(af "key",.ref f),(af "default",d)]) Q E s:=by
 have lx:=rv.length;have fp:∀x H',x=s.heap.objs.size∨x=s.heap.objs.size+ 1->H' x=Yb->Hv X pins H' x:=λx H' hx n=>IV.fpOk (by rcases hx with rfl|rfl<;>omega) n;refine GX.QG GX.Qt GX.VM AE AF (ko:=Ya (.ref f)) (d:=Ya d) (vs:=its) hh rfl (akC _ _ _) (lst s H IV (.refl _)) (bt:=λi j=>HT.eE (ks.getD i []) (ks.getD j []))
  (G:=λL s'=>∃H',bw X pins σ H' s'/\(aO H H'/\(L=[]->H'=H))/\(∀x,x=s.heap.objs.size∨x=s.heap.objs.size+ 1->H' x=Yb)/\∀p∈L,∃t k,p.2=.ref t/\ks[p.1]?=Ya k/\cN X.K H' t (k.map V.int))
  ⟨λi=>ab4 _,λi j=>Us,λa b c=>abr,?_,?_,?_,?_,?_,?_⟩ ?_ ?_ ?_
 ·exact λp q L s' ⟨H',a,b,c,e⟩=>⟨H',a,⟨b.1,λz=>nomatch z⟩,c,λq hq=>e q (Yk _ hq)⟩
 ·exact λp L s' ⟨H',a,b,c,e⟩=>⟨H',a,⟨b.1,λz=>nomatch z⟩,c,λq hq=>e q (Yy.mp hq▸Yl)⟩
 ·rintro x L s' h tk hx ⟨H',a,b,c,e⟩ kp;obtain⟨f0,f1,f2,f3,f4,f5⟩:=fp x H' hx (c x hx);exact⟨H',a.turned (it:=x) kp f0 f1 f3 f4 f5,b,c,e⟩
 ·exact λL s' ⟨H',a,b,_⟩=>lst s' H' a b.1
 ·rintro L s' j v a c m ⟨H',I1,⟨sm,_⟩,nn,hL⟩ hv hS hI;obtain⟨oI,gI,cI,dI⟩:=id hI;have hx:j<xs.length:=by have:=(Yp.mp hv).1;omega
  obtain⟨v',hv',rx⟩:=rv.get (Yo hx);cases hv.symm.trans hv';have hk:ks[j]?=Ya (ks[j]'(lk▸hx)):=Yo _;have pl:∀b∈[s.heap.objs.size+ 1,s.heap.objs.size],b=s.heap.objs.size∨b=s.heap.objs.size+ 1:=λb hb=>by simp at hb;exact hb.symm
  have IP:=I1.pinned (fp:=[s.heap.objs.size+ 1,s.heap.objs.size]) (λb hb=>fp b H' (pl b hb) (nn b (pl b hb))) λb hb=>by
   rcases pl b hb with rfl|rfl
   ·exact⟨oI,gI,λz e=>by rw[dI]at e;cases e⟩
   ·exact⟨_,hS,λz e=>nomatch e⟩
  refine ax (Ak (X:=X.one) (vs:=[xs[j]]) (us:=[v]) (Q:=λz H4=>∃t,z=.ref t/\aO H' H4/\cN X.K H4 t ((ks[j]'(lk▸hx)).map V.int)) (E:=E0) (dvs:=[]) (ds:=[]) F hr hb .nil (λ_ _ _ _ _ _ _ q=>q.elim) IP.one (.cons rx .nil) (by
   rw[cy];exact KY j _ _ H' _ (Yo hx) hk sm λH4 t s4 h4=>⟨t,rfl,s4,h4⟩)) ?_ λ_ _ q=>q.elim
  rintro u s2 ⟨z,H4,I4,rz,t,rfl,s4,ht⟩;cases rz;have I4:=bw.back IV.ok I4;have at_:∀b o,b∈[s.heap.objs.size+ 1,s.heap.objs.size]->s'.heap.get? b=Ya o->s2.heap.get? b=Ya o/\H4 b=none:=λb o hb e=>
   let r:=I4.pin (b,o) (YW _ (YW _ (ni hb e)))
   ⟨r.1,r.2.1⟩
  have aS:=at_ _ _ (by simp) hS;have aI:=at_ _ _ (by simp) gI;refine⟨⟨H4,I4.unpinned,⟨sm.trans s4,λz=>nomatch z⟩,λx hx=>?_,λp hp=>?_⟩,aS.1,oI,aI.1,cI,dI⟩
  ·rcases hx with rfl|rfl
   ·exact aI.2
   ·exact aS.2
  ·rcases YC.mp hp with rfl|hp
   ·exact⟨t,_,rfl,hk,ht⟩
   ·obtain⟨t',k',e1,e2,e3⟩:=hL p hp;exact⟨t',k',e1,e2,SmT.same s4 _ _ e3⟩
 ·rintro i j y y' s' ⟨H',I1,_,nn,hL⟩;obtain⟨t1,k1,rfl,e1,h1⟩:=hL (j,y) (by simp);obtain⟨t2,k2,rfl,e2,h2⟩:=hL (i,y') (by simp);obtain⟨ia,ra,pa,_⟩:=I1.tuple h1;obtain⟨ib,rb,pb,_⟩:=I1.tuple h2;refine HT.abi (A:=X.A.in1) pa pb (mj ra) (mj rb) (by show X.A.units+ 1<fm;omega) ⟨?_,rfl⟩;simp[YU,e1,e2]
 ·exact λh kp=>⟨H,IV.kept (t':=s.toks) kp,⟨.refl _,λ_=>rfl⟩,λx hx=>IV.hok.fresh (by rcases hx with rfl|rfl<;>omega),by simp⟩
 ·exact λe=>⟨d,rfl,λs' ⟨H',a,b,_⟩=>hD (dA (by rw[lx,e];rfl)) s' (b.2 rfl▸a)⟩
 ·rintro i v y s' hv ft ⟨H',I1,⟨sm,_⟩,nn,hL⟩;obtain⟨t,k',_,e1,_⟩:=hL (i,y) (by simp);refine hR i v k' s' H' hv e1 (λj k2 hj=>?_) I1 sm;have b:=ft j (by have:=(Yp.mp hj).1;omega);simpa [YU,e1,hj]using b
end
theorem eQ.one(r:eQ (k+ 1) A):eQ k A.in1:=⟨r.hd,by have:=r.dp;show A.depth+ 3*k+ 5<uS;omega,by have:=r.un;show A.units+ 1+ 16*k+ 200<fm;omega⟩
def aja(K:Ye)(sp:Sp)(x y:V)(H2:Hp)(Q:VK):Prop:=∃(l:Yc) (xs:List V) (ks:List (List Int)),x=.ref l/\bI K H2 l xs/\xs.length=ks.length/\(∀x∈xs,∃p,x=V.ref p)/\
 (∀(i:Nat) (x:V) (k:List Int) (H3:Hp) (Q':VK),xs[i]?=Ya x->ks[i]?=Ya k->aO H2 H3->(∀H4 t,aO H3 H4->cN K H4 t (k.map V.int)->Q' (.ref t) H4)->sp [x] H3 Q' E0)/\(xs=[]->Q y H2)/\
 ∀(i:Nat) (v:V) (kb:List Int) (H':Hp),xs[i]?=Ya v->ks[i]?=Ya kb->(∀(j':Nat) k',ks[j']?=Ya k'->HT.eE k' kb=false/\(j'<i->HT.eE kb k'=true))->aO H2 H'->Q v H'
def aiv(K:Ye)(sp:Sp)(te td:TE):TE:=λσ H Q=>te σ H λx H1=>td σ H1 λy H2=>aja K sp x y H2 Q
theorem adC:∀{xs:List V} {a b:List Yd},Vals xs a->Vals xs b->(∀x∈xs,∃p,x=V.ref p)->a=b:=by
 intro xs a b w
 induction w generalizing b with
 |nil=>
  intro w _;cases w;rfl
 |cons r1 t1 ih=>
  intro w h;cases w with|cons r2 t2=>
  obtain⟨p,rfl⟩:=h _ Yl;rw[ih t2 λy hy=>h y (Yk _ hy)];cases r1;cases r2;rfl
section
theorem acD{dflt:YY}{p k2:hJ}(hK:X.K=K)(hc:X.calm=true)(hu:X.A.units+ 2<fm)(ha:PA X [e] (Iz te K7))(hd:PE X dflt td)(hg:Gl X "min")(hm:X.mg "min"=Yb)(G:aG X.prog X.w X.K X.mg X.base bH k f fd ps sp)(hmk:X.mg fx=Ya (.ref f))(hbk:Binds X.K fd ps [])(hgk:Gl X fx)(hr:eQ (k+ 1) X.A)(hdb:(fx==("__debug__":Yj))=false:=by decide)(h1:dE pos (YO [e] X.env)=(false,aE e X.env)::dE pos (YO [] X.env):=by rfl)(h2:(dE pos (YO [e] X.env)).any (·.1)=false:=by rfl):
  PE X (.Call (.Name "min" p) [e] [⟨Ya "key",.Name fx p2,k1⟩,⟨Ya "default",dflt,k2⟩] pos) (aiv K sp te td):=by
 subst hK;intro pins s σ H Q I h;refine eL (wR I hg hm A0 ?_);refine og ?_ h1 h2;refine dN (ha pos pins s σ H (λvs H1=>match vs with|[x]=>td σ H1 λy H2=>aja X.K sp x y H2 Q|_=>False) I h) λus s1 zz=>?_;obtain⟨vs,H1,I1,r1,q1⟩:=zz;obtain⟨x,rfl⟩:∃x,vs=[x]:=by
  match vs,q1 with
  |[x],_=>exact⟨x,rfl⟩
 obtain⟨u,rfl,rx⟩:=j0 r1;refine kq (Gg I1 hgk hmk ?_ hdb);refine kq (dN (hd pins s1 σ H1 _ I1 q1) λw s2 zz=>?_);obtain⟨y,H2,I2,ry,l,xs,ks,ex,hl,lk,rfs,KY,q0,q⟩:=zz;subst ex;cases rx;refine tP ?_;obtain⟨its,rv,pl,hz⟩:=I2.list hl;have lx:=rv.length;show Ym _ _ (call (.builtin "min") [Y0 l] [(af "key",.ref f),(af "default",w)]) _ _ _;refine akb (H:=H2) w (I2.ok.hd hc) hu G (eQ.one hr) hbk I2 rv lk (λs' H' I' sm=>?_) KY (λe s' I'=>⟨y,H2,I',ry,q0 e⟩) (λi v kb s' H' hv hkb best I' sm=>?_)
 ·obtain⟨its',rv',pl',_⟩:=I'.list (sm.seq hl);rw[adC rv rv' rfs];exact pl'.isList
 ·have hi:i<xs.length:=by rw[lx];exact(Yp.mp hv).1
  obtain⟨u',hu',ru⟩:=rv.get (Yo hi);rw[hv]at hu';cases hu';exact⟨xs[i],H',I',ru,q i _ kb H' (Yo hi) hkb best sm⟩
end
theorem aka{Q:VK}(h:te σ H λx H1=>td σ H1 λy H2=>aja K sp x y H2 Q):aiv K sp te td σ H Q:=h
section
theorem adV{kw:List (Yj×Yd)}(hl:s.heap.IsList l vs.toArray)(h64:vs.length<64)(a1:ka "sorted" ⟨[.ref l],kw⟩)(a2:∀D,ka "list.sort" ⟨[D],kw⟩)(h:∀h1:YR,GX.Gs s.heap h1->h1.get? (s.heap.objs.size+ 1)=Ya (seqObj "list" vs.toArray 0)->Ym (Ys prog w) A.in1.in1 (cg.«list.sort» ⟨[.ref (s.heap.objs.size+ 1)],kw⟩) (λf s2=>f=.done (.ret .none)/\Q (.ref (s.heap.objs.size+ 1)) s2) E {s with heap:=h1}):
  Ym (Ys prog w) A (call (.builtin "sorted") [.ref l] kw) Q E s:=by
 have z:vs.length<=YB:=by rw[gB];omega
 refine GX.BZ a1 (collect_list hl (Yf (Cb ?_ z)) z);have g:GX.Gs s.heap ((s.heap.push (seqObj "list" #[] 0)).update s.heap.objs.size (ez (·++vs.toArray))):=λb o q=>(br _ _ (j3 (Yu q))).trans (Yg _ q);have sz:((s.heap.push (seqObj "list" #[] 0)).update s.heap.objs.size (ez (·++vs.toArray))).objs.size=s.heap.objs.size+ 1:=(Heap.size_after_update ..).trans (ff ..);generalize (s.heap.push (seqObj "list" #[] 0)).update s.heap.objs.size (ez (·++vs.toArray))=h0 at g sz⊢;have at1:(h0.push (seqObj "list" vs.toArray 0)).get? (s.heap.objs.size+ 1)=Ya (seqObj "list" vs.toArray 0):=Ee sz.symm rfl;have:=h _ (λb o q=>Yg _ (g b o q)) at1;show Ym _ _ (mi [.ref h0.objs.size] (call (.builtin "list.sort") [.ref h0.objs.size] kw) >>= λ_=>ret (.ref h0.objs.size)) _ _ {s with heap:=h0.push (seqObj "list" vs.toArray 0)};rw[sz];refine Yf (e8 (wpAny_call_entry_kw F6 ⟨_,at1,rfl⟩ FI (ax this (λf s2 q=>?_) λ_ _ e=>e) (a2 _)));exact⟨_,q.1,Yr ⟨_,rfl,q.2⟩⟩
theorem aht{k:Array Yd->Nat->Yd->vj CM}(ho:s.heap.get? a=Ya (seqObj "list" vs.toArray n))(h64:vs.length<64)(h:∀(h2:YR) (e:Nat),(∀b o,b≠a->s.heap.get? b=Ya o->h2.get? b=Ya o)->h2.get? a=Ya (seqObj "list" #[] e)->Ym (Ys prog w) A (k vs.toArray e (.ref h2.objs.size)) P E {s with heap:=h2.push (seqObj "list" #[] 0)}):
  Ym (Ys prog w) A (IL (.ref a) >>= λits=>zi (.ref a) (λ_=>#[]) >>= λ_=>seqEpoch a >>= λe=>newTuple its.toList >>= λt=>DE [] >>= λks=>mi [t,ks] (k its e ks)) P E s:=by
 have z:vs.toArray.size<=YB:=by rw[Yx,gB];omega
 obtain⟨e,he⟩:∃e,(s.heap.update a (ez λ_=>(#[]:Array Yd))).get? a=Ya (seqObj "list" #[] e):=⟨_,FR ho λ_=>#[]⟩;refine Yf (IC ho rfl (Yf (wa ho rfl (Yf (seqEpoch_at he rfl (Yf (AY (Yf (Cb (e8 (h _ e (λb o nb q=>?_) (Yg _ he))) (YZ _))) ?_)))) z (YZ _))))
 ·exact Yg _ ((br _ _ (Ne.symm nb)).trans q)
 ·simpa using z
theorem X6{e:Nat}{out:Array Yd}{tl:Nat->vj CM}(ho:s.heap.get? a=Ya (seqObj "list" #[] e))(hz:out.size<=YB)(h:∀(h1:YR) (c:Nat),(∀b o,b≠a->s.heap.get? b=Ya o->h1.get? b=Ya o)->h1.get? a=Ya (seqObj "list" out c)->Ym (Ys prog w) A (tl e) P E {s with heap:=h1}):
  Ym (Ys prog w) A (seqEpoch a >>= λx=>zi (.ref a) (λ_=>out) >>= λ_=>tl x) P E s:=
 Yf (seqEpoch_at ho rfl (Yf (wa ho rfl (h _ _ (λb o nb q=>(br _ _ (Ne.symm nb)).trans q) (FR ho λ_=>out)) (YZ _) (Nat.le_succ_of_le hz))))
end
def Lv{α:Type}(n:Nat)(P:α->Prop):yB α->Prop
 | .ret a=>P a
 | .ask i j k=>i<n/\j<n/\∀b,Lv n P (k b)
theorem Cd{α β:Type}{n:Nat}{P:α->Prop}{P':β->Prop}{f:α->yB β}(hf:∀a,P a->Lv n P' (f a)):∀t:yB α,Lv n P t->Lv n P' (t.bind f)
 | .ret a,h=>hf a h
 | .ask i j k,h=>⟨h.1,h.2.1,λb=>Cd hf (k b) (h.2.2 b)⟩
def Mh(n:Nat)(p:Array Nat):Prop:=p.toList.Perm (cS n)
theorem ux(h:Mh n p)(hn:0<n)(i:Nat):p.getD i 0<n:=by
 by_cases z:i<p.size
 ·have e:p.getD i 0=p[i]:=by simp[JI,z]
  rw[e];have:p[i]∈p.toList:=Array.getElem_mem_toList z;exact fb.mp (h.mem_iff.mp this)
 ·have e:p.getD i 0=0:=by simp[JI,z]
  rw[e];exact hn
theorem NQ(h:Mh n p)(i j:Nat):Mh n (PySem.W.kas_rev p i j):=(wc.mp (mirror_perm p i j _)).trans h
theorem ajD(h:Mh n p)(i j:Nat):Mh n (bubble p i j):=(wc.mp (bubble_perm p i j)).trans h
section
variable(hn:0<n)
include hn
theorem aa1{p:Array Nat}(h:Mh n p):∀f m:Nat,Lv n (λ_=>True) (PySem.W.kas_asc p f m)
 |0,m=>trivial
 |f+ 1,m=>by
  refine⟨ux h hn _,ux h hn _,λb=>?_⟩;cases b
  ·exact aa1 h f (m+ 1)
  ·exact trivial
theorem Lk:∀(f:Nat) {p:Array Nat} (m q:Nat),Mh n p->Lv n (λr=>Mh n r.1) (PySem.W.kas_desc f p m q)
 |0,p,m,q,h=>h
 |f+ 1,p,m,q,h=>by
  refine⟨ux h hn _,ux h hn _,λb=>?_⟩;cases b
  ·refine⟨ux h hn _,ux h hn _,λd=>?_⟩;cases d
   ·exact Lk f (m+ 1) (q+ 1) h
   ·exact h
  ·show Lv n _ (if q>0 then _ else _);by_cases z:q>0
   ·rw[if_pos z];exact Lk f (m+ 1) 0 (NQ h _ _)
   ·rw[if_neg z];exact Lk f (m+ 1) 0 h
theorem WR(h:Mh n p)(m r:Nat):Lv n (λr=>Mh n r.2) (PySem.W.kas_tail3 m r p):=by
 refine Cd (P:=λ_=>True) (λa _=>?_) _ (aa1 hn (NQ h _ _) _ _);exact NQ h _ _
theorem Kh(h:Mh n p)(m r:Nat):Lv n (λr=>Mh n r.2) (PySem.W.kas_descPart m r p):=by
 refine Cd (P:=λr=>Mh n r.1) (λa ha=>?_) _ (Lk hn _ _ _ h);by_cases z:a.2.2>0
 ·rw[if_pos z];exact WR hn (NQ ha _ _) _ _
 ·rw[if_neg z];exact WR hn ha _ _
theorem aem(h:Mh n p)(r:Nat):Lv n (λr=>Mh n r.2) (PySem.W.kas_count r p):=by
 refine Cd (P:=λ_=>True) (λa _=>?_) _ (aa1 hn h _ _);by_cases z:(a==r)=true
 ·rw[if_pos z];exact h
 ·rw[if_neg z];by_cases y:a>1
  ·rw[if_pos y];refine⟨ux h hn _,ux h hn _,λb=>?_⟩;cases b
   ·exact Kh hn (NQ h _ _) _ _
   ·exact h
  ·rw[if_neg y];exact Kh hn h _ _
theorem Nh{p:Array Nat}(h:Mh n p)(k:Nat):∀f l r:Nat,Lv n (λ_=>True) (PySem.W.kas_place p k f l r)
 |0,l,r=>trivial
 |f+ 1,l,r=>by
  show Lv n _ (if l≥r then _ else _);by_cases z:l≥r
  ·rw[if_pos z];exact trivial
  ·rw[if_neg z];refine⟨ux h hn _,ux h hn _,λb=>?_⟩;cases b
   ·exact Nh h k f _ _
   ·exact Nh h k f _ _
theorem agh:∀(f:Nat) {p:Array Nat} (k:Nat),Mh n p->Lv n (Mh n) (PySem.W.kas_bin f p k)
 |0,p,k,h=>h
 |f+ 1,p,k,h=>Cd (P:=λ_=>True) (λa _=>agh f (k+ 1) (ajD h _ _)) _ (Nh hn h k _ _ _)
theorem ahu:Lv n (Mh n) (PySem.W.kas_sort n):=by
 refine Cd (P:=λr=>Mh n r.2) (λa ha=>?_) _ (aem hn (List.Perm.refl _) n);by_cases z:a.1<n
 ·rw[if_pos z];exact agh hn _ _ ha
 ·rw[if_neg z];exact ha
end
theorem aiO{α:Type}{n:Nat}{P:α->Prop}{cmp:Nat->Nat->(Bool->Yh->Prop)->Yh->Prop}{G:α->Yh->Prop}{s:Yh}(hc:∀i j C,i<n->j<n->(∀b,C b s)->cmp i j C s)(hg:∀a,P a->G a s):∀t:yB α,Lv n P t->t.kasWp cmp G s
 | .ret a,h=>hg a h
 | .ask i j k,h=>hc i j _ h.1 h.2.1 λb=>aiO hc hg (k b) (h.2.2 b)
theorem aj9(h:Mh vs.length p):(p.toList.map λi=>vs.getD i ij).Perm vs:=by
 have e:(cS vs.length).map (λi=>vs.getD i ij)=vs:=by
  refine List.ext_getElem (by simp) λi h1 h2=>?_;simp at h1⊢;simp[h1]
 have:=h.map λi=>vs.getD i ij;rw[e]at this;exact this
section
def TpI(h:YR)(v:Yd):Prop:=∃a o xs n f ns,v=.ref a/\h.get? a=Ya o/\o.cls=.type "tuple"/\o.data=.seq xs n/\bg xs.toList (f::ns)
theorem akn{a b:Int}{t u:l7}{c:Bool}{Q:Bool->Yh->Prop}(h:∀b,Q b s):Ym (Ys prog w) A (oneLt' c (.int a t) (.int b u)) Q E s:=by
 cases c with
 |true=>exact oneLt_int (h _)
 |false=>exact PySem.W.kat_one _ _ (FA (h _))
theorem abD{Q:Bool->Yh->Prop}{b fin:Bool}(h:∀b,Q b s):∀{xs ys:List Yd} {ns ms:List Int} (i:Nat),bg xs ns->bg ys ms->PySem.W.KatLex prog w A b fin Q (xs.zip ys) i s
 |_,_,_,_,i,.nil,_=>FU (h _)
 |_,_,_,_,i,.cons _ _ _,.nil=>FU (h _)
 |_,_,_,_,i,.cons x t r,.cons y u q=>by
  refine PySem.W.kat_cons (EM ?_);refine PySem.W.kat_go (λ_=>PySem.W.kat_yes (abD h (i+ 1) r q)) λ_=>PySem.W.kat_no (akn h)
theorem ajs{x y:Yd}{Q:Bool->Yh->Prop}(hx:TpI s.heap x)(hy:TpI s.heap y)(h:∀b,Q b s):Ym (Ys prog w) A (keyLt' (JJ b) x y) Q E s:=by
 obtain⟨a,o,xs,n,f,ns,rfl,e2,e3,e4,e5⟩:=hx;obtain⟨a',o',xs',n',f',ns',rfl,g2,g3,g4,g5⟩:=hy;exact PySem.W.kat_lt e2 e4 g2 g4 (abD h 0 e5 g5)
theorem V8{h:YR}:∀{vs:List Yd},(∀v∈vs,TpI h v)->∃fs:List Yd,PySem.W.KatTups h vs fs/\(∀v∈fs,∃n t,v=jS n t)/\fs.length=vs.length
 |[],_=>⟨[],PySem.W.KatTups.nil,by simp,rfl⟩
 |v::vs,hv=>by
  obtain⟨fs,h1,h2,h3⟩:=V8 (vs:=vs) λv hv'=>hv v (Yk _ hv');obtain⟨a,o,xs,n,f,ns,rfl,e2,e3,e4,e5⟩:=hv v Yl;obtain⟨w,hw,tk,ew⟩:∃w,xs[0]?=Ya w/\∃tk,w=jS f tk:=by
   rw[←Y9];generalize xs.toList=l at e5⊢;cases e5 with
   |cons _ t r=>exact⟨_,rfl,_,rfl⟩
  refine⟨w::fs,PySem.W.KatTups.cons e2 e3 e4 hw h1,λu hu=>?_,by rw[YT,YT,h3]⟩;rcases YC.mp hu with z|z
  ·rw[z,ew];exact⟨_,_,rfl⟩
  ·exact h2 u z
def ajQ(vs:List Yd)(st:SortSt):Prop:=failedOf st=Yb/\∃out:List Yd,out.Perm vs/\(arrOf st).map (·.2)=out.toArray
theorem afQ{ks:List Yd}{κ:SortKind}(hl:ks.length=vs.length):ajQ vs (SortSt.mk' κ (ks.toArray.zip vs.toArray) #[] 7 Yb):=by
 refine⟨rfl,vs,.refl _,?_⟩;show(ks.toArray.zip vs.toArray).map (·.2)=vs.toArray;apply Array.toList_inj.mp;simpa using List.map_snd_zip (kR hl.symm)
theorem aeX{ks:List Yd}{Q:Unit×SortSt->Yh->Prop}(hl:ks.length=vs.length)(h2:¬ vs.toArray.size<2)(h64:vs.length<64)(hT:∀v∈ks,TpI s.heap v)(h:∀st,ajQ vs st->Q ((),st) s):
  Ym (Ys prog w) A (keyKind' ks.toArray) (λκ s1=>Ym (Ys prog w) A (sortRuns'.run (SortSt.mk' κ (ks.toArray.zip vs.toArray) #[] 7 Yb)) Q E s1) E s:=by
 rw[Yx]at h2;obtain⟨fs,kt,ki,kl⟩:=V8 hT;refine PySem.W.kat_kind (T:=jI "int") kt (by omega) (λv hv=>?_) (by decide) ?_
 ·obtain⟨n,t,rfl⟩:=ki v hv;exact PySem.W.Looks.of_pure rfl
 have mem:∀i,i<vs.length->ks.getD i ij∈ks:=λi hi=>by
  rw[YU,Yo (by omega)];exact ja _
 refine ax (PySem.W.kat_run (Q:=λst s1=>s1=s/\failedOf st=Yb/\∃p,Mh vs.length p/\arrOf st=p.map (PySem.W.kas_item (ks.toArray.zip vs.toArray))) (G:=λp s1=>s1=s/\Mh vs.length p) hl (by omega) h64 (λp st s1 _ q1 q2 q3=>⟨q3.1,q2,p,q3.2,q1⟩)
  (aiO (n:=vs.length) (λi j C hi hj hC=>ajs (hT _ (mem i hi)) (hT _ (mem j hj)) hC) (λp hp=>⟨rfl,hp⟩) _ (ahu (by omega)))) (λr s1 q=>?_) λ_ _ e=>e
 obtain⟨rfl,q1,p,q2,q3⟩:=q;exact h r.2 ⟨q1,_,aj9 q2,PySem.W.kat_snds hl q3⟩
end
theorem acZ:∀{vs:List V} {its out:List Yd},Vals vs its->out.Perm its->∃ws:List V,ws.Perm vs/\Vals ws out:=by
 intro vs its out h p
 induction p generalizing vs with
 |nil=>cases h;exact⟨[],.nil,.nil⟩
 |cons x p ih=>
  cases h with
  |cons r t=>
   obtain⟨ws,a,b⟩:=ih t;exact⟨_::ws,a.cons _,.cons r b⟩
 |swap x y l=>
  cases h with
  |cons r t=>
   cases t with
   |cons r2 t2=>exact⟨_,.swap _ _ _,.cons r2 (.cons r t2)⟩
 |trans p q ih1 ih2=>
  obtain⟨ws,a,b⟩:=ih2 h;obtain⟨us,c,d⟩:=ih1 b;exact⟨us,c.trans a,d⟩
section
end
section
variable{H0:Hp}{h':YR}
theorem bw.adopt{it:Yc}{o:HO}{t':Nat}(I:bw X pins σ H s)(k:∀b o,b≠it->s.heap.get? b=Ya o->h'.get? b=Ya o)(hf:Hv X pins H it)
  (new:fc X.prog X.w (upd H it o) h' it o):bw X pins σ (upd H it o) {s with heap:=h',toks:=t'}:=by
 obtain⟨f0,f1,f2,f3,f4,f5⟩:=hf;have nit:∀b u,H b=Ya u->b≠it:=λb u e z=>by rw[z,f0]at e;cases e
 refine I.step (g':=s.gens) (d':=s.drawn) (ch:=[it]) (λb hb=>?_) (λb o _ _ hc e _=>k b o (λz=>hc (by simp[z])) e) (λb o _ _ hc e _=>⟨o.slots,k b o (λz=>hc (by simp[z])) e⟩) (λb ob hc e n=>by rw[aK (λz=>hc (by simp[z]))];exact n)
  (λb o hc e=>⟨o,k b o (λz=>hc (by simp[z])) e⟩) (λb xs e=>by rw[aK (nit b _ e)];exact e) (λb o u e=>by rw[aK (nit b _ e)];exact e) (λb ps e=>⟨#[],by rw[aK (nit b _ e),e];simp⟩) (λm hm=>?_) (λb u e=>?_) I.bare
 ·have e:b=it:=by simpa using hb
  subst e;exact⟨f3,f1,f4,f5⟩
 ·obtain⟨ob,es,ep,ho,r⟩:=hm;exact⟨ob,es,ep,k _ ob (Ne.symm f1) ho,r⟩
 ·by_cases hb:b=it
  ·subst hb;rw[aB]at e;cases e;exact new
  ·rw[aK hb]at e;refine(I.hok b u e).stay (λc v hc q=>k c v ?_ q) (λc q=>by rw[aK (nit c _ q)];exact q) λc xs q=>by rw[aK (nit c _ q)];exact q
   rcases hc with z|z
   ·rw[z];exact nit b u e
   ·exact nit c _ z
end
theorem eQ.two(r:eQ (k+ 1) A):eQ k A.in1.in1:=⟨r.hd,by have:=r.dp;show A.depth+ 3*k+ 5<uS;omega,by have:=r.un;show A.units+ 1+ 1+ 16*k+ 200<fm;omega⟩
theorem afL{x:V}{v:Yd}:Vals xs its->RelV x v->Vals (xs++[x]) (its++[v]):=λh r=>h.append (.cons r .nil)
section
variable{D:Yc}
theorem ae0(F:aG X.prog X.w X.K X.mg X.base bH k f fd ps sp)(hr:eQ k X.A.in1.in1)(hb:Binds X.K fd ps [])(IV:bw X pins σ H s)(fD:Hv X pins H D)(hD:s.heap.get? D=Ya (seqObj "list" its.toArray n))(rv:Vals xs its)(h64:xs.length<64)(lk:xs.length=ks.length)(kn:∀k∈ks,k≠[])(KY:∀(i:Nat) x k H3 (Q':VK),xs[i]?=Ya x->ks[i]?=Ya k->aO H H3->(∀H4 t,aO H3 H4->cN X.K H4 t (k.map V.int)->Q' (.ref t) H4)->sp [x] H3 Q' E0)(hR:∀ws H' s',ws.Perm xs->aO H H'->H' D=Yb->bw X pins σ (upd H' D (.lst ws)) s'->P (.done (.ret .none)) s'):
  Ym (Ys X.prog X.w) X.A.in1.in1 (ksk_tree D (.ref f) false) P E s:=by
 have lv:=rv.length;unfold ksk_tree;refine aht (k:=λits e ks=>ksk_rest D (.ref f) false its e ks) hD (by omega) λh2 e1 k2 hD2=>?_;obtain⟨f0,f1,f2,f3,f4,f5⟩:=id fD;have I2:bw X pins σ H {s with heap:=h2}:=IV.turned (t':=s.toks) (it:=D) k2 f0 f1 f3 f4 f5;have hkD:h2.objs.size≠D:=j3 (Yu hD2);have hk0:H h2.objs.size=none:=bw.fresh I2;have I3:bw X pins σ (upd H h2.objs.size (.lst [])) {s with heap:=h2.push (seqObj "list" #[] 0)}:=bw.lnew (s:={s with heap:=h2}) (its:=[]) (t':=s.toks) I2 .nil (YZ _);have hD3:(h2.push (seqObj "list" #[] 0)).get? D=Ya (seqObj "list" #[] e1):=Yg _ hD2;generalize h2.push (seqObj "list" #[] 0)=h3 at I3 hD3⊢;generalize h2.objs.size=kS at I3 hkD hk0⊢;unfold ksk_rest;refine Yf (FK ?_);rw[List.forIn_toArray];refine Yf (ksk_fold (λi s'=>∃H' ts,bw X pins σ H' s'/\aO H H'/\H' D=Yb/\s'.heap.get? D=Ya (seqObj "list" #[] e1)/\H' kS=Ya (.lst ((ts:List Yc).map V.ref))/\ts.length=i/\∀(j:Nat) t,ts[j]?=Ya t->∃k,ks[j]?=Ya k/\cN X.K H' t (k.map V.int)) its 0 _ ⟨_,[],I3,aF hk0,by rw[aK hkD.symm];exact f0,hD3,aB,rfl,λj t h=>by simp at h⟩ ?_ ?_)
 ·rintro j x s' hx ⟨H',ts,I',sm,hD',gD,hK,lt,ht⟩;rw[CO]at lt;have hj:=(Yp.mp hx).1;have hxj:xs[j]?=Ya xs[j]:=Yo (by omega);obtain⟨u',hu',rx⟩:=rv.get hxj;rw[hx]at hu';cases hu';have hkj:ks[j]?=Ya ks[j]:=Yo (by omega);have fD':Hv X pins H' D:=⟨hD',f1,f2,f3,f4,f5⟩;have IP:bw X (pins++Jq [D] s'.heap) σ H' s':=I'.pinned (fp:=[D]) (λb hb=>by rw[Yy.mp hb];exact fD') (λb hb=>by rw[Yy.mp hb];exact⟨_,gD,λv z=>nomatch z⟩);have key:=Ak (X:=X.one.one) (vs:=[xs[j]]) (us:=[x]) (Q:=λz H4=>∃t,z=.ref t/\aO H' H4/\cN X.K H4 t (ks[j].map V.int)) (E:=E0) (dvs:=[]) (ds:=[]) F hr hb .nil (λ_ _ _ _ _ _ _ q=>q.elim) IP.one.one (.cons rx .nil) (by
   rw[cy];exact KY j _ _ H' _ hxj hkj sm λH4 t s4 h4=>⟨t,rfl,s4,h4⟩)
  refine Yf (sC (ax key (λu s2 q=>?_) λ_ _ q=>q.elim));obtain⟨z,H4,I4,rz,t2,rfl,s4,ht2⟩:=q;cases rz;have I4:=bw.back IP.ok (bw.back IP.one.ok I4);have pD:=I4.pin (D,seqObj "list" #[] e1) (YW _ (YW _ (ni (by simp) gD)));have I5:=I4.unpinned;have hK4:=s4 _ _ hK;obtain⟨_,kt,nk,rk,lk',gk⟩:=I5.lstM hK4;rw[Yi]at lk';dsimp only;refine Yf (wa gk rfl ?_ (by rw[Yx,gB];omega) (by rw[Array.size_push,Yx,gB];omega));have I6:bw X pins σ (upd H4 kS (.lst ((ts++[t2]).map V.ref))) {s2 with heap:=s2.heap.update kS (ez (·.push (.ref t2)))}:=I5.lset (t':=s2.toks) (its':=kt++[.ref t2]) hK4 gk (by simp) (by rw[YK];exact afL rk rfl) (by rw[Yi,YG,fv,gB];omega);have nt:∀t ks',cN X.K H4 t ks'->cN X.K (upd H4 kS (.lst ((ts++[t2]).map V.ref))) t ks':=λt ks' h=>by
   rcases h with(h|⟨z,h⟩)|h
   ·exact .inl (.inl (by rw[aK (λz=>by rw[z,hK4]at h;cases h)];exact h))
   ·exact .inl (.inr ⟨z,by rw[aK (λz=>by rw[z,hK4]at h;cases h)];exact h⟩)
   ·exact .inr h
  refine Yr ⟨rfl,_,ts++[t2],I6,λb o e=>?_,?_,?_,aB,by rw[YG,lt];simp,λj' t hj'=>?_⟩
  ·rw[aK (aP e hk0)];exact s4 _ _ (sm _ _ e)
  ·rw[aK hkD.symm];exact pD.2.1
  ·exact((dQ s2.heap kS (ez (·.push (.ref t2)))).2 D hkD.symm).trans pD.1
  ·by_cases w:j'<ts.length
   ·rw[fu w]at hj';obtain⟨k',e1',e2'⟩:=ht j' t hj';exact⟨k',e1',nt _ _ (SmT.same s4 _ _ e2')⟩
   ·have:j'=j:=by
     have:=(Yp.mp hj').1;rw[YG,fv]at this;omega
    subst this;rw[eW (by omega),lt,Nat.sub_self]at hj';cases hj';exact⟨_,hkj,nt _ _ ht2⟩
 rintro s' ⟨H',ts,I',sm,hD',gD,hK,lt,ht⟩;rw[CO]at lt;obtain⟨_,kt,nk,rk,lk',gk⟩:=I'.lstM hK;rw[Yi]at lk';refine Yf (IC gk rfl ?_);have hT:∀v∈kt,TpI s'.heap v:=λv hv=>by
  obtain⟨i,hi⟩:=iE hv;have hil:=(Yp.mp hi).1;have hti:ts[i]?=Ya ts[i]:=Yo (by omega);obtain⟨k',e1',e2'⟩:=ht i _ hti;obtain⟨u',hu',ru⟩:=rk.get (show(ts.map V.ref)[i]?=Ya (.ref ts[i]) by rw[Yv,hti];rfl);rw[hi]at hu';cases hu';cases ru;obtain⟨ia,ra,pa,_⟩:=I'.tuple e2';obtain⟨o,ho,hc,n',hd⟩:=id pa;have kne:=kn k' (YE e1');cases k' with
  |nil=>exact absurd rfl kne
  |cons f' ns=>exact⟨_,o,_,n',f',ns,rfl,ho,hc,hd,mj ra⟩
 have hkD':D≠kS:=hkD.symm;have fin:∀st:SortSt,ajQ its st->Ym (Ys X.prog X.w) X.A.in1.in1 (ksk_tail D false e1 (.ref kS) st) P E s':=by
  rintro st ⟨hf,out,po,eo⟩;obtain⟨ws,wp,wv⟩:=acZ rv po;unfold ksk_tail
  try dsimp only
  rw[eo];refine Yf (wa gk rfl ?_ (by rw[Yx,gB];omega) (YZ _));have I6:bw X pins σ (upd H' kS (.lst [])) {s' with heap:=s'.heap.update kS (ez λ_=>(#[]:Array Yd))}:=I'.lset (t':=s'.toks) (its':=[]) (ys:=[]) hK gk (by simp) .nil (YZ _);have gD6:(s'.heap.update kS (ez λ_=>(#[]:Array Yd))).get? D=Ya (seqObj "list" #[] e1):=((dQ s'.heap kS (ez λ_=>(#[]:Array Yd))).2 D hkD').trans gD;generalize s'.heap.update kS (ez λ_=>(#[]:Array Yd))=h6 at I6 gD6⊢;refine Yf (wpAny_letGo ?_);refine X6 (s:={s' with heap:=h6}) (out:=out.toArray) gD6 (by rw[Yx,po.length_eq,gB];omega) λh7 c k7 g7=>?_;rw[hf]
  wp_walk
  refine hR ws (upd H' kS (.lst [])) _ wp (λb o e=>?_) (by rw[aK hkD'];exact hD') ?_
  ·rw[aK (aP e hk0)];exact sm _ _ e
  ·exact bw.adopt (s:={s' with heap:=h6}) (t':=s'.toks) I6 k7 ⟨by rw[aK hkD'];exact hD',f1,f2,f3,f4,f5⟩ ⟨by rw[wp.length_eq,gB];omega,out,c,wv,g7⟩
 unfold ksk_end;simp only[qB,if_false];by_cases few:its.toArray.size<2
 ·rw[if_pos few,if_pos few];refine Yf (Yr ?_);rw[StateT.run_pure];exact Yf (Yr (fin _ (afQ (by omega))))
 ·rw[if_neg few,if_neg few];exact Yf (ax (aeX (by omega) few (by omega) hT λst q=>fin st q) (λκ s1 q=>Yf q) λ_ _ e=>e)
theorem agz(F:aG X.prog X.w X.K X.mg X.base bH k f fd ps sp)(hr:eQ k X.A.in1.in1)(hb:Binds X.K fd ps [])(IV:bw X pins σ H s)(hl:s.heap.IsList l its.toArray)(rv:Vals xs its)(h64:xs.length<64)(lk:xs.length=ks.length)(kn:∀k∈ks,k≠[])(KY:∀(i:Nat) x k H3 (Q':VK),xs[i]?=Ya x->ks[i]?=Ya k->aO H H3->(∀H4 t,aO H3 H4->cN X.K H4 t (k.map V.int)->Q' (.ref t) H4)->sp [x] H3 Q' E0)(hR:∀D ws H' s',H D=Yb->ws.Perm xs->aO H H'->H' D=Yb->bw X pins σ (upd H' D (.lst ws)) s'->Q (.ref D) s'):
  Ym (Ys X.prog X.w) X.A (call (.builtin "sorted") [.ref l] [(af "key",.ref f)]) Q E s:=by
 have lv:=rv.length;refine adV hl (by omega) (ksk_s1 _ _) (λ_=>ksk_l1 _ _) λh1 g1 a1=>?_;have hDn:H (s.heap.objs.size+ 1)=none:=IV.hok.fresh (hZ _);rw[ksk_t1];exact ae0 F hr hb (IV.kept (t':=s.toks) g1) (IV.fpOk (hZ _) hDn) a1 rv h64 lk kn KY λws H' s' wp sm hD' I'=>⟨rfl,hR _ ws H' s' hDn wp sm hD' I'⟩
end
def aeN(K:Ye)(sp:Sp)(x:V)(H2:Hp)(Q:VK):Prop:=∃(l:Yc) (xs:List V) (ks:List (List Int)),x=.ref l/\bI K H2 l xs/\xs.length<64/\xs.length=ks.length/\(∀k∈ks,k≠[])/\
 (∀(i:Nat) (x:V) (k:List Int) (H3:Hp) (Q':VK),xs[i]?=Ya x->ks[i]?=Ya k->aO H2 H3->(∀H4 t,aO H3 H4->cN K H4 t (k.map V.int)->Q' (.ref t) H4)->sp [x] H3 Q' E0)/\
 ∀(D:Yc) (ws:List V) (H':Hp),H2 D=Yb->ws.Perm xs->aO H2 H'->H' D=Ya (.lst ws)->Q (.ref D) H'
def afe(K:Ye)(sp:Sp)(te:TE):TE:=λσ H Q=>te σ H λx H1=>aeN K sp x H1 Q
section
theorem aaJ{p:hJ}(hK:X.K=K)(ha:PA X [e] (Iz te K7))(hg:Gl X "sorted")(hm:X.mg "sorted"=Yb)(G:aG X.prog X.w X.K X.mg X.base bH k f fd ps sp)(hmk:X.mg fx=Ya (.ref f))(hbk:Binds X.K fd ps [])(hgk:Gl X fx)(hr:eQ (k+ 1) X.A)(hdb:(fx==("__debug__":Yj))=false:=by decide)(h1:dE pos (YO [e] X.env)=(false,aE e X.env)::dE pos (YO [] X.env):=by rfl)(h2:(dE pos (YO [e] X.env)).any (·.1)=false:=by rfl):
  PE X (.Call (.Name "sorted" p) [e] [⟨Ya "key",.Name fx p2,k1⟩] pos) (afe K sp te):=by
 subst hK;intro pins s σ H Q I h;refine eL (wR I hg hm iL ?_);refine og ?_ h1 h2;refine dN (ha pos pins s σ H (λvs H1=>match vs with|[x]=>aeN X.K sp x H1 Q|_=>False) I h) λus s1 zz=>?_;obtain⟨vs,H1,I1,r1,q1⟩:=zz;obtain⟨x,rfl⟩:∃x,vs=[x]:=by
  match vs,q1 with
  |[x],_=>exact⟨x,rfl⟩
 obtain⟨u,rfl,rx⟩:=j0 r1;obtain⟨l,xs,ks,ex,hl,h64,lk,kn,KY,q⟩:=q1;subst ex;cases rx;refine kq (Gg I1 hgk hmk ?_ hdb);refine tP ?_;obtain⟨its,rv,pl,hz⟩:=I1.list hl;show Ym _ _ (call (.builtin "sorted") [Y0 l] [(af "key",.ref f)]) _ _ _;refine agz (H:=H1) G (eQ.two hr) hbk I1 pl.isList rv h64 lk kn KY λD ws H' s' hD wp sm hD' I'=>?_;exact⟨.ref D,_,I',rfl,q D ws _ hD wp (sm.trans (aF hD')) aB⟩
end
theorem agH{Q:VK}(h:te σ H λx H1=>aeN K sp x H1 Q):afe K sp te σ H Q:=h
section
end
section
end
section
end
end L2
namespace GX
open PySem PySem.Spec PyProof.Rows
variable{prog:YJ}{w:YV}{A:Y4}{s:Yh}{E:Yd->Yh->Prop}{it d:Yc}{h:YR}{es:Array bP}{ep i:Nat}{Q:Option Yd->Yh->Prop}
section
variable{l:Yc}
end
noncomputable abbrev vM(es:Array bP)(ep:Nat):Y3:={cls:=.type "dict",data:=.dict es ep}
noncomputable abbrev aaU(d:Yc)(i n ep:Nat):Y3:={cls:=.type "dict_valueiterator",data:=.fields #[.ref d,.int i 0,.int n 0,.int ep 0]}
theorem ad1(it d:Yc)(i ep:Nat)(es:Array bP)(e:bP)(hx:es[i]?=Ya e):
  ox (cg.«dict_valueiterator.__next__» ⟨[.ref it],[]⟩) (λ_ R s=>s.heap.get? it=Ya (aaU d i es.size ep)/\s.heap.get? d=Ya (vM es ep)/\
   ∀g,g.get? it=Ya (aaU d (i+ 1) es.size ep)->eT it s.heap g->R (.ok (.ret e.val)) {s with heap:=g}):=
 .of_wp λprog w A R s ⟨h1,h2,q⟩=>by
  obtain⟨h,g,dr,tk,os⟩:=s;have hT:ck {heap:=h,gens:=g,drawn:=dr,toks:=tk,os:=os} (.ref it) "dict_valueiterator":=⟨_,h1,rfl⟩
  wp_walk
  rw[if_neg (by omega),YA,hx]
  wp_walk
  have ow:fT ((Manifest.find? "dict_valueiterator").elim "dict_valueiterator" λx=>x.tpName)=false:=by decide +kernel
  refine⟨_,rfl,q _ ?_ (dQ ..)⟩;rw[eB _ h1 rfl,ow];simp[sq,rawInt];intro x hx hm;exfalso
  revert x hx hm
  decide +kernel
theorem ahS(d:Yc)(es:Array bP)(ep:Nat)(hd:(d==ee)=false):
  ox (cg.«dict.values» ⟨[.ref d],[]⟩) (λ_ R s=>s.heap.get? d=Ya (vM es ep)/\R (.ok (.ret (.ref s.heap.objs.size))) {s with heap:=s.heap.push {cls:=.type "dict_values",data:=.fields #[.ref d]}}):=
 .of_wp λprog w A R s ⟨h1,q⟩=>by
  obtain⟨h,g,dr,tk,os⟩:=s;have hT:ck {heap:=h,gens:=g,drawn:=dr,toks:=tk,os:=os} (.ref d) "dict":=⟨_,h1,rfl⟩
  wp_walk
  exact⟨_,rfl,q⟩
theorem ahM(it d:Yc)(i ep:Nat)(es:Array bP)(hi:es.size<=i):
  ox (cg.«dict_valueiterator.__next__» ⟨[.ref it],[]⟩) (λA R s=>A.handled=Yb/\s.heap.get? it=Ya (aaU d i es.size ep)/\s.heap.get? d=Ya (vM es ep)/\
   ∀g e,vi it s.heap g->ck {s with heap:=g} (.ref e) "StopIteration"->R (.error (.ref e)) {s with heap:=g}):=
 .of_wp λprog w A R s ⟨h0,h1,h2,q⟩=>by
  obtain⟨h,g,dr,tk,os⟩:=s;have hT:ck {heap:=h,gens:=g,drawn:=dr,toks:=tk,os:=os} (.ref it) "dict_valueiterator":=⟨_,h1,rfl⟩;have h0':A.in1.handled=none:=h0
  wp_walk
  rw[if_neg (by omega),YA,fg hi]
  wp_walk
  simp only[EX]
  wp_walk
  exact q _ _ (λb o nb e=>Yg _ (Yg _ (((dQ ..).2 b nb).trans e))) ⟨_,Yq _ rfl,rfl⟩
theorem acH(v d:Yc)(ep:Nat)(es:Array bP)(dd:Option Yc)(sl:Array (Option Yd)):
  ox (cg.«dict_values.__iter__» ⟨[.ref v],[]⟩) (λA R s=>s.heap.get? v=Ya {cls:=.type "dict_values",dict:=dd,data:=.fields #[.ref d],slots:=sl}/\s.heap.get? d=Ya (vM es ep)/\
   R (.ok (.ret (.ref s.heap.objs.size))) {s with heap:=s.heap.push (aaU d 0 es.size ep)}):=
 .of_wp λprog w A R s ⟨h1,h2,q⟩=>by
  obtain⟨h,g,dr,tk,os⟩:=s;have hT:ck {heap:=h,gens:=g,drawn:=dr,toks:=tk,os:=os} (.ref v) "dict_values":=⟨_,h1,rfl⟩
  wp_walk
  have ow:fT "dict_valueiterator"=false:=by decide +kernel
  rw[ow];exact⟨_,rfl,q⟩
def qz(h:YR)(d:Yc)(es:Array bP)(ep:Nat):Prop:=h.get? d=Ya (vM es ep)
def LC(h:YR)(it d:Yc)(i n ep:Nat):Prop:=h.get? it=Ya (aaU d i n ep)
theorem qz.of{o:Y3}(e:h.get? d=Ya o)(x:o.ExactDict)(dt:o.data=.dict es ep):qz h d es ep:=by
 obtain⟨c,di,dat,sl⟩:=o;obtain⟨rfl,rfl,rfl⟩:=x;cases dt;exact e
theorem qz.at{g:YR}(x:qz h d es ep)(k:∀o,h.get? d=Ya o->g.get? d=Ya o):qz g d es ep:=k _ x
theorem qz.lt(x:qz h d es ep):d<h.objs.size:=Yu x
theorem LC.is{n:Nat}(x:LC h it d i n ep):h.IsValIter it d i n ep:=⟨_,x,rfl,rfl⟩
section
variable{v:Yc}
theorem aaM{Q:Yd->Yh->Prop}(hS:(d==ee)=false)(rd:qz s.heap d es ep)
  (q:Q (.ref s.heap.objs.size) {s with heap:=s.heap.push {cls:=.type "dict_values",data:=.fields #[.ref d]}}):Ym (Ys prog w) A (call (.builtin "dict.values") [.ref d]) Q E s:=
 rh F.slot_dict_values ⟨_,rd,rfl⟩ F.entry_dict_values (F.args_dict_values_1 _) (ahS d es ep hS) ⟨rd,q⟩
theorem aeZ{Q:Yd->Yh->Prop}(hv:s.heap.IsValuesView v d)(rd:qz s.heap d es ep)
  (q:Q (.ref s.heap.objs.size) {s with heap:=s.heap.push (aaU d 0 es.size ep)}):Ym (Ys prog w) A (tq (.ref v)) Q E s:=by
 obtain⟨⟨c,di,dat,sl⟩,e,rfl,rfl⟩:=id hv;apply r9 hv.typeIs F.slot_dict_values_iter;apply rh F.slot_dict_values_iter hv.typeIs F.entry_dict_values_iter (F.args_dict_values_iter_1 _) (acH v d ep es di sl);exact⟨e,rd,"dict_valueiterator",_,⟨_,Yq _ rfl,rfl⟩,F.slot_dict_valueiterator_next.lookup,q⟩
theorem afu{R:pf->Yh->Prop}{S:Y4->(pf->Yh->Prop)->Yh->Prop}(hT:s.TypeIs (.ref it) "dict_valueiterator")(m:ox (cg.«dict_valueiterator.__next__» ⟨[.ref it],[]⟩) S)(h:S A R s):
  de (Ys prog w) A (.call (.builtin "dict_valueiterator.__next__") ⟨[.ref it],[]⟩) R s:=
 kM F.slot_dict_valueiterator_next.plain F.entry_dict_valueiterator_next (F.slot_dict_valueiterator_next.check _ _ _ _ _ _ _ _ hT (F.args_dict_valueiterator_next_1 _) (m prog w A R s h))
theorem ad6{e:bP}(hit:LC s.heap it d i es.size ep)(rd:qz s.heap d es ep)(hx:es[i]?=Ya e)(hQ:∀g,LC g it d (i+ 1) es.size ep->eT it s.heap g->Q (Ya e.val) {s with heap:=g}):Ym (Ys prog w) A (fw (.ref it)) Q E s:=by
 have hT:s.TypeIs (.ref it) "dict_valueiterator":=⟨_,hit,rfl⟩;have hk:=F.slot_dict_valueiterator_next.lookup;have hb:=F.slot_dict_valueiterator_next.bind (.ref it);unfold fw
 repeat' first|assumption|wp_step
 exact afu hT (ad1 it d i ep es e hx) ⟨hit,rd,λg a b=>Yr (Yr (hQ g a b))⟩
theorem ahj(hh:A.handled=Yb)(hit:LC s.heap it d i es.size ep)(rd:qz s.heap d es ep)(hi:es.size<=i)(fin:∀g,vi it s.heap g->Q Yb {s with heap:=g}):Ym (Ys prog w) A (fw (.ref it)) Q E s:=by
 have hT:s.TypeIs (.ref it) "dict_valueiterator":=⟨_,hit,rfl⟩;have hk:=F.slot_dict_valueiterator_next.lookup;have hb:=F.slot_dict_valueiterator_next.bind (.ref it);have hst:isSubtype (.type "StopIteration") (.type "StopIteration")=pure true:=by rw[rq];kernel_rfl
 unfold fw
 repeat' first|assumption|wp_step
 refine afu hT (ahM it d i ep es hi) ⟨hh,hit,rd,λg e a b=>?_⟩;have hq:=fin g a
 repeat' first|assumption|wp_step
end
theorem acU(hh:A.handled=Yb)(nd:d≠it):
  zI prog w A it [it,d] [it] es.size (λi x=>∃y:bP,es[i]?=Ya y/\x=y.val) (λi h=>LC h it d i es.size ep/\qz h d es ep):=by
 constructor
 case sub=>intro b hb;simp at hb;simp[hb]
 case frame=>exact λi h g x k=>⟨k it (by simp) _ x.1,k d (by simp) _ x.2⟩
 case self=>exact λi s Q E x q=>BQ x.1.is q
 case done=>exact λs Q E x q=>ahj hh x.1 x.2 (Yn _) λg k=>q g s.toks λb o nb e=>k b o (by simpa using nb) e
 case item=>
  intro i s Q E hi x q;exact ad6 x.1 x.2 (YI hi) λg a k=>q _ g s.toks ⟨_,YI hi,rfl⟩ ⟨a,(k.2 d nd).trans x.2⟩ λb o nb e=>(k.2 b (by simpa using nb)).trans e
section
variable{K:Type}[DecidableEq K]{knd:HeapKind prog w K}{a:Yc}{xs:List (K×Yc×Yd)}{k:K}{j:Nat}{p:Yc×Yd}
end
end GX
namespace L2
open PySem PySem.Spec PyProof.Rows
variable{X:Cx}{P:YJ}{w:YV}{d f b c a C:Yc}{H H':Hp}{h base:YR}{n k i:Nat}{A:Y4}{E:Yd->Yh->Prop}{s s':Yh}{pins:List (Yc×Y3)}{σ:St}{fd:Yt}{ps N:List Yj}{sp:Sp}{cs:List Yc}{us:List Yd}{x qual m:Yj}{CX:CXT}{K:Ye}{mg:Yj->Option Yd}{scope:jv}{cd:Yd}{cl:List (Yj×Yc)}{outer:List l8}{vs vals:List V}{ix:List Nat}{Q:VK}{OK:Yc->Sp->Prop}{pos:hJ}{e:YY}{es:List YY}{tf ta:TE}{t:TA}{ms:List (Yc×Sp)}
section
variable{tg:YY}
end
theorem akD{r:Yc}{es:Array bP}{ep:Nat}:
  PySem.W.KdlSrc P w "dict_values" r d es.size (λi x=>∃y:bP,es[i]?=Ya y/\x=y.val) (λh=>h.IsValuesView r d/\GX.qz h d es ep):=by
 constructor
 case iter=>
  intro A s hh ⟨hv,rd⟩;refine⟨GX.aaU d 0 es.size ep,λi h=>GX.LC h s.heap.objs.size d i es.size ep/\GX.qz h d es ep,λE Q q=>GX.aeZ hv rd q,GX.acU hh (YH rd.lt),Yq _ rfl,rd.at λo e=>Yg _ e⟩
 case hint=>exact λA E s Q x q=>PySem.W.kdl_hint_values x.1.typeIs q
 case keep=>
  intro h g ⟨⟨o,e,c,dt⟩,rd⟩ k;exact⟨⟨o,k r (Or.inl rfl) o e,c,dt⟩,rd.at (k d (Or.inr rfl))⟩
 case there=>
  intro h ⟨⟨o,e,_⟩,rd⟩;exact And.intro (Yu e) rd.lt
 case type=>exact λs x=>x.1.typeIs
 case notList=>rfl
 case notTuple=>rfl
theorem afP{kvs:List (List dC×V)}(ok:vd P w H h)(e:Rd H d (.dT kvs)):
  (d==ee)=false/\∃(es:Array bP) (ep:Nat),GX.qz h d es ep/\es.size=kvs.length/\∀(i:Nat) (k:List dC) (v:V),kvs[i]?=Ya (k,v)->∃y:bP,es[i]?=Ya y/\RelV v y.val:=by
 obtain⟨_,hS,xs,kt,o,es,ep,h1,h2,h3,h4,_⟩:=Rw ok e;refine⟨hS,es,ep,.of h1 h2 h3,?_,λi k v hv=>?_⟩
 ·rw[←aT,h4,Yi];exact(bS kt).symm
 ·obtain⟨q,hq,_,_,rv⟩:=gR kt hv;refine⟨Bz (j1 (bK P w)) q,?_,rv⟩;rw[←Y9,h4,Yv,hq];rfl
section
theorem Wy:MtR X "dict.values" (λx vs H Q=>∃d kvs,x=.ref d/\vs=[]/\H d=Ya (.dT kvs)/\∀v,H v=Yb->Q (.ref v) (upd H v (Ur v d))):=by
 intro pins s σ H x xs v us Q I rx rv h;obtain⟨d,kvs,rfl,rfl,hd,q⟩:=h;cases rx;cases rv;obtain⟨hS,es,ep,rd,_⟩:=afP I.hok (.inl hd);refine GX.aaM hS rd ?_;exact⟨.ref s.heap.objs.size,_,I.laid (o:=Ur s.heap.objs.size d) (t':=s.toks) (λb ob e=>Yg _ e) (Yn _) ⟨⟨_,Yq _ rfl,rfl,rfl⟩,⟨_,Yq _ rfl⟩,λh1 h2 ⟨o,e1,e2,e3⟩ k=>⟨o,k o e1,e2,e3⟩⟩,rfl,q _ (I.hok.fresh (Yn _))⟩
theorem Km(hc:X.calm=true):iZ X (.type "list") (λxs H Q=>∃(v d:Yc) (kvs:List (List dC×V)),xs=[.ref v]/\H v=Ya (Ur v d)/\Rd H d (.dT kvs)/\kvs.length<=1000/\∀l,H l=Yb->Q (.ref l) (upd H l (.lst (kvs.map (·.2))))):=by
 intro pins s σ H xs us Q I r h;obtain⟨v,d,kvs,rfl,hv,hd,hlen,q⟩:=h;obtain⟨u,rfl,rx⟩:=j0 r;cases rx;obtain⟨hS,es,ep,rd,sz,rel⟩:=afP I.hok hd;have hvw:s.heap.IsValuesView v d:=(I.hok v _ hv).1;refine sP (A:=X.A) (akD (es:=es) (ep:=ep)) (I.ok.hd hc) ⟨hvw,rd⟩ (by rw[sz];exact Y7 (aU (by omega))) λh' tk acc c hk he hacc=>?_;refine⟨.ref s.heap.objs.size,_,I.laid (o:=.lst (kvs.map (·.2))) (t':=tk) hk (Yn _) ⟨by rw[Yi];exact Y7 (aU hlen),acc.toList,c,Nv ?_ λi x u hx hu=>?_,he⟩,rfl,q _ (I.hok.fresh (Yn _))⟩
 ·have e:acc.toList.length=es.size:=by rw[aT];exact hacc.1
  rw[Yi,e,sz]
 ·rw[Y9]at hu;obtain⟨y,hy,rfl⟩:=hacc.2 i u hu;rw[Yv]at hx;cases e:kvs[i]? with
  |none=>rw[e]at hx;cases hx
  |some p=>
   rw[e]at hx;cases hx;obtain⟨y',hy',ru⟩:=rel i p.1 p.2 e;rw[hy]at hy';cases hy';exact ru
end
section
end
section
end
section
variable(ky:Nat->Int)
variable{ky}(hn:0<n)
end
section
variable{prog:YJ}
end
section
variable{D:Yc}{xs:List V}{its:List Yd}{ks:List (List Int)}
end
section
end
section
end
noncomputable def K8(cs:List Yc)(H:Hp):Hp:=λb=>if b∈cs then Yb else H b
noncomputable def rln(cs:List Yc)(H H':Hp):Hp:=λb=>if b∈cs then H b else H' b
theorem Tj(h:b∈cs):K8 cs H b=none:=if_pos h
theorem iR(h:b∉cs):K8 cs H b=H b:=if_neg h
theorem agn{o:HO}(h:K8 cs H b=Ya o):b∉cs/\H b=Ya o:=by
 by_cases z:b∈cs
 ·rw[Tj z]at h;cases h
 ·rw[iR z]at h;exact⟨z,h⟩
theorem aaI(h:b∈cs):rln cs H H' b=H b:=if_pos h
theorem qe(h:b∉cs):rln cs H H' b=H' b:=if_neg h
noncomputable abbrev ajg(c:Yc)(v:V):HO:=.ext λh=>∃u,RelV v u/\h.IsCell c (Ya u)
def am5(H:Hp)(c:Yc)(v:V):Prop:=∃o,H c=Ya (.frz o (ajg c v))
noncomputable abbrev FnO(f:Yc)(fo:Y3):HO:=.ext λh=>h.get? f=Ya fo
noncomputable abbrev CdO(c:Yc)(qual:Yj):HO:=.ext λh=>h.CodeRec (.ref c) qual
section
variable{h':YR}{fs:List Yc}
theorem abY(hc:∀c∈cs,∃o φ,H c=Ya (.frz o (.ext φ)))(ok:vd P w H h):vd P w (K8 cs H) h:=λa o e=>by
 obtain⟨_,e⟩:=agn e;refine(ok a o e).stay (λ_ _ _ q=>q) (λb q=>?_) λb xs q=>?_
 ·rw[iR λz=>by obtain⟨_,_,z⟩:=hc b z;rw[q]at z;cases z];exact q
 ·rw[iR λz=>by obtain⟨_,_,z⟩:=hc b z;rw[q]at z;cases z];exact q
theorem ahF(hc:∀c∈cs,∃o φ,H c=Ya (.frz o (.ext φ)))(ok:vd P w H h)(ok':vd P w H' h')(fr:∀c∈cs,H' c=Yb)(kp:∀c∈cs,∀o,h.get? c=Ya o->h'.get? c=Ya o):vd P w (rln cs H H') h':=λa o e=>by
 by_cases z:a∈cs
 ·rw[aaI z]at e;obtain⟨ob,φ,q⟩:=hc a z;rw[q]at e;cases e;obtain⟨e1,p,⟨o2,e2⟩,st⟩:=(show h.get? a=Ya ob/\(φ h/\(∃o,h.get? a=Ya o)/\∀h1 h2:YR,φ h1->(∀o,h1.get? a=Ya o->h2.get? a=Ya o)->φ h2)from ok a _ q);exact⟨kp a z _ e1,st _ _ p (kp a z),⟨o2,kp a z _ e2⟩,st⟩
 ·rw[qe z]at e;refine(ok' a o e).stay (λ_ _ _ q=>q) (λb q=>?_) λb xs q=>?_
  ·rw[qe λy=>by rw[fr b y]at q;cases q];exact q
  ·rw[qe λy=>by rw[fr b y]at q;cases q];exact q
theorem ajq(hc:∀c∈cs,∃o φ,H c=Ya (.frz o (.ext φ)))(u:Un fs [] (K8 cs H) H' h h'):Un fs [] H (rln cs H H') h h' where
 keep:=λb o e n hb hx=>u.keep b o e (by unfold K8;split<;>first|rfl|exact n) hb hx
 slot:=λb o e n hb hx=>u.slot b o e (by unfold K8;split<;>first|rfl|exact n) hb hx
 free:=λb o e n hx=>by
  have nb:b∉cs:=λz=>by obtain⟨_,_,q⟩:=hc b z;rw[n]at q;cases q
  rw[qe nb];exact u.free b o e (by rw[iR nb];exact n) hx
 there:=u.there
 tups:=λb xs q=>by
  have nb:b∉cs:=λz=>by obtain⟨_,_,y⟩:=hc b z;rw[q]at y;cases y
  rw[qe nb];exact u.tups b xs (by rw[iR nb];exact q)
 frzs:=λb o x q=>by
  by_cases z:b∈cs
  ·rw[aaI z];exact q
  ·rw[qe z];exact u.frzs b o x (by rw[iR z];exact q)
 tbls:=λb ps q=>by
  have nb:b∉cs:=λz=>by obtain⟨_,_,y⟩:=hc b z;rw[q]at y;cases y
  rw[qe nb];exact u.tbls b ps (by rw[iR nb];exact q)
end
structure ScM(N ps fr:List Yj)(sc:jv):Prop where
 kind:sc.kind=.function
 co:sc.isCoroutine=false
 gen:sc.isGenerator=false
 nd:N.Nodup
 pre:N.take (ps++fr).length=ps++fr
 par:∀x∈ps,sc.names.lookup x=Ya .local
 fre:∀x∈fr,sc.names.lookup x=Ya .free
 cel:∀y∈sc.names,y.2≠.cell
 all:∀y∈sc.names,y.2=.free->y.1∈fr
noncomputable def cxM(CX:CXT)(P:YJ)(w:YV)(K:Ye)(mg:Yj->Option Yd)(base:YR)(N:List Yj)(qual:Yj)(scope:jv)(f:Yc)(cd:Yd)(cl:List (Yj×Yc))(A:Y4)(outer:List l8)(s:Yh)(H:Hp)(E:XK):Cx where
 prog:=P
 w:=w
 K:=K
 mg:=mg
 base:=base
 A:=A.deeper (nV qual scope s.heap.objs.size f cd cl)
 N:=N
 s₀:=s
 H₀:=K8 (cl.map (·.2)) H
 env:=nV qual scope s.heap.objs.size f cd cl
 outer:=outer
 stack:=nV qual scope s.heap.objs.size f cd cl::outer
 ex:=[]
 calm:=true
 fn:=λ_=>false
 pn:=[]
 xe:=λe s'=>Ym (Ys P w) (A.deeper (nV qual scope s.heap.objs.size f cd cl)) (leaving (nV qual scope s.heap.objs.size f cd cl) e) (λ_ s''=>CX outer H s E e s'') (λe' s''=>CX outer H s E e' s'') s'
theorem Ib{β:Type}:∀{l:List (Yj×β)} {x:Yj} {y:β},(l.map (·.1)).Nodup->(x,y)∈l->l.lookup x=Ya y
 |[],_,_,_,h=>nomatch h
 |(a,b)::l,x,y,nd,h=>by
  rw[YQ,aw]at nd;rw[sM];rcases YC.mp h with e|e
  ·cases e;rw[beq_self_eq_true]
  ·have:x≠a:=λz=>nd.1 (YF.mpr ⟨(x,y),e,z⟩);rw[beq_false_of_ne this];exact Ib nd.2 e
theorem af7(nd:ps.Nodup){u:Yd}(h1:ps[i]?=Ya x)(h2:us[i]?=Ya u):(ps.zip us).reverse.lookup x=Ya u:=by
 refine Ib ?_ (List.mem_reverse.mpr (YE (i:=i) (kL.mpr ⟨h1,h2⟩)));rw[List.map_reverse];refine(List.reverse_perm _).nodup_iff.mpr (nd.sublist ?_);have:∀(ps:List Yj) (us:List Yd),((ps.zip us).map (·.1)).Sublist ps:=by
  intro ps
  induction ps with
  |nil=>intro us;exact List.Sublist.refl _
  |cons p ps ih=>
   intro us;cases us with
   |nil=>exact Fc _
   |cons u us=>exact(ih us).cons₂ _
 exact this ps us
section
variable{E:XK}
def jO(H:Hp)(cl:List (Yj×Yc))(vals:List V):Prop:=cl.length=vals.length/\∀(i:Nat) x c v,cl[i]?=Ya (x,c)->vals[i]?=Ya v->am5 H c v
theorem jO.frz(l:jO H cl vals):∀c∈cl.map (·.2),∃o φ,H c=Ya (.frz o (.ext φ)):=λc hc=>by
 obtain⟨p,hp,rfl⟩:=YF.mp hc;obtain⟨i,hi⟩:=iE hp;have il:=(Yp.mp hi).1;have iv:i<vals.length:=by have:=l.1;omega
 obtain⟨o,e⟩:=l.2 i p.1 p.2 vals[i] hi (Yo iv);exact⟨o,_,e⟩
theorem jO.cell(l:jO H cl vals)(ok:vd P w H h){v:V}(e1:cl[i]?=Ya (x,c))(e2:vals[i]?=Ya v):∃u,RelV v u/\h.IsCell c (Ya u):=by
 obtain⟨o,e⟩:=l.2 i x c v e1 e2;exact(show h.get? c=Ya o/\((∃u,RelV v u/\h.IsCell c (Ya u))/\_)from ok c _ e).2.1
theorem aaw(S:ScM N ps (cl.map (·.1)) scope)(hd:A.handled=Yb)(e0:Te P w K mg base A outer s H)(hl:vs.length=ps.length)(r:Vals vs us)(nd2:(cl.map (·.2)).Nodup)(ln:jO H cl vals){h₁:YR}{tk:Nat}
  (hns:h₁.Ns s.heap.objs.size (λx=>(ps.zip us).reverse.lookup x)) (hk:∀b o,s.heap.get? b=Ya o->h₁.get? b=Ya o):
  bw (cxM CX P w K mg base N qual scope f cd cl A outer s H E) [] (lX N (vs++vals)) (K8 (cl.map (·.2)) H) {s with heap:=h₁,toks:=tk}:=by
 have fz:=ln.frz;have noA:∀b:Yc,b∉(cxM CX P w K mg base N qual scope f cd cl A outer s H E).ex:=λb z=>absurd (show b∈([]:List Yc)from z) (by simp);have lkc:∀x c,cl.lookup x=Ya c->∃(i:Nat) (v:V),cl[i]?=Ya (x,c)/\vals[i]?=Ya v:=λx c h=>by
  obtain⟨i,hi⟩:=iE (df h);have il:=(Yp.mp hi).1;exact⟨i,vals[i]'(by have:=ln.1;omega),hi,Yo _⟩
 have none_of:∀b,H b=Yb->K8 (cl.map (·.2)) H b=none:=λb n=>by unfold K8;split<;>first|rfl|exact n
 have hpl:(ps++cl.map (·.1)).length<=N.length:=by have:=congrArg EK S.pre;rw[ae]at this;omega
 have ndP:(ps++cl.map (·.1)).Nodup:=by rw[←S.pre];exact S.nd.sublist (iP _ _)
 rw[fi]at ndP;refine⟨⟨e0.mod,S.kind,rfl,rfl,Yn _,λy z c h1 h2=>?_,λy hy=>?_,λy c z _=>?_,λ_=>hd,Around.frames_deeper e0.frames,.inr ⟨rfl,rfl⟩,λb z=>absurd z (noA b),λb o e=>⟨(e0.bs b o e).1,none_of b (e0.bs b o e).2⟩,e0.bsz,λb _ _=>noA b,λb z=>absurd z (noA b),e0.funs,λb hb=>none_of b (e0.frf b hb)⟩,
  rfl,e0.bare,Un.kept hk,⟨_,hns,λi y v h1 h2 h3=>?_⟩,λy c h=>?_,none_of _ (e0.hok.fresh (Yn _)),λy c h=>?_,λp hp=>absurd (show p∈([]:List (Yc×Y3))from hp) (by simp),(abY fz e0.hok).kept hk,?_⟩
 ·obtain⟨i,_,hi,_⟩:=lkc y c h1;obtain⟨j,_,hj,_⟩:=lkc z c h2;have il:=(Yp.mp hi).1;have:i=j:=(EH (by rw[Yi];exact il) nd2).mp (by rw[Yv,Yv,hi,hj];rfl);subst this;rw[hi]at hj;cases hj;rfl
 ·have hy:scope.names.lookup y=Ya .cell∨scope.names.lookup y=Ya .free:=hy;rcases hy with hy|hy
  ·exact absurd rfl (S.cel _ (df hy))
  ·obtain⟨p,hp,e⟩:=YF.mp (S.all _ (df hy) rfl);have e:p.1=y:=e;exact⟨p.2,Ib ndP.2.1 (by rw[←e];exact hp)⟩
 ·exact absurd z YS
 ·have hi:i<(vs++vals).length:=by
   unfold lX at h2;by_cases hi:i<(vs++vals).length
   ·exact hi
   ·rw[eW (by simpa using hi)]at h2;rw[y9]at h2;split at h2<;>cases h2
  have ha:(vs++vals)[i]?=Ya v:=by
   unfold lX at h2;rw[fu (by simpa using hi),Yv]at h2;cases e:(vs++vals)[i]? with
   |none=>rw[e]at h2;cases h2
   |some a=>rw[e]at h2;cases h2;rfl
  have l1:=ln.1;rw[YG]at hi;have hp:(ps++cl.map (·.1))[i]?=Ya y:=by
   rw[←S.pre,xA (by rw[YG,Yi];omega)];exact h1
  by_cases z:i<vs.length
  ·rw[fu z]at ha;rw[fu (by omega)]at hp;obtain⟨u,hu,rv⟩:=r.get ha;exact⟨u,rv,.inl ⟨S.par y (YE hp),af7 ndP.1 hp hu⟩⟩
  ·rw[eW (by omega)]at ha;rw[eW (by omega),Yv,←hl]at hp;cases e:cl[i-vs.length]? with
   |none=>rw[e]at hp;cases hp
   |some q=>
    rw[e]at hp;obtain⟨x,c⟩:=q;have hp:x=y:=YL hp;subst hp;obtain⟨u,rv,ic⟩:=ln.cell e0.hok e ha;have xm:x∈cl.map (·.1):=YF.mpr ⟨(x,c),YE e,rfl⟩;exact⟨u,rv,.inr ⟨.inr (S.fre x xm),c,Ib ndP.2.1 (YE e),ic.keeps hk⟩⟩
 ·obtain⟨i,v,e1,e2⟩:=lkc y c h;obtain⟨u,_,ic⟩:=ln.cell e0.hok e1 e2;exact⟨_,ic.keeps hk⟩
 ·obtain⟨i,v,e1,e2⟩:=lkc y c h;exact Tj (YF.mpr ⟨(y,c),YE e1,rfl⟩)
 ·unfold lX;show _=N.length;rw[YG,Yi,AQ,YG];rw[YG,Yi]at hpl;have:=ln.1;omega
end
def Ua(base:YR)(mg:Yj->Option Yd):Prop:=∃bm ob,mg "__builtins__"=Ya (.ref bm)/\bm≠xc/\bm≠Y1/\base.get? bm=Ya ob/\ob.cls=.type "module"/\ob.dict=Ya xc/\ob.data=.plain
section
end
def aeF(cs:List Yc)(Q:VK):VK:=λv H3=>Q v (K8 cs H3)
structure Lnd(H:Hp)(cl:List (Yj×Yc))(vals:List V)(H2:Hp):Prop where
 out:∀b,b∉cl.map (·.2)->H2 b=H b
 non:∀c∈cl.map (·.2),H c=Yb
 all:jO H2 cl vals
structure ajx(X:Cx)(ix:List Nat)(cl:List (Yj×Yc)):Prop where
 len:ix.length=cl.length
 nd:(cl.map (·.2)).Nodup
 at_:∀(j:Nat) i x c,ix[j]?=Ya i->cl[j]?=Ya (x,c)->X.N[i]?=Ya x/\X.env.scope.names.lookup x=Ya .cell/\X.env.cells.lookup x=Ya c/\X.fn x=true
def afR(OK:Yc->Sp->Prop)(tf:TE)(t:TA):TE:=λσ H Q=>tf σ H λx H1=>∃f sp,x=.ref f/\OK f sp/\(∃fo:Y3,(∃fd,fo.data=.func fd)/\H1 f=Ya (FnO f fo))/\t σ H1 λvs H2=>sp vs H2 Q E0
section
theorem agT(F:aG X.prog X.w X.K X.mg X.base bH k f fd ps sp)(hr:eQ k X.A)(hb:Binds X.K fd ps [])(hx:zP bH X E0)(O:ajx X ix cl)(I:bw X pins σ H s)(r:Vals vs us)(lv:cl.length=vals.length)(hv:∀(j:Nat) i v,ix[j]?=Ya i->vals[j]?=Ya v->σ[i]?=Ya (Ya v))(h:∀H2,Lnd H cl vals H2->sp vs H2 (aeF (cl.map (·.2)) Q) E0):
  Ym (Ys X.prog X.w) X.A (call (.ref f) us) (EP X pins σ Q) X.xe s:=by
 have cell:∀(j:Nat) x c v,cl[j]?=Ya (x,c)->vals[j]?=Ya v->(∃u,RelV v u/\s.heap.IsCell c (Ya u))/\X.env.cells.lookup x=Ya c/\X.fn x=true:=λj x c v e1 e2=>by
  have jl:=(Yp.mp e1).1;have jx:j<ix.length:=by have:=O.len;omega
  have hj:ix[j]?=Ya ix[j]:=Yo jx;obtain⟨a1,a2,a3,a4⟩:=O.at_ j _ x c hj e1;obtain⟨m,hn,hl⟩:=I.loc;obtain⟨u,ru,lo⟩:=hl _ x v a1 (hv j _ v hj e2) (.inr (.inl a2));rcases lo with⟨z,_⟩|⟨_,c2,e3,ic⟩
  ·have z:X.env.scope.names.lookup x=Ya .local:=z;rw[a2]at z;cases z
  ·rw[a3]at e3;cases e3;exact⟨⟨u,ru,ic⟩,a3,a4⟩
 have cm:∀c∈cl.map (·.2),∃(j:Nat) (x:Yj) (v:V),cl[j]?=Ya (x,c)/\vals[j]?=Ya v:=λc hc=>by
  obtain⟨p,hp,rfl⟩:=YF.mp hc;obtain⟨j,hj⟩:=iE hp;have jl:=(Yp.mp hj).1;exact⟨j,p.1,vals[j]'(by omega),hj,Yo _⟩
 have cn:∀c∈cl.map (·.2),H c=none:=λc hc=>by
  obtain⟨j,x,v,e1,e2⟩:=cm c hc;exact I.freeC x c (cell j x c v e1 e2).2.1
 have cab:∀c∈cl.map (·.2),X.s₀.heap.objs.size<=c:=λc hc=>by
  obtain⟨j,x,v,e1,e2⟩:=cm c hc;exact I.ok.cab x c (cell j x c v e1 e2).2.2 (cell j x c v e1 e2).2.1
 have cns:∀c∈cl.map (·.2),c∉frs X.stack:=λc hc hb=>by
  rcases YC.mp (I.stkSub c hb)with z|z
  ·obtain⟨j,x,v,e1,e2⟩:=cm c hc;exact I.cne x c (cell j x c v e1 e2).2.1 z
  ·obtain⟨_,o,ho,_⟩:=I.ok.funs.mem z;exact absurd (YM (Yu ho) (cab c hc)) (Y2 _)
 have ex:∃H2:Hp,(∀b,b∉cl.map (·.2)->H2 b=H b)/\∀(j:Nat) x c v,cl[j]?=Ya (x,c)->vals[j]?=Ya v->∃o,s.heap.get? c=Ya o/\H2 c=Ya (.frz o (ajg c v)):=by
  refine⟨λb=>match(cl.zip vals).find? (λp=>decide (p.1.2=b))with|some p=>(s.heap.get? b).map λo=>.frz o (ajg b p.2)|none=>H b,λb hb=>?_,λj x c v e1 e2=>?_⟩
  ·have:(cl.zip vals).find? (λp=>decide (p.1.2=b))=none:=C0.mpr λp hp z=>hb (YF.mpr ⟨p.1,(pV (show(p.1,p.2)∈cl.zip vals from hp)).1,of_decide_eq_true z⟩);dsimp only;rw[this]
  ·obtain⟨⟨u,ru,o,eo,d⟩,_⟩:=cell j x c v e1 e2;refine⟨o,eo,?_⟩;have mz:((x,c),v)∈cl.zip vals:=YE (i:=j) (kL.mpr ⟨e1,e2⟩);cases hf:(cl.zip vals).find? (λp=>decide (p.1.2=c))with
   |none=>exact absurd (decide_eq_true rfl) (C0.mp hf _ mz)
   |some p=>
    have pc:p.1.2=c:=by have:=List.find?_some hf;simpa using this
    obtain⟨j2,hj2⟩:=iE (List.mem_of_find?_eq_some hf);obtain⟨f1,f2⟩:=kL.mp hj2;have jl:=(Yp.mp e1).1;have:j=j2:=(EH (by rw[Yi];exact jl) O.nd).mp (by rw[Yv,Yv,e1,f1,←pc];rfl);subst this;rw[e2]at f2;have pv:p.2=v:=(YL f2).symm;dsimp only;rw[hf];dsimp only;rw[eo,pv];rfl
 obtain⟨H2,out,inn⟩:=ex;have ln:jO H2 cl vals:=⟨lv,λj x c v e1 e2=>let ⟨o,_,e⟩:=inn j x c v e1 e2;⟨o,e⟩⟩;have ld:Lnd H cl vals H2:=⟨out,cn,ln⟩;have es:∀b u,H b=Ya u->b∉cl.map (·.2)/\H2 b=Ya u:=λb u e=>by
  have nb:b∉cl.map (·.2):=λz=>by rw[cn b z]at e;cases e
  exact⟨nb,by rw[out b nb];exact e⟩
 have ok2:vd X.prog X.w H2 s.heap:=λa o e=>by
  by_cases z:a∈cl.map (·.2)
  ·obtain⟨j,x,v,e1,e2⟩:=cm a z;obtain⟨ob,eo,e3⟩:=inn j x a v e1 e2;rw[e3]at e;cases e;refine⟨eo,(cell j x a v e1 e2).1,⟨ob,eo⟩,?_⟩;rintro h1 h2 ⟨u,ru,o,eo,d⟩ k;exact⟨u,ru,o,k _ eo,d⟩
  ·rw[out a z]at e;exact(I.hok a o e).stay (λ_ _ _ q=>q) (λb q=>(es b _ q).2) λb xs q=>(es b _ q).2
 have e0:Te X.prog X.w X.K X.mg X.base X.A X.stack s H2:=⟨I.ok.frames,I.ok.mod,λb o e=>⟨(I.bs b o e).1,by
   rw[out b λz=>absurd (YM (Yu e) (dy I.ok.bsz (cab b z))) (Y2 _)];exact(I.bs b o e).2⟩,dy I.ok.bsz I.sz,I.stack,λb hb=>by rw[out b λz=>cns b z hb];exact I.stkFree b hb,ok2,I.bare⟩
 have hs:=h H2 ld;have hl:us.length=ps.length:=by rw[←r.length];exact F.len _ _ _ _ hs
 refine BD (codeAny_mono (F.run X.A X.stack s H2 ⟨us,[]⟩ us vs _ E0 hr e0 (by have:=hb s us I.kIn (by rw[cy];exact hl);rw[cy]at this;exact this) r hs) λr' s' hq=>?_);cases r' with
 |error e=>exact hx pins σ H s e s' I (by exact hq.elim)
 |ok fl=>
  cases fl with
  |next=>exact eM hq
  |brk=>exact eM hq
  |cont=>exact eM hq
  |ret u=>
   obtain⟨v,H3,os,bare,un,hok3,rv,q⟩:=hq;have fz:∀c∈cl.map (·.2),∃o φ,s.heap.get? c=Ya o/\H3 c=Ya (.frz o (.ext φ)):=λc hc=>by
    obtain⟨j,x,v,e1,e2⟩:=cm c hc;obtain⟨o,eo,e3⟩:=inn j x c v e1 e2;exact⟨o,_,eo,un.frzs c o _ e3⟩
   have fz':∀c∈cl.map (·.2),∃o φ,H3 c=Ya (.frz o (.ext φ)):=λc hc=>let ⟨o,φ,_,e⟩:=fz c hc;⟨o,φ,e⟩;have un2:Un (frs X.stack) [] H (K8 (cl.map (·.2)) H3) s.heap s'.heap:=by
    refine⟨λb o e n hb hx=>?_,λb o e n hb hx=>?_,λb o e n hx=>?_,un.there,λb xs e=>?_,λb o u e=>?_,λb qs e=>?_⟩
    ·by_cases z:b∈cl.map (·.2)
     ·obtain⟨o',φ,eo,e3⟩:=fz b z;rw[e]at eo;cases eo;exact(show s'.heap.get? b=Ya o/\_ from hok3 b _ e3).1
     ·exact un.keep b o e (by rw[out b z];exact n) hb hx
    ·exact un.slot b o e (by rw[out b λz=>cns b z hb];exact n) hb hx
    ·by_cases z:b∈cl.map (·.2)
     ·exact Tj z
     ·rw[iR z];exact un.free b o e (by rw[out b z];exact n) hx
    ·obtain⟨nb,e2⟩:=es b _ e;rw[iR nb];exact un.tups b xs e2
    ·obtain⟨nb,e2⟩:=es b _ e;rw[iR nb];exact un.frzs b o u e2
    ·obtain⟨nb,e2⟩:=es b _ e;rw[iR nb];exact un.tbls b qs e2
   obtain⟨hh,g,d,t,os'⟩:=s';obtain rfl:os'=s.os:=os;exact⟨v,_,I.call (h':=hh) (g':=g) (d':=d) (t':=t) (ch:=[]) un2 (abY fz' hok3) bare (λb z=>absurd z (by simp)),rv,q⟩
theorem ae2{p:hJ}(hOK:∀f sp,OK f sp->(∃fd ps,aG X.prog X.w X.K X.mg X.base bH k f fd ps sp/\Binds X.K fd ps [])/\∀vs H Q E,sp vs H Q E->∃fo:Y3,(∃fd,fo.data=.func fd)/\H f=Ya (FnO f fo))(hr:eQ k X.A)(hp:zP bH X E0)(hf:PE X (.Name x p) tf)(ha:PA X (e::es) t)(he:YO (e::es) X.env=(false,aE e X.env)::YO es X.env:=by rfl)(hpl:(dE pos (YO es X.env)).any (·.1)=false:=by rfl):
  PE X (.Call (.Name x p) (e::es) [] pos) (afR OK tf t):=by
 intro pins s σ H Q I h;refine eL (dN (hf pins s σ H _ I h) λu s1 zz=>?_);obtain⟨v,H1,I1,r1,q1⟩:=zz;obtain⟨f,sp,rfl,ok,⟨fo1,⟨fd1,d1⟩,e1⟩,q⟩:=q1;cases r1;obtain⟨⟨fd,ps,F,hb⟩,hH⟩:=hOK f sp ok;have at1:∀{H1:Hp} {s1:Yh} {fo:Y3} {fd:Yt},vd X.prog X.w H1 s1.heap->H1 f=Ya (FnO f fo)->fo.data=.func fd->PySem.W.FnAt f s1.heap:=fun{H1 s1 fo fd} ok e d=>by
  have:=(show s1.heap.get? f=Ya fo/\_ from ok f _ e).1;obtain⟨c,di,dat,sl⟩:=fo;have d:dat=.func fd:=d;subst d;exact⟨c,di,fd,sl,this⟩
 refine PySem.W.callWith_F (first:=[]) (at1 I1.hok e1 d1) (dN (ha pos pins s1 σ H1 _ I1 q) λus s2 zz=>?_) he hpl;obtain⟨vs,H2,I2,r,q2⟩:=zz;obtain⟨fo2,⟨fd2,d2⟩,e2⟩:=hH _ _ _ _ q2;exact⟨at1 I2.hok e2 d2,Ak F hr hb .nil hp I2 r (by rw[cy];exact q2)⟩
theorem aic(h:tf σ H λx H1=>∃f sp,x=.ref f/\OK f sp/\(∃fo:Y3,(∃fd,fo.data=.func fd)/\H1 f=Ya (FnO f fo))/\t σ H1 λvs H2=>sp vs H2 Q E0):afR OK tf t σ H Q:=h
end
def afy(ts:List Yc)(H:Hp):Prop:=(∀b,H b=Yb∨(∃o xs,H b=Ya (.frz o (.lst xs)))∨(b∈ts/\H b=Ya (.tbl #[])))/\∀t∈ts,H t=Ya (.tbl #[])
theorem adK{mb:Yj->Option Yd}{fa:Yc}{s₁:Yh}{vs:List Yd}{ns:List Int}{ts:List Yc}(KX:K.In s₁.heap)(hns:s₁.heap.Ns Y1 mg)(hb:s₁.heap.Ns xc mb)(hbb:∀x:Yj,x≠"__name__"->mb x=iq x)(hlim:s₁.heap.NoLimit)(hg:s₁.gens=#[])(hB:Ua s₁.heap mg)(ha:s₁.heap.get? a=Ya {cls:=.type "list",data:=.seq vs.toArray})(hi:bg vs ns)(hl:ns.length<=YB)(hr:eQ k xw)(hts:∀t∈ts,K.lookup t=Yb/\s₁.heap.get? t=Ya (nX #[])/\isCodeTable s₁.heap t)(F:∀base:YR,K.In base->base.Ns Y1 mg->Ua base mg->aG P w K mg base bH k fa fd [x] sp)(hbind:∀(s:Yh) (u:Yd),AO s fd ⟨[u],[]⟩ [(x,u)])(hsp:∀H:Hp,afy ts H->bI K H a (ns.map V.int)->sp [.ref a] H (λv _=>v=.bl true) λ_ _ _=>False)(hCX:∀H e s',bH [] H s₁ (λ_ _ _=>False) e s'->False):
  de (Ys P w) xw (.call (.ref fa) ⟨[.ref a],[]⟩) (λr s'=>r=.ok (.ret (.bool true))/\OldK s₁.heap s'.heap/\s'.os=s₁.os/\sQ s'.gens) s₁:=by
 have rv:=Jj hi;have lenV:=hi.length;have nta:∀t∈ts,t≠a:=λt ht z=>by
  have:=(hts t ht).2.1;rw[z,ha]at this;cases this
 have core:∀H:Hp,afy ts H->bI K H a (ns.map V.int)->vd P w H s₁.heap->(∀b,H b≠Yb->b=a∨b∈ts)->(H a≠Yb->K.lookup a=Yb)->
   de (Ys P w) xw (.call (.ref fa) ⟨[.ref a],[]⟩) (λr s'=>r=.ok (.ret (.bool true))/\OldK s₁.heap s'.heap/\s'.os=s₁.os/\sQ s'.gens) s₁:=by
  intro H hO hS hok hA hK;have free:∀{b:Yc} {o:Y3},s₁.heap.get? b=Ya o->(∀it n,o.data≠.seq it n)->(∀fs,o.data≠.fields fs)->H b=none:=fun{b o} e n1 n2=>by
   cases q:H b with
   |none=>rfl
   |some u=>
    rcases hA b (by rw[q];simp)with z|z
    ·rw[z,ha]at e;cases e;exact absurd rfl (n1 _ _)
    ·rw[(hts b z).2.1]at e;cases e;exact absurd rfl (n2 _)
  have nsK:∀{b:Yc} {m:Yj->Option Yd},s₁.heap.Ns b m->(Tf s₁.heap H).Ns b m:=fun{b m} ⟨o,es,ep,e,d,r⟩=>⟨o,es,ep,Nt e (free e (λ_ _ z=>by rw[d]at z;cases z) λ_ z=>by rw[d]at z;cases z),d,r⟩;have hKb:K.In (Tf s₁.heap H):=λb o e=>Nt (KX b o e) (by
   cases q:H b with
   |none=>rfl
   |some u=>
    rcases hA b (by rw[q];simp)with z|z
    ·subst z;rw[hK (by rw[q];simp)]at e;cases e
    ·rw[(hts b z).1]at e;cases e)
  have hM:Mod K mg (Tf s₁.heap H):=⟨hKb,nsK hns,⟨mb,nsK hb,hbb⟩,let ⟨mc,h1,h2⟩:=hlim;⟨mc,nsK h1,h2⟩⟩;have hB':Ua (Tf s₁.heap H) mg:=let ⟨bm,ob,b1,b2,b3,b4,b5,b6,b7⟩:=hB;⟨bm,ob,b1,b2,b3,Nt b4 (free b4 (λ_ _ z=>by rw[b7]at z;cases z) λ_ z=>by rw[b7]at z;cases z),b5,b6,b7⟩;have e0:Te P w K mg (Tf s₁.heap H) xw [] s₁ H:=⟨rfl,hM,λb o e=>agS e,kR (ac9 _ _),trivial,λb hb=>absurd (show b∈([]:List Yc)from hb) (by simp),hok,.of_eq hg⟩;refine codeAny_mono ((F _ hKb (nsK hns) hB').run xw [] s₁ H ⟨[.ref a],[]⟩ [.ref a] [.ref a] _ _ hr e0 (hbind s₁ (.ref a)) (.cons rfl .nil) (hsp H hO hS)) λr s' h=>?_;cases r with
  |error e=>exact(hCX H e s' h).elim
  |ok fl=>
   cases fl with
   |next=>exact eM h
   |brk=>exact eM h
   |cont=>exact eM h
   |ret u=>
    obtain⟨v,H',os,bare,un,hok',r',q⟩:=h;have q':v=.bl true:=q;subst q';obtain rfl:u=ti true:=r';have grown:∀t∈ts,∃ps,s'.heap.get? t=Ya (nX ps):=λt ht=>by
     obtain⟨more,e⟩:=un.tbls t #[] (hO.2 t ht);exact⟨_,(show s'.heap.get? t=Ya {cls:=.none,data:=.fields (#[]++more)}from hok' t _ e)⟩
    have keep:∀b o,b∉ts->s₁.heap.get? b=Ya o->s'.heap.get? b=Ya o:=λb o nb e=>by
     rcases hO.1 b with z|⟨ob,xs,z⟩|⟨z,_⟩
     ·exact un.keep b o e z (by intro z;exact absurd (show b∈([]:List Yc)from z) (by simp)) (by simp)
     ·obtain⟨e1,_⟩:=hok b _ z;obtain⟨e2,_⟩:=hok' b _ (un.frzs b ob _ z);rw[e]at e1;cases e1;exact e2
     ·exact absurd z nb
    refine⟨rfl,⟨λb o e=>?_,λb o e=>?_⟩,os,bare⟩
    ·by_cases hb:b∈ts
     ·obtain⟨ps,hP⟩:=grown b hb;obtain⟨_,e2,ct⟩:=hts b hb;rw[e]at e2;cases e2;exact .inr (.inl ⟨ct,rfl,#[],ps,rfl,by rw[Array.empty_append];exact hP⟩)
     ·exact .inl (keep b o hb e)
    ·by_cases hb:b∈ts
     ·obtain⟨ps,hP⟩:=grown b hb;exact⟨_,hP⟩
     ·exact⟨o,keep b o hb e⟩
 cases hk:K.lookup a with
 |some o=>
  have e:=KX a o hk;rw[ha]at e;cases e;refine core (λb=>if b∈ts then Ya (.tbl #[])else Yb) ⟨λb=>?_,λt ht=>if_pos ht⟩ (.inr ⟨_,vs.toArray,_,hk,rfl,rfl,rfl,by rw[Yx,lenV];exact hl,by simpa using rv⟩) (λb u z=>?_) (λb z=>?_) λz=>?_
  ·by_cases hb:b∈ts
   ·exact .inr (.inr ⟨hb,if_pos hb⟩)
   ·exact .inl (if_neg hb)
  ·by_cases hb:b∈ts
   ·have z':=(if_pos hb).symm.trans z;cases z';exact(hts b hb).2.1
   ·have z':=(if_neg hb).symm.trans z;cases z'
  ·by_cases hb:b∈ts
   ·exact .inr hb
   ·exact absurd (if_neg hb) z
  ·exact absurd (if_neg λq=>nta a q rfl) z
 |none=>
  refine core (λb=>if b=a then Ya (.frz {cls:=.type "list",data:=.seq vs.toArray} (.lst (ns.map V.int)))else if b∈ts then Ya (.tbl #[])else Yb) ⟨λb=>?_,λt ht=>?_⟩ (.inl (.inr ⟨{cls:=.type "list",data:=.seq vs.toArray},if_pos rfl⟩)) (λb u z=>?_) (λb z=>?_) λ_=>hk
  ·by_cases hb:b=a
   ·exact .inr (.inl ⟨_,_,if_pos hb⟩)
   ·by_cases ht:b∈ts
    ·exact .inr (.inr ⟨ht,by dsimp only;rw[if_neg hb,if_pos ht]⟩)
    ·exact .inl (by dsimp only;rw[if_neg hb,if_neg ht])
  ·dsimp only;rw[if_neg (nta t ht),if_pos ht]
  ·dsimp only at z;by_cases hb:b=a
   ·rw[if_pos hb]at z;cases z;subst hb;exact⟨ha,by rw[Yi];exact hl,vs,_,rv,ha⟩
   ·rw[if_neg hb]at z;by_cases ht:b∈ts
    ·rw[if_pos ht]at z;cases z;exact(hts b ht).2.1
    ·rw[if_neg ht]at z;cases z
  ·by_cases hb:b=a
   ·exact .inl hb
   ·rw[if_neg hb]at z;by_cases ht:b∈ts
    ·exact .inr ht
    ·rw[if_neg ht]at z;exact absurd rfl z
theorem aeO{l:FV}{q:YJ}{loose:List Yj}{XP:(Yj->Option Yd)->YR->Prop}{YP:YV->YR->Prop}{d:DefRec}{K:Params->Ye}{sp:YV->Sp}{tabs:List (Yc×Yc)}(hn:l.most=Ya n)(hn2:n<=YB)(hdf:d.params.defaults=[])(hr:eQ k xw)(hY:∀(w:YV) (h:YR),YP w h->(K w.params).In h/\∀t∈tabs.map (·.2),h.get? t=Ya (nX #[]))(hK:∀(w:YV),∀q∈tabs,Fh (K w.params) q.1 q.2=true/\(K w.params).lookup q.2=Yb)(F:∀(w:YV) (mg:Yj->Option Yd) (fa:Yc) (h:YR),(K w.params).In h->h.Ns Y1 mg->mg d.name=Ya (.ref fa)->
   ∃fd:Yt,(∀(s:Yh) (u:Yd),AO s fd ⟨[u],[]⟩ [(x,u)])/\
    ∀base:YR,(K w.params).In base->base.Ns Y1 mg->Ua base mg->aG l.prog w (K w.params) mg base bH k fa fd [x] (sp w)) (hsp:∀(w:YV) (H:Hp) (a:Yc) (ns:List Int),ns.length<=n->afy (tabs.map (·.2)) H->bI (K w.params) H a (ns.map V.int)->sp w [.ref a] H (λv _=>v=.bl true) λ_ _ _=>False) (hCX:∀(H:Hp) (s:Yh) (e:Yd) (s':Yh),bH [] H s (λ_ _ _=>False) e s'->False):
  HE q loose XP YP l.row.toRowW d [] (λf vs=>PySem.call f vs):=by
 refine Att.attach_call hn hdf λw s₀ s₁ mg mb fa o pm cd doc a vs ns G Y ho hd hcd hmg hobj hints hlen hg=>?_;obtain⟨KX,hT⟩:=hY w _ Y;obtain⟨fd,hb,hF⟩:=F w mg fa _ KX G.T.g hmg;have hB:Ua s₁.heap mg:=by
  obtain⟨bm,ob,b1,b2,b3,b4,b5,b6⟩:=G.T.bmain;refine⟨bm,ob,b1,b2,λz=>?_,b3,b4,b5,b6⟩;obtain⟨o,es,ep,e,hd,_⟩:=G.T.g;rw[z,e]at b3;cases b3;rw[hd]at b6;cases b6
 refine adK (ts:=tabs.map (·.2)) KX G.T.g G.T.b G.T.builtins G.T.nolimit hg hB hobj hints (dy hlen hn2) hr (λt ht=>?_) hF hb (λH hO hS=>hsp w H a ns hlen hO hS) λH e s'=>hCX H s₁ e s';obtain⟨q,hq,rfl⟩:=YF.mp ht;obtain⟨h1,h2⟩:=hK w q hq;exact⟨h2,hT _ ht,((PySem.W.codeHd_of_K KX h1).tab (hT _ ht)).isCodeTable⟩
structure ae6(K:Ye)(x qual:Yj)(st:YN)(f:Yc)(fd:Yt)(c:Yc):Prop where
 ex:∃(oc:Yd) (od:Option Yc) (kV doc pm:Yd) (an:Option Yc) (ct:Yd) (osl:Array (Option Yd)),
  fd=d4 x qual (iK st) (eZ st) (aA st) .none kV doc pm an (.ref c) ct/\K.lookup f=Ya ⟨oc,od,.func fd,osl⟩/\kQ K (.ref c) qual=true
noncomputable def amI(s:YN)(j:Nat):YN:=(eZ s).getD j (.Pass ⟨0,0,0,0⟩)
section
theorem ae6.ok{st:YN}(F:ae6 K x qual st f fd c)(S:aD N ps (aA st))(len:∀vs H Q E,sp vs H Q E->vs.length=ps.length)(hbody:∀(A:Y4) (outer:List l8) (s:Yh) (H:Hp) (vs:List V) (Q:VK) (E:XK),eQ k (A.deeper (mv qual (aA st) s.heap.objs.size f (.ref c)))->sp vs H Q E->
   ∃t,XN (RN bH P w K mg base N qual (aA st) f (.ref c) A outer s H E).nox (eZ st) t/\t {nx:=λ_ H'=>Q .non H',rt:=Q} (lX N vs) H):aG P w K mg base bH (k+ 1) f fd ps sp:=by
 obtain⟨oc,od,kV,doc,pm,an,ct,osl,rfl,lk,hcd⟩:=F.ex;refine aez lk hcd S len λA outer s H vs Q E hr hsp=>?_;obtain⟨t,h,q⟩:=hbody A outer s H vs Q E hr hsp;exact⟨t,h.nox,q⟩
end
theorem abw{u:HO}(hc:∀c∈cs,∃o φ,H c=Ya (.frz o (.ext φ)))(e:H b=Ya u)(n:∀o φ,u≠.frz o (.ext φ)):K8 cs H b=Ya u:=by
 rw[iR λz=>by obtain⟨o,φ,q⟩:=hc b z;rw[e]at q;cases q;exact n _ _ rfl];exact e
theorem aeP(s:aO (K8 cs H) H'):aO H (rln cs H H'):=λb o e=>by
 by_cases z:b∈cs
 ·rw[aaI z];exact e
 ·rw[qe z];exact s b o (by rw[iR z];exact e)
theorem Lnd.same{H2:Hp}(l:Lnd H cl vals H2):aO H H2:=λb o e=>by
 rw[l.out b λz=>by rw[l.non b z]at e;cases e];exact e
theorem jO.up(l:jO H cl vals)(s:aO H H'):jO H' cl vals:=⟨l.1,λi x c v e1 e2=>let ⟨o,e⟩:=l.2 i x c v e1 e2;⟨o,s _ _ e⟩⟩
def aj7(Pt:Yc)(pos:hJ)(qual:Yj)(H:Hp):Prop:=H Pt=Ya (.tbl #[])∨∃c',H Pt=Ya (.tbl #[rawInt pos.line,rawInt pos.col,.ref c'])/\H c'=Ya (CdO c' qual)
section
end
section
end
section
theorem aad(hc:X.calm=true):iZ X (.type "list") (λxs H Q=>∃(d:Yc) (m:List (Int×V)),xs=[.ref d]/\Rd H d (.dK (dG m))/\m.length<=1000/\∀(l:Yc),H l=Yb->Q (.ref l) (upd H l (.lst ((m.map (·.1)).map V.int)))):=by
 intro pins s σ H xs us Q I r h;obtain⟨d,m,rfl,hd,hlen,q⟩:=h;obtain⟨u,rfl,rx⟩:=j0 r;cases rx;obtain⟨z,hS,vs,rel,dd⟩:=Ax I.hok hd;obtain⟨ep,hat⟩:=dd.dictAt;have hl:vs.length=m.length:=by rw[←rel.length,Jt]
 refine sP (A:=X.A) (sN (knd:=bK X.prog X.w) (kvs:=vs) (ep:=ep) hS) (I.ok.hd hc) hat (by rw[hl];exact Y7 (aU (by omega))) λh' tk acc c hk he hacc=>?_;have hi:bg acc.toList (m.map (·.1)):=Fd (P:=X.prog) (w:=X.w) rel (by rw[aT];exact hacc.1) λj v e=>hacc.2 j v (by rw[←Y9];exact e);exact⟨.ref s.heap.objs.size,_,I.lay_ints (tk:=tk) (e:=c) hk he hi (by rw[Yi];exact Y7 (aU (by omega))),rfl,q _ (I.hok.fresh (Yn _))⟩
end
section
variable{me hd ba ye vo re ag:V}
theorem Oo:(CQ me hd ba ye vo re ag).lookup ("has_enough":Yj)=none:=by kernel_rfl
theorem U8:(CQ me hd ba ye vo re ag).lookup ("made_by":Yj)=none:=by kernel_rfl
theorem Wh:(CQ me hd ba ye vo re ag).lookup ("propose":Yj)=none:=by kernel_rfl
end
def mtL(ms:List (Yc×Sp))(m:Yj)(ix:List Nat)(cl:List (Yj×Yc))(t:TA)(σ:St)(x:V)(H:Hp)(Q:VK):Prop:=
 ∃cs∈ms,∃a dx fs,x=.ref a/\H a=Ya (.ins cs.1 dx fs)/\fs.lookup m=Yb/\t σ H λvs H2=>∃vals:List V,cl.length=vals.length/\(∀(j:Nat) i v,ix[j]?=Ya i->vals[j]?=Ya v->σ[i]?=Ya (Ya v))/\
  ∀H3,Lnd H2 cl vals H3->cs.2 (x::vs) H3 (aeF (cl.map (·.2)) Q) E0
def agg(ms:List (Yc×Sp))(m:Yj)(ix:List Nat)(cl:List (Yj×Yc))(ta:TE)(t:TA):TE:=λσ H Q=>ta σ H λx H1=>mtL ms m ix cl t σ x H1 Q
section
variable{apos:hJ}{o:YY}
theorem afC{pl:vj Bool}(M:cH X.prog X.w X.K X.mg X.base k m ms)(he:PE X o ta)(hr:eQ k X.A)(O:ajx X ix cl)(ha:PA X (e::es) t)(hst:YO (e::es) X.env=(false,aE e X.env)::YO es X.env:=by rfl)(hpl:(dE pos (YO es X.env)).any (·.1)=false:=by rfl)(ht:aE (.Call (.Attribute o m apos) (e::es) [] pos) X.env=(do
   let ov←aE o X.env
   qV apos.atName
   let (f,first)←mi [ov] (qq ov m pl)
   uu pos f first (dE pos (YO (e::es) X.env)) (kz pos (fE [] X.env))):=by rfl):
  PE X (.Call (.Attribute o m apos) (e::es) [] pos) (agg ms m ix cl ta t):=by
 intro pins s σ H Q I h;refine hU (pl:=pl) (dN (he pins s σ H _ I h) λu s1 zz=>?_) ht;obtain⟨x,H1,I1,rx,cs,hcs,a,dx,fs,ex,ea,l,q⟩:=zz;subst ex;obtain rfl:u=Y0 a:=rx;obtain⟨f,fd,ps,c,hm,F,hb⟩:=M cs hcs;refine qU I1 ea c hm l ?_;refine mn (first:=[.ref a]) (h₀:=X.base) I.ok.mod.kin hm.kp (dN (ha pos pins s1 σ H1 _ I1 q) λus s2 ⟨vs,H2,I2,r,vals,lv,hv,q2⟩=>⟨I2.kIn,?_⟩) hst hpl;exact agT (us:=.ref a::us) (vs:=.ref a::vs) F hr hb qZ O I2 (.cons rfl r) lv hv q2
end
section
theorem ah3(h:ta σ H λx H1=>mtL ms m ix cl t σ x H1 Q):agg ms m ix cl ta t σ H Q:=h
theorem amq{dx:Yc}{fs:List (Yj×V)}(e:H a=Ya (.ins C dx fs))(l:fs.lookup m=Yb)(h:t σ H λvs H2=>∃vals:List V,cl.length=vals.length/\(∀(j:Nat) i v,ix[j]?=Ya i->vals[j]?=Ya v->σ[i]?=Ya (Ya v))/\
  ∀H3,Lnd H2 cl vals H3->sp (.ref a::vs) H3 (aeF (cl.map (·.2)) Q) E0):mtL ((C,sp)::ms) m ix cl t σ (.ref a) H Q:=⟨_,Yl,a,dx,fs,rfl,e,l,h⟩
end
section
end
def spF(f c':Yc)(fo:Y3)(qual:Yj)(cl:List (Yj×Yc))(vals:List V)(sp:Sp):Sp:=λvs H Q E=>H f=Ya (FnO f fo)/\H c'=Ya (CdO c' qual)/\jO H cl vals/\sp vs (K8 (cl.map (·.2)) H) (λv H'=>(∀c∈cl.map (·.2),H' c=Yb)->Q v (rln (cl.map (·.2)) H H')) E
section
variable{E:XK}
end
section
end
section
end
section
variable{E:XK}
end
section
variable{B h2:YR}{ea:Yc}{a0:Yd}
end
section
end
section
variable{M:Model}
end
section
variable{pins':List (Yc×Y3)}{EE:St->XK}
end
end L2
namespace L2
open PySem PySem.Spec PyProof.Rows PySem.W
section
variable{prog:YJ}{w:YV}{A:Y4}{E:Yd->Yh->Prop}{K:Ye}{x C:Yc}
end
end L2
namespace L2
open PySem PySem.Spec PyProof.Rows
variable{X:Cx}
section
variable{P:YJ}{w:YV}{K:Ye}{mg:Yj->Option Yd}{base:YR}
end
section
variable{k:Nat}{f:Yc}{fd:Yt}{ps:List Yj}{sp:Sp}{x:Yj}{e:YY}{es:List YY}{t:TA}{p pos:hJ}
end
section
variable{D:Er}{σ:St}{H:Hp}{Q:VK}
end
section
variable{tg:YY}
end
end L2
namespace L2
open PySem PySem.Spec PyProof.Rows PySem.W
variable{prog:YJ}{w:YV}{A:Y4}{E:Yd->Yh->Prop}{K:Ye}{x C f:Yc}{name:Yj}{v:Yd}{s:Yh}{X:Cx}{H:Hp}{B newId initId:String}{bmB:List Yd}
section
end
section
variable{vs:Array Yd}{sl:Array (Option Yd)}
end
section
variable{pins:List (Yc×Y3)}{σ:St}{e dx:Yc}{f:Yj}{y:V}{u:Yd}
end
section
variable{fI:Yc}{h:YR}{g:Array GenState}{d:HL}{t:Nat}{os:OsState}
end
section
variable{k:Nat}{fd:Yt}{ps:List Yj}{sp:Sp}
end
section
variable{env:l8}
end
section
variable{P:YJ}{mg:Yj->Option Yd}{base:YR}{N:List Yj}{qual:Yj}{scope:jv}{cd:Yd}{outer:List l8}{E:XK}
end
end L2
namespace L2
open PySem PySem.Spec PyProof.Rows
variable{f C:Yc}{fd:Yt}{ps:List Yj}{k:Nat}{sp:Sp}{m:Yj}{ta:TE}{t:TA}
structure Jo(K:Ye)(x qual:Yj)(st:YN)(f:Yc)(fd:Yt)(ds:List Yd):Prop where
 ex:∃(oc:Yd) (od:Option Yc) (kV doc pm:Yd) (an:Option Yc) (cdv ct:Yd) (osl:Array (Option Yd)) (T:Yc) (tc:Yd) (td:Option Yc) (tn:Nat) (tsl:Array (Option Yd)),
  fd=d4 x qual (iK st) (eZ st) (aA st) (.ref T) kV doc pm an cdv ct/\K.lookup f=Ya ⟨oc,od,.func fd,osl⟩/\kQ K cdv qual=true/\K.lookup T=Ya ⟨tc,td,.seq ds.toArray tn,tsl⟩
section
variable{P:YJ}{w:YV}{K:Ye}{mg:Yj->Option Yd}{base:YR}{x qual:Yj}{st:YN}{ds ds':List Yd}
theorem Jo.ok{N:List Yj}(F:Jo K x qual st f fd ds)(S:aD N ps (aA st))(len:∀vs H Q E,sp vs H Q E->vs.length=ps.length)(hbody:∀(cdv:Yd) (A:Y4) (outer:List l8) (s:Yh) (H:Hp) (vs:List V) (Q:VK) (E:XK),eQ k (A.deeper (mv qual (aA st) s.heap.objs.size f cdv))->sp vs H Q E->
   ∃t,XN (RN bH P w K mg base N qual (aA st) f cdv A outer s H E).nox (eZ st) t/\t {nx:=λ_ H'=>Q .non H',rt:=Q} (lX N vs) H):aG P w K mg base bH (k+ 1) f fd ps sp:=by
 obtain⟨oc,od,kV,doc,pm,an,cdv,ct,osl,T,tc,td,tn,tsl,rfl,lk,hcd,_⟩:=F.ex;refine aez lk hcd S len λA outer s H vs Q E hr hsp=>?_;obtain⟨t,h,q⟩:=hbody cdv A outer s H vs Q E hr hsp;exact⟨t,h.nox,q⟩
theorem Jo.binds(F:Jo K x qual st f fd ds)(h:∀(kV doc pm:Yd) (an:Option Yc) (cdv ct:Yd) (T:Yc) (us:List Yd),(us++ds').length=ps.length->∃k,BC (d4 x qual (iK st) (eZ st) (aA st) (.ref T) kV doc pm an cdv ct) ⟨us,[]⟩=zw (.ref T) >>= k/\k (Ya ds.toArray)=pure (ps.zip (us++ds'))):Binds K fd ps ds':=by
 obtain⟨oc,od,kV,doc,pm,an,cdv,ct,osl,T,tc,td,tn,tsl,rfl,lk,hcd,lT⟩:=F.ex;intro s us X hl;obtain⟨k,h1,h2⟩:=h kV doc pm an cdv ct T us hl;exact .of_defaults rfl (X _ _ lT) rfl h1 h2
theorem Ls{oc:Yd}{od an:Option Yc}{osl:Array (Option Yd)}{kV doc pm cdv ct:Yd}{T:Yc}{tc:Yd}{td:Option Yc}{tn:Nat}{tsl:Array (Option Yd)}(l:K.lookup f=Ya ⟨oc,od,.func (d4 x qual (iK st) (eZ st) (aA st) (.ref T) kV doc pm an cdv ct),osl⟩)
  (c:kQ K cdv qual=true) (t:K.lookup T=Ya ⟨tc,td,.seq ds.toArray tn,tsl⟩):Jo K x qual st f (d4 x qual (iK st) (eZ st) (aA st) (.ref T) kV doc pm an cdv ct) ds:=⟨⟨oc,od,kV,doc,pm,an,cdv,ct,osl,T,tc,td,tn,tsl,rfl,l,c,t⟩⟩
end
section
variable{X:Cx}{e o:YY}{es:List YY}{p pos apos:hJ}
end
section
variable{D:Er}{σ:St}{H:Hp}{Q:VK}
theorem abz{dvs:List V}{E:XK}(h:ta σ H λx H1=>∃a dx fs,x=.ref a/\H1 a=Ya (.ins C dx fs)/\fs.lookup m=Yb/\t σ H1 λvs H2=>sp (x::(vs++dvs)) H2 Q E):abX C m sp dvs E ta t σ H Q:=h
theorem al8{r:List V->List V->Hp->VK->Prop}{tk:TA}(h:t σ H λvs H1=>tk σ H1 λzs H2=>r vs zs H2 Q):alc r t tk σ H Q:=h
end
noncomputable def Ji(me nu ha ro ma dn tk kp od tb ab:V):List (Yj×V):=[("me",me),("number",nu),("hands",ha),("room",ro),("made",ma),("done",dn),("took",tk),("keeps",kp),("order",od),("taken_by",tb),("able_by",ab)]
structure Rv(K:Ye)(C:Yc):Prop where
 cl:QL K C
 n1:bY K C "me"
 n2:bY K C "number"
 n3:bY K C "hands"
 n4:bY K C "room"
 n5:bY K C "made"
 n6:bY K C "done"
 n7:bY K C "took"
 n8:bY K C "keeps"
 n9:bY K C "order"
 n10:bY K C "taken_by"
 n11:bY K C "able_by"
section
variable{me nu ha ro ma dn tk kp od tb ab v:V}
theorem ahq:cU "able_by" ab (cU "taken_by" tb (cU "order" od (cU "keeps" kp (cU "took" tk (cU "done" dn (cU "made" ma (cU "room" ro (cU "hands" ha (cU "number" nu (cU "me" me []))))))))))=Ji me nu ha ro ma dn tk kp od tb ab:=by kernel_rfl
theorem aah:cU "keeps" v (Ji me nu ha ro ma dn tk kp od tb ab)=Ji me nu ha ro ma dn tk v od tb ab:=by kernel_rfl
theorem abg:cU "order" v (Ji me nu ha ro ma dn tk kp od tb ab)=Ji me nu ha ro ma dn tk kp v tb ab:=by kernel_rfl
theorem ajX:(Ji me nu ha ro ma dn tk kp od tb ab).lookup ("me":Yj)=Ya me:=by kernel_rfl
theorem aaO:(Ji me nu ha ro ma dn tk kp od tb ab).lookup ("number":Yj)=Ya nu:=by kernel_rfl
theorem acW:(Ji me nu ha ro ma dn tk kp od tb ab).lookup ("hands":Yj)=Ya ha:=by kernel_rfl
theorem aeD:(Ji me nu ha ro ma dn tk kp od tb ab).lookup ("done":Yj)=Ya dn:=by kernel_rfl
theorem afG:(Ji me nu ha ro ma dn tk kp od tb ab).lookup ("took":Yj)=Ya tk:=by kernel_rfl
theorem ada:(Ji me nu ha ro ma dn tk kp od tb ab).lookup ("keeps":Yj)=Ya kp:=by kernel_rfl
theorem ac5:(Ji me nu ha ro ma dn tk kp od tb ab).lookup ("order":Yj)=Ya od:=by kernel_rfl
theorem Ss:(Ji me nu ha ro ma dn tk kp od tb ab).lookup ("taken_by":Yj)=Ya tb:=by kernel_rfl
theorem Vf:(Ji me nu ha ro ma dn tk kp od tb ab).lookup ("able_by":Yj)=Ya ab:=by kernel_rfl
theorem Np:(Ji me nu ha ro ma dn tk kp od tb ab).lookup ("kept_calls":Yj)=none:=by kernel_rfl
theorem afK:(Ji me nu ha ro ma dn tk kp od tb ab).lookup ("step":Yj)=none:=by kernel_rfl
theorem abf:(Ji me nu ha ro ma dn tk kp od tb ab).lookup ("let_go":Yj)=none:=by kernel_rfl
theorem acE:(Ji me nu ha ro ma dn tk kp od tb ab).lookup ("piece":Yj)=none:=by kernel_rfl
theorem aa9:(Ji me nu ha ro ma dn tk kp od tb ab).lookup ("listen":Yj)=none:=by kernel_rfl
theorem RT:(Ji me nu ha ro ma dn tk kp od tb ab).lookup ("keep_new":Yj)=none:=by kernel_rfl
theorem aaT:(Ji me nu ha ro ma dn tk kp od tb ab).lookup ("report":Yj)=none:=by kernel_rfl
theorem aaY:(Ji me nu ha ro ma dn tk kp od tb ab).lookup ("finish":Yj)=none:=by kernel_rfl
theorem afM:(Ji me nu ha ro ma dn tk kp od tb ab).lookup ("rows":Yj)=none:=by kernel_rfl
theorem ahJ:(Ji me nu ha ro ma dn tk kp od tb ab).length<1000:=by show 11<1000;decide
end
end L2
namespace GX
open PySem PySem.Spec PyProof.Rows
variable{prog:YJ}{w:YV}{A:Y4}{s:Yh}{it:Yc}{Q:Option Yd->Yh->Prop}
noncomputable abbrev MN(f0:Yd)(d:Yc)(i n ep:Nat)(ok ov:Yd):Y3:={cls:=.type "dict_itemiterator",data:=.fields #[f0,.bool false,.ref d,.int i 0,.int n 0,.int ep 0,ok,ov]}
noncomputable abbrev aiZ(d:Yc)(i n ep:Nat):Y3:={cls:=.type "dict_keyiterator",data:=.fields #[.ref d,.int i 0,.int n 0,.int ep 0]}
theorem amu(it d:Yc)(i ep:Nat)(es:Array bP)(e:bP)(hx:es[i]?=Ya e):
  ox (cg.«dict_keyiterator.__next__» ⟨[.ref it],[]⟩) (λ_ R s=>s.heap.get? it=Ya (aiZ d i es.size ep)/\s.heap.get? d=Ya (vM es ep)/\
   ∀g,g.get? it=Ya (aiZ d (i+ 1) es.size ep)->eT it s.heap g->R (.ok (.ret e.key)) {s with heap:=g}):=
 .of_wp λprog w A R s ⟨h1,h2,q⟩=>by
  obtain⟨h,g,dr,tk,os⟩:=s;have hT:ck {heap:=h,gens:=g,drawn:=dr,toks:=tk,os:=os} (.ref it) "dict_keyiterator":=⟨_,h1,rfl⟩
  wp_walk
  rw[if_neg (by omega),YA,hx]
  wp_walk
  have ow:fT ((Manifest.find? "dict_keyiterator").elim "dict_keyiterator" λx=>x.tpName)=false:=by decide +kernel
  refine⟨_,rfl,q _ ?_ (dQ ..)⟩;rw[eB _ h1 rfl,ow];simp[sq,rawInt];intro x hx hm;exfalso
  revert x hx hm
  decide +kernel
theorem amR(it d:Yc)(i ep:Nat)(es:Array bP)(hi:es.size<=i):
  ox (cg.«dict_keyiterator.__next__» ⟨[.ref it],[]⟩) (λA R s=>A.handled=Yb/\s.heap.get? it=Ya (aiZ d i es.size ep)/\s.heap.get? d=Ya (vM es ep)/\
   ∀g e,vi it s.heap g->ck {s with heap:=g} (.ref e) "StopIteration"->R (.error (.ref e)) {s with heap:=g}):=
 .of_wp λprog w A R s ⟨h0,h1,h2,q⟩=>by
  obtain⟨h,g,dr,tk,os⟩:=s;have hT:ck {heap:=h,gens:=g,drawn:=dr,toks:=tk,os:=os} (.ref it) "dict_keyiterator":=⟨_,h1,rfl⟩;have h0':A.in1.handled=none:=h0
  wp_walk
  rw[if_neg (by omega),YA,fg hi]
  wp_walk
  simp only[EX]
  wp_walk
  exact q _ _ (λb o nb e=>Yg _ (Yg _ (((dQ ..).2 b nb).trans e))) ⟨_,Yq _ rfl,rfl⟩
theorem aer(it d:Yc)(i ep:Nat)(ok ov:Yd)(es:Array bP)(e:bP)(hx:es[i]?=Ya e):
  ox (cg.«dict_itemiterator.__next__» ⟨[.ref it],[]⟩) (λ_ R s=>s.heap.get? it=Ya (MN .none d i es.size ep ok ov)/\s.heap.get? d=Ya (vM es ep)/\
   ∀g,g.get? it=Ya (MN (rawInt s.heap.objs.size) d (i+ 1) es.size ep e.key e.val)->g.get? s.heap.objs.size=Ya {cls:=.type "tuple",data:=.seq #[e.key,e.val]}->(∀b o,b≠it->s.heap.get? b=Ya o->g.get? b=Ya o)->R (.ok (.ret (.ref s.heap.objs.size))) {s with heap:=g}):=
 .of_wp λprog w A R s ⟨h1,h2,q⟩=>by
  obtain⟨h,g,dr,tk,os⟩:=s;have hT:ck {heap:=h,gens:=g,drawn:=dr,toks:=tk,os:=os} (.ref it) "dict_itemiterator":=⟨_,h1,rfl⟩;have ow:fT ((Manifest.find? "dict_itemiterator").elim "dict_itemiterator" λx=>x.tpName)=true:=by decide +kernel
  wp_walk
  rw[if_neg (by omega),YA,hx];have lt:it<h.objs.size:=Yu h1;have up:((i:Int)+ 1)=((i+ 1:Nat):Int):=by omega
  refine Yf (Yf (tT hT (Yr ?_)));refine Yf (si hT ?_);show Ym _ _ (BP (.ref it) 3 (rawInt ((i:Int)+ 1)) >>= _) _ _ ⟨h,g,dr,tk,os⟩;rw[up];refine Yf (ke h1 (by simp) λg1 e1 b1=>?_);have e1:g1.get? it=Ya (MN .none d (i+ 1) es.size ep ok ov):=e1;have T1:ck ⟨g1,g,dr,tk,os⟩ (.ref it) "dict_itemiterator":=⟨_,e1,rfl⟩;refine Yf (e8 (Yf (si T1 (Yf (si T1 ?_)))));show Ym _ _ (Fm (.ref it) 6 e.key e.val) _ _ ⟨g1,g,dr,tk,os⟩;refine Yf (AY ?_);have z1:g1.objs.size=h.objs.size:=b1.1;have k2:∀b o,b≠it->h.get? b=Ya o->(g1.push {cls:=.type "tuple",data:=.seq #[e.key,e.val]}).get? b=Ya o:=λb o nb q=>Yg _ ((b1.2 b nb).trans q);have e2:(g1.push {cls:=.type "tuple",data:=.seq #[e.key,e.val]}).get? it=Ya (MN .none d (i+ 1) es.size ep ok ov):=Yg _ e1;have t2:(g1.push {cls:=.type "tuple",data:=.seq #[e.key,e.val]}).get? h.objs.size=Ya {cls:=.type "tuple",data:=.seq #[e.key,e.val]}:=by rw[←z1];exact Yq _ rfl
  rw[z1];generalize g1.push {cls:=.type "tuple",data:=.seq #[e.key,e.val]}=g2 at k2 e2 t2⊢;show Ym _ _ (DF (.ref it) >>= _) _ _ ⟨g2,g,dr,tk,os⟩;refine Yf (Yf (sf e2 rfl (x:=.none) rfl (Yr ?_)));rw[if_pos rfl];refine Yf (sf e2 rfl (x:=ok) rfl (Yf (sf e2 rfl (x:=ov) rfl ?_)));refine Yf (ke e2 (by simp) λg3 e3 b3=>Yf (ke e3 (by simp) λg4 e4 b4=>Yf (ke e4 (by simp) λg5 e5 b5=>Yf (ke e5 (by simp) λg6 e6 b6=>?_))));have bb:∀b o,b≠it->g2.get? b=Ya o->g6.get? b=Ya o:=λb o nb q=>(b6.2 b nb).trans ((b5.2 b nb).trans ((b4.2 b nb).trans ((b3.2 b nb).trans q)));exact Yf (wpAny_letGo (Yr (Yr ⟨_,rfl,q g6 e6 (bb _ _ (j3 lt) t2) λb o nb w=>bb b o nb (k2 b o nb w)⟩)))
theorem aha(it d:Yc)(i ep:Nat)(ok ov:Yd)(es:Array bP)(hi:es.size<=i):
  ox (cg.«dict_itemiterator.__next__» ⟨[.ref it],[]⟩) (λA R s=>A.handled=Yb/\s.heap.get? it=Ya (MN .none d i es.size ep ok ov)/\s.heap.get? d=Ya (vM es ep)/\
   ∀g e,vi it s.heap g->ck {s with heap:=g} (.ref e) "StopIteration"->R (.error (.ref e)) {s with heap:=g}):=
 .of_wp λprog w A R s ⟨h0,h1,h2,q⟩=>by
  obtain⟨h,g,dr,tk,os⟩:=s;have hT:ck {heap:=h,gens:=g,drawn:=dr,toks:=tk,os:=os} (.ref it) "dict_itemiterator":=⟨_,h1,rfl⟩;have h0':A.in1.handled=none:=h0
  wp_walk
  rw[if_neg (by omega),YA,fg hi];refine Yf (Yf (tT hT (Yr ?_)));refine Yf (ke h1 (by show _<8;split<;>decide) λg1 e1 b1=>?_)
  wp_walk
  simp only[EX]
  wp_walk
  exact q _ _ (λb o nb e=>Yg _ (Yg _ ((b1.2 b nb).trans e))) ⟨_,Yq _ rfl,rfl⟩
theorem akc(d:Yc)(es:Array bP)(ep:Nat)(hd:(d==ee)=false):
  ox (cg.«dict.items» ⟨[.ref d],[]⟩) (λ_ R s=>s.heap.get? d=Ya (vM es ep)/\R (.ok (.ret (.ref s.heap.objs.size))) {s with heap:=s.heap.push {cls:=.type "dict_items",data:=.fields #[.ref d]}}):=
 .of_wp λprog w A R s ⟨h1,q⟩=>by
  obtain⟨h,g,dr,tk,os⟩:=s;have hT:ck {heap:=h,gens:=g,drawn:=dr,toks:=tk,os:=os} (.ref d) "dict":=⟨_,h1,rfl⟩
  wp_walk
  exact⟨_,rfl,q⟩
theorem agb(v d:Yc)(ep:Nat)(es:Array bP):
  ox (cg.«dict_items.__iter__» ⟨[.ref v],[]⟩) (λA R s=>s.heap.get? v=Ya {cls:=.type "dict_items",data:=.fields #[.ref d]}/\s.heap.get? d=Ya (vM es ep)/\
   R (.ok (.ret (.ref s.heap.objs.size))) {s with heap:=s.heap.push (MN .none d 0 es.size ep .none .none)}):=
 .of_wp λprog w A R s ⟨h1,h2,q⟩=>by
  obtain⟨h,g,dr,tk,os⟩:=s;have hT:ck {heap:=h,gens:=g,drawn:=dr,toks:=tk,os:=os} (.ref v) "dict_items":=⟨_,h1,rfl⟩
  wp_walk
  have ow:fT "dict_itemiterator"=true:=by decide +kernel
  rw[ow];exact⟨_,rfl,q⟩
theorem afH{R:pf->Yh->Prop}{S:Y4->(pf->Yh->Prop)->Yh->Prop}(hT:s.TypeIs (.ref it) "dict_itemiterator")(m:ox (cg.«dict_itemiterator.__next__» ⟨[.ref it],[]⟩) S)(h:S A R s):
  de (Ys prog w) A (.call (.builtin "dict_itemiterator.__next__") ⟨[.ref it],[]⟩) R s:=
 kM F.slot_dict_itemiterator_next.plain F.entry_dict_itemiterator_next (F.slot_dict_itemiterator_next.check _ _ _ _ _ _ _ _ hT (F.args_dict_itemiterator_next_1 _) (m prog w A R s h))
section
variable{E:Yd->Yh->Prop}{v d:Yc}{es:Array bP}{i ep:Nat}{ok ov:Yd}
theorem acO{Q:Yd->Yh->Prop}(hS:(d==ee)=false)(rd:qz s.heap d es ep)
  (q:Q (.ref s.heap.objs.size) {s with heap:=s.heap.push {cls:=.type "dict_items",data:=.fields #[.ref d]}}):Ym (Ys prog w) A (call (.builtin "dict.items") [.ref d]) Q E s:=
 rh F.slot_dict_items ⟨_,rd,rfl⟩ F.entry_dict_items (F.args_dict_items_1 _) (akc d es ep hS) ⟨rd,q⟩
theorem adk{Q:Yd->Yh->Prop}(hv:s.heap.get? v=Ya {cls:=.type "dict_items",data:=.fields #[.ref d]})(rd:qz s.heap d es ep)
  (q:Q (.ref s.heap.objs.size) {s with heap:=s.heap.push (MN .none d 0 es.size ep .none .none)}):Ym (Ys prog w) A (tq (.ref v)) Q E s:=by
 have T:s.TypeIs (.ref v) "dict_items":=⟨_,hv,rfl⟩;apply r9 T F.slot_dict_items_iter;apply rh F.slot_dict_items_iter T F.entry_dict_items_iter (F.args_dict_items_iter_1 _) (agb v d ep es);exact⟨hv,rd,"dict_itemiterator",_,⟨_,Yq _ rfl,rfl⟩,F.slot_dict_itemiterator_next.lookup,q⟩
theorem adL{e:bP}(hit:s.heap.get? it=Ya (MN .none d i es.size ep ok ov))(rd:qz s.heap d es ep)(hx:es[i]?=Ya e)(hQ:∀g,g.get? it=Ya (MN (rawInt s.heap.objs.size) d (i+ 1) es.size ep e.key e.val)->g.get? s.heap.objs.size=Ya {cls:=.type "tuple",data:=.seq #[e.key,e.val]}->(∀b o,b≠it->s.heap.get? b=Ya o->g.get? b=Ya o)->Q (Ya (.ref s.heap.objs.size)) {s with heap:=g}):Ym (Ys prog w) A (fw (.ref it)) Q E s:=by
 have hT:s.TypeIs (.ref it) "dict_itemiterator":=⟨_,hit,rfl⟩;have hk:=F.slot_dict_itemiterator_next.lookup;have hb:=F.slot_dict_itemiterator_next.bind (.ref it);unfold fw
 repeat' first|assumption|wp_step
 exact afH hT (aer it d i ep ok ov es e hx) ⟨hit,rd,λg a b c=>Yr (Yr (hQ g a b c))⟩
theorem aei(hh:A.handled=Yb)(hit:s.heap.get? it=Ya (MN .none d i es.size ep ok ov))(rd:qz s.heap d es ep)(hi:es.size<=i)(fin:∀g,vi it s.heap g->Q Yb {s with heap:=g}):Ym (Ys prog w) A (fw (.ref it)) Q E s:=by
 have hT:s.TypeIs (.ref it) "dict_itemiterator":=⟨_,hit,rfl⟩;have hk:=F.slot_dict_itemiterator_next.lookup;have hb:=F.slot_dict_itemiterator_next.bind (.ref it);have hst:isSubtype (.type "StopIteration") (.type "StopIteration")=pure true:=by rw[rq];kernel_rfl
 unfold fw
 repeat' first|assumption|wp_step
 refine afH hT (aha it d i ep ok ov es hi) ⟨hh,hit,rd,λg e a b=>?_⟩;have hq:=fin g a
 repeat' first|assumption|wp_step
end
end GX
namespace L2
open PySem PySem.Spec PyProof.Rows
variable{P prog:YJ}{w:YV}{H:Hp}{h:YR}{d:Yc}{kvs:List (List dC×V)}{es:Array bP}{ep x1:Nat}{elts:List YY}{tp:hJ}{o:Y3}{X:Cx}{σ:St}{td:TE}{R:It->Hp->Prop}{A:Y4}{E:Yd->Yh->Prop}{s:Yh}
theorem ab2(ok:vd P w H h)(e:Rd H d (.dT kvs)):
  (d==ee)=false/\∃(es:Array bP) (ep:Nat),GX.qz h d es ep/\es.size=kvs.length/\∀(i:Nat) (k:List dC) (v:V),kvs[i]?=Ya (k,v)->∃(y:bP) (b:Yc),es[i]?=Ya y/\y.key=.ref b/\H b=Ya (.tup (k.map kV))/\RelV v y.val:=by
 obtain⟨_,hS,xs,kt,o,es,ep,h1,h2,h3,h4,_⟩:=Rw ok e;refine⟨hS,es,ep,.of h1 h2 h3,?_,λi k v hv=>?_⟩
 ·rw[←aT,h4,Yi];exact(bS kt).symm
 ·obtain⟨q,hq,ek,hb,rv⟩:=gR kt hv;refine⟨Bz (j1 (bK P w)) q,q.2.1,?_,rfl,hb,rv⟩;rw[←Y9,h4,Yv,hq];rfl
noncomputable def abd(d:Yc)(o:Y3)(kvs:List (List dC×V)):It:=
 ⟨λi H=>i<kvs.length/\H d=Ya (.frz o (.dT kvs)),λi H x H'=>∃k v a b,kvs[i]?=Ya (k,v)/\H a=Yb/\H b=Ya (.tup (k.map kV))/\x=.ref a/\H'=upd H a (.tup [.ref b,v]),λi H=>kvs.length<=i/\H d=Ya (.frz o (.dT kvs))⟩
theorem afW{es':Array bP}{ep':Nat}(a:GX.qz h d es ep)(b:GX.qz h d es' ep'):es=es':=by
 have e:GX.vM es ep=GX.vM es' ep':=YL (a.symm.trans b);cases e;rfl
theorem Xc{K:Ye}{it:Yc}(sz:es.size=kvs.length)(fz:∀h:YR,h.get? d=Ya o->GX.qz h d es ep):
  Turn P w K (.Tuple elts x1 tp) (abd d o kvs) [it] it (λi h=>∃ok ov,h.get? it=Ya (GX.MN .none d i es.size ep ok ov)) where
 mem:=by simp
 obj:=λi h ⟨ok,ov,st⟩ b hb=>by
  have e:b=it:=by simpa using hb
  subst e;exact⟨_,st,λv z=>by cases z⟩
 keep:=λi h h' ⟨ok,ov,st⟩ k=>⟨ok,ov,k it (by simp) _ st⟩
 item:=by
  intro X hP hw hK hc i pins s σ H E I hf st hg;subst hP hw hK;obtain⟨ok,ov,hit⟩:=st;obtain⟨hi,hd⟩:=hg;have hdo:s.heap.get? d=Ya o:=(show s.heap.get? d=Ya o/\_ from I.hok d _ hd).1;have hx:kvs[i]?=Ya kvs[i]:=Yo hi;obtain⟨_,es',ep',rd',_,rel⟩:=ab2 I.hok (.inr ⟨o,hd⟩);obtain rfl:=afW (fz _ hdo) rd';obtain⟨y,b,hy,yk,hb,ru⟩:=rel i kvs[i].1 kvs[i].2 hx;refine GX.adL hit (fz _ hdo) hy λh' hit' htup kp=>?_;have hai:s.heap.objs.size≠it:=λz=>by
   have:=Yu hit;rw[←z]at this;exact Y2 _ this
  have hfi:=hf it (by simp);have I1:bw X pins σ (upd H s.heap.objs.size (.tup [.ref b,kvs[i].2])) {s with heap:=h'}:=
   I.turnLay kp hfi ⟨_,hit'⟩ (Yn _) hai ⟨by show 2<=YB;decide,[y.key,y.val],.cons yk (.cons ru .nil),_,htup,rfl,0,rfl,rfl,rfl⟩
  refine⟨_,rfl,vx hit' λh2 hit2 sb=>?_⟩;obtain⟨f0,f1,f2,f3,f4,f5⟩:=hfi;have f0':(upd H s.heap.objs.size (.tup [.ref b,kvs[i].2])) it=none:=by rw[aK (Ne.symm hai)];exact f0
  refine⟨.ref s.heap.objs.size,_,I1.turned (t':=s.toks) (λb o hb e=>(sb.2 b hb).trans e) f0' f1 f3 f4 f5,rfl,⟨_,_,_,b,hx,I.hok.fresh (Yn _),hb,rfl,rfl⟩,⟨y.key,y.val,hit2⟩,λc hc=>?_⟩;have e:c=it:=by simpa using hc
  rw[e];exact f0'
 done:=by
  intro X hP hw hK hc i pins s σ H E I hf st hg;subst hP hw hK;obtain⟨ok,ov,hit⟩:=st;obtain⟨hi,hd⟩:=hg;have hdo:s.heap.get? d=Ya o:=(show s.heap.get? d=Ya o/\_ from I.hok d _ hd).1;obtain⟨f0,f1,f2,f3,f4,f5⟩:=hf it (by simp);exact GX.aei (I.ok.hd hc) hit (fz _ hdo) (by omega) λh' eb=>⟨rfl,I.turned (t':=s.toks) (λb o hb e=>eb b o hb e) f0 f1 f3 f4 f5⟩
 self:=λ_ _ _ _ _ ⟨ok,ov,st⟩ h=>EV st h
section
theorem bw.freezeT{pins:List (Yc×Y3)}{H1:Hp}{s1:Yh}(I2:bw X pins σ H1 s1)(hd:H1 d=Ya (.dT kvs))(ho:s1.heap.get? d=Ya o):bw X pins σ (upd H1 d (.frz o (.dT kvs))) s1:=
 I2.write (t':=s1.toks) (x:=d) (e:=d) (by rw[hd];trivial) (.inl rfl) (λ_ _ _ e=>e) ⟨o,ho⟩ ⟨ho,by
  obtain⟨z,y,xs,kt,rest⟩:=(show fc X.prog X.w H1 _ d (.dT kvs)from I2.hok d _ hd);exact⟨z,y,xs,d3.mapP kt λ_ _ ⟨a1,a2,a3⟩=>⟨a1,by rw[aK (bj a2 hd (by intro z;cases z))];exact a2,a3⟩,rest⟩⟩
def abP(td:TE):TI:=λσ H R=>td σ H λx H1=>∃d kvs,x=.ref d/\H1 d=Ya (.dT kvs)/\∀o,R (abd d o kvs) (upd H1 d (.frz o (.dT kvs)))
theorem acV{e:YY}{apos cpos:hJ}(he:PE X e td)(hbase:ku e "items" X.env (aE e X.env)=aE e X.env:=by rfl)(hline:(apos.endLine==cpos.line)=true:=by rfl):
  PI X (.Tuple elts x1 tp) (.Call (.Attribute e "items" apos) [] [] cpos) (abP td):=by
 intro pins s σ H R I h;refine md hbase hline (dN (he pins s σ H _ I h) λv s1 zz=>?_);obtain⟨x,H1,I1,r1,d,kvs,ex,hd,q⟩:=zz;subst ex;obtain rfl:v=Y0 d:=r1;obtain⟨hS,es,ep,rd,sz,_⟩:=ab2 I1.hok (.inl hd);obtain⟨h1,h2⟩:=Jp (T:="dict") I1 (x:=.ref d) rfl (.inr (.inr (.inl ⟨rfl,.inr ⟨kvs,hd⟩⟩)));refine⟨"dict","dict.items",gi,rV,ze,h1,h2,jJ rfl (pS ?_)⟩;refine GX.acO hS rd ?_;have rd':GX.qz (s1.heap.push {cls:=.type "dict_items",data:=.fields #[.ref d]}) d es ep:=rd.at λo e=>Yg _ e;have I2:bw X pins σ H1 {s1 with heap:=s1.heap.push {cls:=.type "dict_items",data:=.fields #[.ref d]}}:=I1.kept (t':=s1.toks) λb ob e=>Yg _ e;refine GX.adk (Yq _ rfl) rd' ?_;have I3:=I2.freezeT hd rd';refine⟨_,[_],_,abd d _ kvs,_,rfl,I3.kept (t':=s1.toks) λb ob e=>Yg _ e,Xc sz (λ_ e=>e),⟨_,_,Yq _ rfl⟩,λb hb=>?_,q _⟩;have eb:b=(s1.heap.push {cls:=.type "dict_items",data:=.fields #[.ref d]}).objs.size:=by simpa using hb
 subst eb;exact I3.fpOk (Yn _) (I3.hok.fresh (Yn _))
end
def amh(It':Yc->Y3->List (List dC×V)->It)(x:V)(H:Hp)(R:It->Hp->Prop):Prop:=∃d kvs,x=.ref d/\H d=Ya (.dT kvs)/\∀o,R (It' d o kvs) (upd H d (.frz o (.dT kvs)))
theorem ady(h:td σ H λx H1=>amh abd x H1 R):abP td σ H R:=h
theorem ai1{It':Yc->Y3->List (List dC×V)->It}(hd:H d=Ya (.dT kvs))(h:∀o A,A d=Ya (.frz o (.dT kvs))->SmB d H A->R (It' d o kvs) A):amh It' (.ref d) H R:=
 ⟨d,kvs,rfl,hd,λo=>h o _ aB λb u n e=>by rw[aK n];exact e⟩
theorem Vs{g:TG}{tt:TT}{te:TE}{D:Yc}{Qe:Hp->Prop}(Pv:Nat->St->Hp->Prop)(h0:Pv 0 σ H)(hl:∀i σ H,i<=kvs.length->Pv i σ H->H d=Ya (.frz o (.dT kvs)))(hs:∀i k v t b σ H H1,kvs[i]?=Ya (k,v)->Pv i σ H->H t=Yb->aO H H1->H1 t=Ya (.tup [.ref b,v])->H b=Ya (.tup (k.map kV))->pR g tt te D (Pv (i+ 1)) (.ref t) σ H1)(hd:∀σ H,Pv kvs.length σ H->Qe H):
  ∃W:Nat->Nat->St->Hp->Prop,(∃m,W 0 m σ H)/\∀i m σ' H',W i m σ' H'->((abd d o kvs).stop i H'/\Qe H')∨((abd d o kvs).go i H'/\∃N:St->Hp->Prop,(∀σ2 H2,N σ2 H2->∃m',m'<m/\W (i+ 1) m' σ2 H2)/\
   ∀x H'',(abd d o kvs).yld i H' x H''->pR g tt te D N x σ' H''):=by
 refine⟨λi m σ H=>m=kvs.length-i/\i<=kvs.length/\Pv i σ H,⟨kvs.length,by simp,YZ _,h0⟩,?_⟩;rintro i m σ H ⟨rfl,hi,p⟩;have q:=hl i σ H hi p;by_cases hlt:i<kvs.length
 ·refine .inr ⟨⟨hlt,q⟩,Pv (i+ 1),λσ' H' p'=>⟨kvs.length-(i+ 1),by omega,rfl,hlt,p'⟩,λx H' y=>?_⟩;obtain⟨k,v,a,b,e1,e2,e3,rfl,rfl⟩:=y;exact hs i k v a b σ _ _ e1 p e2 (aF e2) aB e3
 ·have e:i=kvs.length:=by omega
  subst e;exact .inl ⟨⟨Yn _,q⟩,hd σ H p⟩
section
end
section
end
section
end
section
end
section
end
end L2
namespace GX
open PySem PyProof.Rows
variable{prog:YJ}{w:YV}{A:Y4}{E:Yd->Yh->Prop}{s:Yh}
section
variable{K:Type}[DecidableEq K]{knd:rL prog w K}
end
section
variable{K:Type}[DecidableEq K]{knd:rL prog w K}
end
end GX
namespace L2
open PySem PySem.Spec PyProof.Rows
section
variable{X:Cx}
end
end L2
namespace GX
open PySem PySem.Spec PyProof.Rows
section
variable{prog:YJ}{w:YV}{K:Type}[DecidableEq K]{knd:HeapKind prog w K}{d a:Yc}{xs:List (K×Yc×Yd)}{k:K}{dflt:Yd}
end
end GX
namespace L2
open PySem PySem.Spec PyProof.Rows
variable{X:Cx}{i1 i2 i3:Nat}{w:YV}{a:Yc}
section
end
section
variable{elts:List YY}{x1:Nat}{tp:hJ}
end
theorem ana{x1 x2 x3:Yj}{c1 c2 c3:Yc}(n1:c1≠c2)(n2:c1≠c3)(n3:c2≠c3)(a1:X.N[i1]?=Ya x1)(a2:X.N[i2]?=Ya x2)(a3:X.N[i3]?=Ya x3)(k1:X.env.scope.names.lookup x1=Ya .cell)(k2:X.env.scope.names.lookup x2=Ya .cell)(k3:X.env.scope.names.lookup x3=Ya .cell)(l1:X.env.cells.lookup x1=Ya c1)(l2:X.env.cells.lookup x2=Ya c2)(l3:X.env.cells.lookup x3=Ya c3)(f1:X.fn x1=true)(f2:X.fn x2=true)(f3:X.fn x3=true):
  ajx X [i1,i2,i3] [(x1,c1),(x2,c2),(x3,c3)]:=by
 refine⟨rfl,by simp[n1,n2,n3],λj i x c h1 h2=>?_⟩
 match j with
 |0=>cases h1;cases h2;exact⟨a1,k1,l1,f1⟩
 |1=>cases h1;cases h2;exact⟨a2,k2,l2,f2⟩
 |2=>cases h1;cases h2;exact⟨a3,k3,l3,f3⟩
 |j+ 3=>cases h1
theorem amv{σ:St}{v1 v2 v3:V}(h1:σ[i1]?=Ya (Ya v1))(h2:σ[i2]?=Ya (Ya v2))(h3:σ[i3]?=Ya (Ya v3)):∀(j:Nat) i v,[i1,i2,i3][j]?=Ya i->[v1,v2,v3][j]?=Ya v->σ[i]?=Ya (Ya v)
 |0,i,v,e1,e2=>by cases e1;cases e2;exact h1
 |1,i,v,e1,e2=>by cases e1;cases e2;exact h2
 |2,i,v,e1,e2=>by cases e1;cases e2;exact h3
 |j+ 3,i,v,e1,e2=>by cases e1
theorem ae5(x:Nat):x+ 1≠x+ 1+ 1+ 1:=by omega
section
end
section
variable{prog:YJ}
variable{A:Y4}{E:Yd->Yh->Prop}{s:Yh}{k:Int×List dC}
end
section
variable{P:YJ}{H:Hp}{h:YR}
end
section
variable{o i value:YY}{pos pos':hJ}{td ty tv:TE}
end
end L2
namespace L2
open PySem
end L2
namespace L2
open PySem PySem.Spec PyProof.Rows
variable{X:Cx}{params:CF}{body e:YY}{scope:jv}{pos:hJ}{Pt:Yc}{qual:Yj}{σ:St}{H:Hp}{K:Ye}{v:V}{pins:List (Yc×Y3)}{s:Yh}
def aiC(Pt:Yc)(pos:hJ)(qual:Yj)(mk:Yc->Yd->Y3):TE:=λ_ H Q=>aj7 Pt pos qual H/\
 ∀f c' ctv H',H f=Yb->SmB Pt H H'->H' f=Ya (FnO f (mk c' ctv))->H' c'=Ya (CdO c' qual)->H' Pt=Ya (.tbl #[rawInt pos.line,rawInt pos.col,.ref c'])->Q (.ref f) H'
section
theorem ahk{c:Yc}{clos:List (Yj×Yc)}(hd0:defaultsOf params X.env=([],[]))(hcl:BI scope X.env=pure clos)(hcode:X.env.code=.ref c)(hC:GG X.base c Pt)(hB:Ua X.base X.mg):
  PE X (.Lambda params body scope pos) (aiC Pt pos (X.env.qual++"<lambda>") λc' ctv=>kr "<lambda>" (X.env.qual++"<lambda>") params body scope clos ((X.mg "__name__").getD .none) c' ctv):=by
 intro pins s σ H Q I h;obtain⟨tb,q⟩:=h;generalize hq:X.env.qual++"<lambda>"=qual at tb q;have hg:s.heap.Ns Y1 X.mg:=I.mod.glob.keeps I.bk;obtain⟨bm,ob,b1,b2,b3,b4,b5⟩:=hB;refine PySem.W.kla_eval hd0 ?_;rw[hq];rcases tb with hP|⟨c',hP,hc'⟩
 ·have oP:s.heap.get? Pt=Ya (nX #[]):=I.hok Pt _ hP;have nb:∀b o,X.base.get? b=Ya o->b≠Pt:=λb o e z=>by have:=(I.bs b o e).2;rw[z,hP]at this;cases this
  refine PySem.W.kla_makeFunction (mg:=X.mg) hcl I.ok.glob hg hcode (hC.keeps I.bk) oP fS rfl (by obtain⟨o,_,_,e,_⟩:=I.mod.glob;exact nb _ _ e) ⟨bm,ob,b1,b2,b3,nb _ _ b4,I.bk _ _ b4,b5⟩ λc' ctv h' tk hx' hge hlt hrec htb=>?_;obtain⟨fo,hfo⟩:∃fo,fo=kr "<lambda>" qual params body scope clos ((X.mg "__name__").getD .none) c' ctv:=⟨_,rfl⟩;have nf:fo.isFreed=false:=by rw[hfo];rfl
  have q:=q h'.objs.size c' ctv;dsimp only at q;rw[←hfo]at q⊢;have hsz:s.heap.objs.size<=h'.objs.size:=Y7 (hV hge hlt);have Hf:H h'.objs.size=none:=I.hok.fresh hsz;have Hc:H c'=none:=I.hok.fresh hge;have nfc:h'.objs.size≠c':=j3 hlt;have nfP:h'.objs.size≠Pt:=λz=>by rw[z,hP]at Hf;cases Hf
  have ncP:c'≠Pt:=λz=>by rw[z,hP]at Hc;cases Hc
  obtain⟨H',eH⟩:∃H':Hp,H'=upd (upd (upd H Pt (.tbl #[rawInt pos.line,rawInt pos.col,.ref c'])) c' (CdO c' qual)) h'.objs.size (FnO h'.objs.size fo):=⟨_,rfl⟩;have ef:H' h'.objs.size=Ya (FnO h'.objs.size fo):=by rw[eH];exact aB
  have ec:H' c'=Ya (CdO c' qual):=by rw[eH,aK nfc.symm,aB]
  have eP:H' Pt=Ya (.tbl #[rawInt pos.line,rawInt pos.col,.ref c']):=by rw[eH,aK nfP.symm,aK ncP.symm,aB]
  have eo:∀b,b≠h'.objs.size->b≠c'->b≠Pt->H' b=H b:=λb n1 n2 n3=>by rw[eH,aK n1,aK n2,aK n3]
  have es:∀b u,H b=Ya u->b≠Pt->H' b=Ya u:=λb u e n=>by rw[eo b (aP e Hf) (aP e Hc) n];exact e
  have old:∀b o,b≠Pt->s.heap.get? b=Ya o->(h'.push fo).get? b=Ya o:=λb o n e=>Yg _ (hx' b o n e);have np:∀b,H b=Yb->b≠Pt:=λb n z=>by rw[z,hP]at n;cases n
  have I2:bw X pins σ H' {s with heap:=h'.push fo,toks:=tk}:=by
   refine I.step (g':=s.gens) (d':=s.drawn) (t':=tk) (ch:=[]) (λ_ z=>nomatch z) (λb o _ _ _ e n=>old b o (np b n) e) (λb o _ _ _ e n=>⟨o.slots,old b o (np b n) e⟩) (λb o _ e n=>?_) (λb o _ e=>?_) (λb xs e=>es b _ e λz=>by rw[z,hP]at e;cases e) (λb o u e=>es b _ e λz=>by rw[z,hP]at e;cases e) (λb qs e=>?_) (λm hm=>?_) (λa u e=>?_) I.bare
   ·have lt:=Yu e;rw[eo b (YH (YM lt hsz)) (YH (YM lt hge)) (np b n)];exact n
   ·by_cases z:b=Pt
    ·rw[z];exact⟨_,Yg _ htb⟩
    ·exact⟨o,old b o z e⟩
   ·by_cases z:b=Pt
    ·rw[z,hP]at e;cases e;exact⟨#[rawInt pos.line,rawInt pos.col,.ref c'],by rw[z,eP];rfl⟩
    ·exact⟨#[],by rw[es b _ e z];simp⟩
   ·exact(hm.extBut hx' (np _ I.free)).push _
   ·by_cases z1:a=h'.objs.size
    ·rw[z1,ef]at e;cases e;rw[z1];exact⟨Yq _ nf,⟨_,Yq _ nf⟩,λh1 h2 e k=>k _ e⟩
    by_cases z2:a=c'
    ·rw[z2,ec]at e;cases e;rw[z2];obtain⟨c2,oc,vs,t,e2,hoc,hd,hv⟩:=id hrec;cases e2;refine⟨⟨_,oc,vs,t,rfl,Yg _ hoc,hd,hv⟩,⟨oc,Yg _ hoc⟩,?_⟩;rintro h1 h2 ⟨c2,oc,vs,t,e2,hoc,hd,hv⟩ k;cases e2;exact⟨_,oc,vs,t,rfl,k _ hoc,hd,hv⟩
    by_cases z3:a=Pt
    ·rw[z3,eP]at e;cases e;rw[z3];exact Yg _ htb
    ·rw[eo a z1 z2 z3]at e;refine(I.hok a u e).stay (λb v hb r=>old b v ?_ r) (λb r=>es b _ r λz=>by rw[z,hP]at r;cases r) λb xs r=>es b _ r λz=>by rw[z,hP]at r;cases r
     rcases hb with z|z
     ·rw[z];exact z3
     ·exact λy=>by rw[y,hP]at z;cases z
  exact⟨.ref h'.objs.size,H',I2,rfl,q H' Hf (λb v n e=>es b v e n) ef ec eP⟩
 ·have oP:s.heap.get? Pt=Ya (nX #[rawInt pos.line,rawInt pos.col,.ref c']):=I.hok Pt _ hP;have nb:∀b o,X.base.get? b=Ya o->b≠Pt:=λb o e z=>by have:=(I.bs b o e).2;rw[z,hP]at this;cases this
  refine PySem.W.kla_makeFunctionHit (mg:=X.mg) (cv:=.ref c') hcl I.ok.glob hg hcode (hC.keeps I.bk) oP (by simp[TriplesOk,rawInt]) (by simp[codeAmong,rawInt]) ⟨bm,ob,b1,b2,b3,nb _ _ b4,I.bk _ _ b4,b5⟩ λctv h' tk hk hsz=>?_;obtain⟨fo,hfo⟩:∃fo,fo=kr "<lambda>" qual params body scope clos ((X.mg "__name__").getD .none) c' ctv:=⟨_,rfl⟩;have nf:fo.isFreed=false:=by rw[hfo];rfl
  have q:=q h'.objs.size c' ctv;dsimp only at q;rw[←hfo]at q;show EP X pins σ Q (.ref h'.objs.size) {s with heap:=h'.push (kr "<lambda>" qual params body scope clos ((X.mg "__name__").getD .none) c' ctv),toks:=tk};rw[←hfo];have Hf:H h'.objs.size=none:=I.hok.fresh hsz;have I2:=I.laid (a:=h'.objs.size) (t':=tk) (o:=FnO h'.objs.size fo) (h':=h'.push fo) (λb u e=>Yg _ (hk b u e)) hsz
   ⟨Yq _ nf,⟨_,Yq _ nf⟩,λh1 h2 e k=>k _ e⟩
  have es:=aF (o:=FnO h'.objs.size fo) Hf;exact⟨.ref h'.objs.size,_,I2,rfl,q _ Hf (λb v _ e=>es b v e) aB (es _ _ hc') (es _ _ hP)⟩
end
theorem ajM{mk:Yc->Yd->Y3}{Q:VK}(hT:aj7 Pt pos qual H)(h:∀f c' ctv H',H f=Yb->SmB Pt H H'->H' f=Ya (FnO f (mk c' ctv))->H' c'=Ya (CdO c' qual)->H' Pt=Ya (.tbl #[rawInt pos.line,rawInt pos.col,.ref c'])->Q (.ref f) H'):aiC Pt pos qual mk σ H Q:=⟨hT,h⟩
section
variable{CX:CXT}{P:YJ}{w:YV}{mg:Yj->Option Yd}{base:YR}{N ps:List Yj}{f:Yc}{cl:List (Yj×Yc)}{vals:List V}
theorem akO{k:Nat}{name:Yj}{c':Yc}{pm ctv:Yd}{sp:Sp}(S:ScM N ps (cl.map (·.1)) scope)(nd2:(cl.map (·.2)).Nodup)(len:∀vs H Q E,sp vs H Q E->vs.length=ps.length)(hbody:∀(A:Y4) (outer:List l8) (s:Yh) (H:Hp) (vs:List V) (Q:VK) (E:XK),eQ k (A.deeper (nV qual scope s.heap.objs.size f (.ref c') cl))->sp vs (K8 (cl.map (·.2)) H) Q E->
   ∃t,PE (cxM CX P w K mg base N qual scope f (.ref c') cl A outer s H E) body t/\t (lX N (vs++vals)) (K8 (cl.map (·.2)) H) Q):
  aG P w K mg base CX (k+ 1) f (Bi name qual params body scope cl pm (.ref c') ctv) ps (spF f c' (kr name qual params body scope cl pm c' ctv) qual cl vals sp):=by
 refine⟨λvs H Q E h=>len _ _ _ _ h.2.2.2,λA outer s H args us vs Q E hr e0 hb r hsp=>?_⟩;obtain⟨hf,hc,ln,hs⟩:=hsp;have hl:=len _ _ _ _ hs;have fz:=ln.frz;have lim:s.heap.NoLimit:=e0.mod.nolimit.keeps λb o e=>(e0.bs b o e).1;have of:s.heap.get? f=Ya (kr name qual params body scope cl pm c' ctv):=(show s.heap.get? f=Ya _/\_ from e0.hok f _ hf).1;have oc:s.heap.CodeRec (.ref c') qual:=(show s.heap.CodeRec (.ref c') qual/\_ from e0.hok c' _ hc).1;refine PySem.W.kla_callFunE (fd:=Bi name qual params body scope cl pm (.ref c') ctv) hr.depth of rfl S.co S.gen rfl oc (hb _ _ _ _ ?_);refine BM S.cel (λy hy=>S.par y.1 (pV (show(y.1,y.2)∈ps.zip us from hy)).1) (λh₁ hns hsb=>?_) S.kind;have kept:∀a u,s.heap.get? a=Ya u->h₁.get? a=Ya u:=λa u q=>by
  have na:a≠s.heap.objs.size:=YH (Yu q);exact hsb.extBut a u na (by exact Yg _ q)
 refine⟨lim.keeps kept,?_⟩;obtain⟨t,ht,hq⟩:=hbody A outer s H vs _ E (hr.deeper _) hs;have I:bw (cxM CX P w K mg base N qual scope f (.ref c') cl A outer s H E) [] (lX N (vs++vals)) (K8 (cl.map (·.2)) H) {s with heap:=h₁,toks:=s.toks+ (ps.zip us).length}:=aaw S hr.hd e0 hl r nd2 ln hns kept;refine PySem.W.kla_codeExpr (e:=body) (env:=nV qual scope s.heap.objs.size f (.ref c') cl) (ax (ht [] _ (lX N (vs++vals)) _ _ I hq) (λu s' hs=>?_) λe s' hs=>hs);obtain⟨v,H',J,rv,q⟩:=hs;have fr:∀c∈cl.map (·.2),H' c=none:=λc hc=>by
  obtain⟨p,hp,rfl⟩:=YF.mp hc;have nd1:(cl.map (·.1)).Nodup:=by
   have:=S.nd.sublist (iP (ps++cl.map (·.1)).length N);rw[S.pre,fi]at this;exact this.2.1
  exact J.freeC p.1 p.2 (Ib nd1 hp)
 have kp:∀c∈cl.map (·.2),∀o,s.heap.get? c=Ya o->s'.heap.get? c=Ya o:=λc hc o e=>by
  refine J.base.keep c o e (Tj hc) (λz=>?_) (λz=>absurd (show c∈([]:List Yc)from z) (by simp));obtain⟨_,_,q⟩:=fz c hc;rw[e0.frf c z]at q;cases q
 exact⟨v,_,J.os,J.bare,ajq fz J.base,ahF fz e0.hok J.hok fr kp,rv,q fr⟩
end
noncomputable def nJ(me ro nw pg ch cb wb pa lg lo db nt wo wi:V):List (Yj×V):=[("me",me),("room",ro),("newest",nw),("page",pg),("change",ch),("came_by",cb),("went_by",wb),("past",pa),("log",lg),("lost",lo),("doubts",db),("noted",nt),("wants_out",wo),("wants_in",wi)]
structure Qn(K:Ye)(C:Yc):Prop where
 cl:QL K C
 n1:bY K C "me"
 n2:bY K C "room"
 n3:bY K C "newest"
 n4:bY K C "page"
 n5:bY K C "change"
 n6:bY K C "came_by"
 n7:bY K C "went_by"
 n8:bY K C "past"
 n9:bY K C "log"
 n10:bY K C "lost"
 n11:bY K C "doubts"
 n12:bY K C "noted"
 n13:bY K C "wants_out"
 n14:bY K C "wants_in"
section
variable{me ro nw pg ch cb wb pa lg lo db nt wo wi:V}
theorem ahL:cU "wants_in" wi (cU "wants_out" wo (cU "noted" nt (cU "doubts" db (cU "lost" lo (cU "log" lg (cU "past" pa (cU "went_by" wb (cU "came_by" cb (cU "change" ch (cU "page" pg (cU "newest" nw (cU "room" ro (cU "me" me [])))))))))))))=nJ me ro nw pg ch cb wb pa lg lo db nt wo wi:=by kernel_rfl
theorem ab1:cU "newest" v (nJ me ro nw pg ch cb wb pa lg lo db nt wo wi)=nJ me ro v pg ch cb wb pa lg lo db nt wo wi:=by kernel_rfl
theorem abu:cU "page" v (nJ me ro nw pg ch cb wb pa lg lo db nt wo wi)=nJ me ro nw v ch cb wb pa lg lo db nt wo wi:=by kernel_rfl
theorem acs:cU "change" v (nJ me ro nw pg ch cb wb pa lg lo db nt wo wi)=nJ me ro nw pg v cb wb pa lg lo db nt wo wi:=by kernel_rfl
theorem abN:cU "came_by" v (nJ me ro nw pg ch cb wb pa lg lo db nt wo wi)=nJ me ro nw pg ch v wb pa lg lo db nt wo wi:=by kernel_rfl
theorem abt:cU "went_by" v (nJ me ro nw pg ch cb wb pa lg lo db nt wo wi)=nJ me ro nw pg ch cb v pa lg lo db nt wo wi:=by kernel_rfl
theorem abn:cU "past" v (nJ me ro nw pg ch cb wb pa lg lo db nt wo wi)=nJ me ro nw pg ch cb wb v lg lo db nt wo wi:=by kernel_rfl
theorem ahg:cU "lost" v (nJ me ro nw pg ch cb wb pa lg lo db nt wo wi)=nJ me ro nw pg ch cb wb pa lg v db nt wo wi:=by kernel_rfl
theorem ahW:cU "doubts" v (nJ me ro nw pg ch cb wb pa lg lo db nt wo wi)=nJ me ro nw pg ch cb wb pa lg lo v nt wo wi:=by kernel_rfl
theorem acb:cU "noted" v (nJ me ro nw pg ch cb wb pa lg lo db nt wo wi)=nJ me ro nw pg ch cb wb pa lg lo db v wo wi:=by kernel_rfl
theorem ag5:cU "wants_out" v (nJ me ro nw pg ch cb wb pa lg lo db nt wo wi)=nJ me ro nw pg ch cb wb pa lg lo db nt v wi:=by kernel_rfl
theorem ag6:cU "wants_in" v (nJ me ro nw pg ch cb wb pa lg lo db nt wo wi)=nJ me ro nw pg ch cb wb pa lg lo db nt wo v:=by kernel_rfl
theorem ajz:(nJ me ro nw pg ch cb wb pa lg lo db nt wo wi).lookup ("me":Yj)=Ya me:=by kernel_rfl
theorem aeu:(nJ me ro nw pg ch cb wb pa lg lo db nt wo wi).lookup ("room":Yj)=Ya ro:=by kernel_rfl
theorem X5:(nJ me ro nw pg ch cb wb pa lg lo db nt wo wi).lookup ("newest":Yj)=Ya nw:=by kernel_rfl
theorem aeh:(nJ me ro nw pg ch cb wb pa lg lo db nt wo wi).lookup ("page":Yj)=Ya pg:=by kernel_rfl
theorem abe:(nJ me ro nw pg ch cb wb pa lg lo db nt wo wi).lookup ("change":Yj)=Ya ch:=by kernel_rfl
theorem Vo:(nJ me ro nw pg ch cb wb pa lg lo db nt wo wi).lookup ("came_by":Yj)=Ya cb:=by kernel_rfl
theorem WT:(nJ me ro nw pg ch cb wb pa lg lo db nt wo wi).lookup ("went_by":Yj)=Ya wb:=by kernel_rfl
theorem aev:(nJ me ro nw pg ch cb wb pa lg lo db nt wo wi).lookup ("past":Yj)=Ya pa:=by kernel_rfl
theorem ahG:(nJ me ro nw pg ch cb wb pa lg lo db nt wo wi).lookup ("log":Yj)=Ya lg:=by kernel_rfl
theorem aaa:(nJ me ro nw pg ch cb wb pa lg lo db nt wo wi).lookup ("doubts":Yj)=Ya db:=by kernel_rfl
theorem acT:(nJ me ro nw pg ch cb wb pa lg lo db nt wo wi).lookup ("noted":Yj)=Ya nt:=by kernel_rfl
theorem Qa:(nJ me ro nw pg ch cb wb pa lg lo db nt wo wi).lookup ("wants_out":Yj)=Ya wo:=by kernel_rfl
theorem Sg:(nJ me ro nw pg ch cb wb pa lg lo db nt wo wi).lookup ("wants_in":Yj)=Ya wi:=by kernel_rfl
theorem TV:(nJ me ro nw pg ch cb wb pa lg lo db nt wo wi).lookup ("check_in":Yj)=none:=by kernel_rfl
theorem Qi:(nJ me ro nw pg ch cb wb pa lg lo db nt wo wi).lookup ("stands_in":Yj)=none:=by kernel_rfl
theorem Nb:(nJ me ro nw pg ch cb wb pa lg lo db nt wo wi).lookup ("note_taken":Yj)=none:=by kernel_rfl
theorem adq:(nJ me ro nw pg ch cb wb pa lg lo db nt wo wi).lookup ("enter":Yj)=none:=by kernel_rfl
theorem aap:(nJ me ro nw pg ch cb wb pa lg lo db nt wo wi).lookup ("go_out":Yj)=none:=by kernel_rfl
theorem adx:(nJ me ro nw pg ch cb wb pa lg lo db nt wo wi).lookup ("go_by":Yj)=none:=by kernel_rfl
theorem aaf:(nJ me ro nw pg ch cb wb pa lg lo db nt wo wi).lookup ("settle":Yj)=none:=by kernel_rfl
theorem PJ:(nJ me ro nw pg ch cb wb pa lg lo db nt wo wi).lookup ("hear_away":Yj)=none:=by kernel_rfl
theorem Gz:(nJ me ro nw pg ch cb wb pa lg lo db nt wo wi).lookup ("hear_standing":Yj)=none:=by kernel_rfl
theorem Tz:(nJ me ro nw pg ch cb wb pa lg lo db nt wo wi).lookup ("come_new":Yj)=none:=by kernel_rfl
theorem KR:(nJ me ro nw pg ch cb wb pa lg lo db nt wo wi).lookup ("hear_fellow":Yj)=none:=by kernel_rfl
theorem WQ:(nJ me ro nw pg ch cb wb pa lg lo db nt wo wi).lookup ("stopped":Yj)=none:=by kernel_rfl
theorem agO:(nJ me ro nw pg ch cb wb pa lg lo db nt wo wi).length<1000:=by show 14<1000;decide
end
noncomputable def alL(s:YN)(i:Nat):YY:=match s with
 | .Expr (.Call _ as _ _) _=>as.getD i (.Constant .none 0 ⟨0,0,0,0⟩)
 |_=>.Constant .none 0 ⟨0,0,0,0⟩
noncomputable def abl(e:YY):CF:=match e with
 | .Lambda a _ _ _=>a
 |_=>⟨[],[],Yb,[],[],Yb,[]⟩
noncomputable def acv(e:YY):YY:=match e with
 | .Lambda _ b _ _=>b
 |e=>e
noncomputable def aj5(e:YY):hJ:=match e with
 | .Lambda _ _ _ p=>p
 |_=>⟨0,0,0,0⟩
noncomputable def Ou(e:YY):jv:=match e with
 | .Lambda _ _ s _=>s
 |_=>default
section
theorem fJ:PE X e (λ_ _ _=>False):=λ_ _ _ _ _ _ h=>h.elim
theorem By:PT X e (λ_ _ _=>False):=λ_ _ _ _ _ _ h=>h.elim
end
section
variable{a b c d h r n e o:V}
end
section
variable{o f:YY}{apos cpos:hJ}{td ty tx:TE}
end
section
end
section
end
section
end
section
end
end L2
namespace HT
open PySem PySem.Spec PyProof.Rows
section
variable{prog:YJ}{w:YV}{A:Y4}{E:Yd->Yh->Prop}{s:Yh}
end
end HT
namespace L2
open PySem PySem.Spec PyProof.Rows
variable{X:Cx}{K:Ye}
section
def amj(K:Ye):R2:=λx y H Q=>∃a b xs ys,x=.ref a/\y=.ref b/\cN K H a xs/\cN K H b ys/\xs.length+ ys.length<=YB/\(xs=[]->Q (.ref b) H)/\
 (xs≠[]->ys=[]->Q (.ref a) H)/\(xs≠[]->ys≠[]->∀p,H p=Yb->Q (.ref p) (upd H p (.tup (xs++ys))))
theorem ad3(hK:X.K=K):yV X (i7 .Add) (amj K):=by
 subst hK;intro pins s σ H x y v u Q I rx ry h;obtain⟨a,b,xs,ys,rfl,rfl,ha,hb,hz,q0,q1,q2⟩:=h;by_cases hx:xs=[]
 ·cases rx;cases ry;obtain⟨its,r1,p1,_⟩:=I.tuple ha;obtain⟨its2,r2,p2,_⟩:=I.tuple hb;have e0:its=[]:=r1.nil_iff.mpr hx;obtain⟨⟨cls,dd,data,sl⟩,ho,hc,n,hd⟩:=id p1;obtain⟨⟨cls2,dd2,data2,sl2⟩,ho2,hc2,n2,hd2⟩:=id p2;simp only at hc hd hc2 hd2;subst hc hd hc2 hd2;exact CI ⟨_,ho,rfl⟩ ⟨_,ho2,rfl⟩ xD B0 se rS (qv _ _)
   (tuple_addW0 a b its.toArray its2.toArray n n2 dd dd2 sl sl2 (by simp[e0])) ⟨ho,ho2,.ref b,H,I,rfl,q0 hx⟩
 ·exact ahn pins s σ H _ _ v u Q I rx ry ⟨a,b,xs,ys,rfl,rfl,ha,hb,hx,hz,q1 hx,q2 hx⟩
end
section
def Lx:V->List V->Hp->VK->Prop:=λx vs H Q=>∃(l:Yc) (ns:List Int) (k:Int) (j:Nat),x=.ref l/\vs=[.int k]/\H l=Ya (.lst (ns.map V.int))/\ns[j]?=Ya k/\(∀m,m<j->ns[m]?≠Ya k)/\Q .non (upd H l (.lst ((ns.map V.int).eraseIdx j)))
theorem V5:∀{ns:List Int} {its:List Yd},Vals (ns.map V.int) its->PySem.W.kf_ints its=true/\∀(i:Nat) (h:i<its.length) (k:Int),isInt k its[i]=decide (ns[i]?=Ya k)
 |[],_,.nil=>⟨rfl,λi h=>nomatch h⟩
 |n::ns,_,.cons h t=>by
  obtain⟨u,rfl⟩:=h;obtain⟨a,b⟩:=V5 t;refine⟨a,λi h k=>?_⟩;cases i with
  |zero=>
   show(n==k)=decide (Ya n=Ya k);by_cases z:n=k
   ·rw[z,beq_self_eq_true,decide_eq_true rfl]
   ·rw[beq_false_of_ne z,decide_eq_false (λy=>z (YL y))]
  |succ i=>exact b i (sh h) k
theorem acG:MtM X "list.remove" Lx:=by
 intro pins s σ H x vs v us Q I rx rv h;obtain⟨l,ns,k,j,rfl,rfl,hH,hj,hn,q⟩:=h;cases rx;obtain⟨u,rfl,ru⟩:=rv.one;obtain⟨t,rfl⟩:=ru;obtain⟨z,its,n,r,hl,e⟩:=I.lstM hH;obtain⟨ki,kb⟩:=V5 r;have jl:j<its.length:=by
  have:=(Yp.mp hj).1;rw[←hl,Yi];exact this
 refine rh F.slot_list_remove ⟨_,e,rfl⟩ F.entry_list_remove (F.args_list_remove_2 _ _)
  (MeetsSeq.list_remove l its.toArray n (.int k t) (isInt k) (λy hy=>PySem.W.kf_eq ki y (by simpa using hy)) j (by rw[Yx];exact jl) (by rw[BS,kb j jl k];exact decide_eq_true hj) (λm hm h2=>by rw[BS,kb m (by rwa [Yx]at hm) k];exact decide_eq_false (hn m h2)) (by rw[Yx];omega)) ⟨e,?_⟩
 refine⟨.non,_,I.lset (its':=its.eraseIdx j) hH e ?_ (r.eraseIdx j) ?_,rfl,q⟩
 ·show its.toArray.eraseIdxIfInBounds j=(its.eraseIdx j).toArray;rw[List.eraseIdxIfInBounds_toArray]
 ·have:=QT (ns.map V.int) j;omega
theorem aac{o e:YY}{to:TE}{t:TA}{apos cpos:hJ}(hK:X.K=K)(h:PE X (.Call (.Attribute o "remove" apos) [e] [] cpos) (tBM X.K "list" Lx to t)):PE X (.Call (.Attribute o "remove" apos) [e] [] cpos) (tBM K "list" Lx to t):=by subst hK;exact h
theorem aft{H:Hp}{Q:VK}{l:Yc}{ns:List Int}{k:Int}{j:Nat}(h1:H l=Ya (.lst (ns.map V.int)))(h2:ns[j]?=Ya k)(h3:∀m,m<j->ns[m]?≠Ya k)(h:Q .non (upd H l (.lst ((ns.map V.int).eraseIdx j)))):Lx (.ref l) [.int k] H Q:=⟨l,ns,k,j,rfl,rfl,h1,h2,h3,h⟩
end
end L2
namespace L2
inductive E2 {α0 α1:Sort _} (p:α0->α1->Prop):Prop
 |mk (a0:α0) (a1:α1):p a0 a1->E2 p
inductive E3 {α0 α1 α2:Sort _} (p:α0->α1->α2->Prop):Prop
 |mk (a0:α0) (a1:α1) (a2:α2):p a0 a1 a2->E3 p
inductive E4 {α0 α1 α2 α3:Sort _} (p:α0->α1->α2->α3->Prop):Prop
 |mk (a0:α0) (a1:α1) (a2:α2) (a3:α3):p a0 a1 a2 a3->E4 p
inductive E5 {α0 α1 α2 α3 α4:Sort _} (p:α0->α1->α2->α3->α4->Prop):Prop
 |mk (a0:α0) (a1:α1) (a2:α2) (a3:α3) (a4:α4):p a0 a1 a2 a3 a4->E5 p
inductive E6 {α0 α1 α2 α3 α4 α5:Sort _} (p:α0->α1->α2->α3->α4->α5->Prop):Prop
 |mk (a0:α0) (a1:α1) (a2:α2) (a3:α3) (a4:α4) (a5:α5):p a0 a1 a2 a3 a4 a5->E6 p
inductive E7 {α0 α1 α2 α3 α4 α5 α6:Sort _} (p:α0->α1->α2->α3->α4->α5->α6->Prop):Prop
 |mk (a0:α0) (a1:α1) (a2:α2) (a3:α3) (a4:α4) (a5:α5) (a6:α6):p a0 a1 a2 a3 a4 a5 a6->E7 p
inductive E8 {α0 α1 α2 α3 α4 α5 α6 α7:Sort _} (p:α0->α1->α2->α3->α4->α5->α6->α7->Prop):Prop
 |mk (a0:α0) (a1:α1) (a2:α2) (a3:α3) (a4:α4) (a5:α5) (a6:α6) (a7:α7):p a0 a1 a2 a3 a4 a5 a6 a7->E8 p
inductive E9 {α0 α1 α2 α3 α4 α5 α6 α7 α8:Sort _} (p:α0->α1->α2->α3->α4->α5->α6->α7->α8->Prop):Prop
 |mk (a0:α0) (a1:α1) (a2:α2) (a3:α3) (a4:α4) (a5:α5) (a6:α6) (a7:α7) (a8:α8):p a0 a1 a2 a3 a4 a5 a6 a7 a8->E9 p
inductive E10 {α0 α1 α2 α3 α4 α5 α6 α7 α8 α9:Sort _} (p:α0->α1->α2->α3->α4->α5->α6->α7->α8->α9->Prop):Prop
 |mk (a0:α0) (a1:α1) (a2:α2) (a3:α3) (a4:α4) (a5:α5) (a6:α6) (a7:α7) (a8:α8) (a9:α9):p a0 a1 a2 a3 a4 a5 a6 a7 a8 a9->E10 p
inductive E12 {α0 α1 α2 α3 α4 α5 α6 α7 α8 α9 α10 α11:Sort _} (p:α0->α1->α2->α3->α4->α5->α6->α7->α8->α9->α10->α11->Prop):Prop
 |mk (a0:α0) (a1:α1) (a2:α2) (a3:α3) (a4:α4) (a5:α5) (a6:α6) (a7:α7) (a8:α8) (a9:α9) (a10:α10) (a11:α11):p a0 a1 a2 a3 a4 a5 a6 a7 a8 a9 a10 a11->E12 p
inductive A3 (p0 p1 p2:Prop):Prop
 |mk:p0->p1->p2->A3 p0 p1 p2
inductive A4 (p0 p1 p2 p3:Prop):Prop
 |mk:p0->p1->p2->p3->A4 p0 p1 p2 p3
inductive A5 (p0 p1 p2 p3 p4:Prop):Prop
 |mk:p0->p1->p2->p3->p4->A5 p0 p1 p2 p3 p4
inductive A6 (p0 p1 p2 p3 p4 p5:Prop):Prop
 |mk:p0->p1->p2->p3->p4->p5->A6 p0 p1 p2 p3 p4 p5
inductive A7 (p0 p1 p2 p3 p4 p5 p6:Prop):Prop
 |mk:p0->p1->p2->p3->p4->p5->p6->A7 p0 p1 p2 p3 p4 p5 p6
inductive A8 (p0 p1 p2 p3 p4 p5 p6 p7:Prop):Prop
 |mk:p0->p1->p2->p3->p4->p5->p6->p7->A8 p0 p1 p2 p3 p4 p5 p6 p7
inductive A9 (p0 p1 p2 p3 p4 p5 p6 p7 p8:Prop):Prop
 |mk:p0->p1->p2->p3->p4->p5->p6->p7->p8->A9 p0 p1 p2 p3 p4 p5 p6 p7 p8
inductive A10 (p0 p1 p2 p3 p4 p5 p6 p7 p8 p9:Prop):Prop
 |mk:p0->p1->p2->p3->p4->p5->p6->p7->p8->p9->A10 p0 p1 p2 p3 p4 p5 p6 p7 p8 p9
inductive A11 (p0 p1 p2 p3 p4 p5 p6 p7 p8 p9 p10:Prop):Prop
 |mk:p0->p1->p2->p3->p4->p5->p6->p7->p8->p9->p10->A11 p0 p1 p2 p3 p4 p5 p6 p7 p8 p9 p10
inductive A12 (p0 p1 p2 p3 p4 p5 p6 p7 p8 p9 p10 p11:Prop):Prop
 |mk:p0->p1->p2->p3->p4->p5->p6->p7->p8->p9->p10->p11->A12 p0 p1 p2 p3 p4 p5 p6 p7 p8 p9 p10 p11
end L2
namespace L2
variable{a0 a1 a2 a3 a4 a5 a6 a7 a8 a9 a10 a11 a12 a13 a14 a15 a16:TS}{D:Er}{σ:St}{H:Hp}
theorem XM(h:let R1:=aM a1 a2;aM a0 R1 D σ H):aM a0 (aM a1 a2) D σ H:=h
theorem xl4(h:let R2:=aM a2 a3;let R1:=aM a1 R2;aM a0 R1 D σ H):aM a0 (aM a1 (aM a2 a3)) D σ H:=h
theorem xl5(h:let R3:=aM a3 a4;let R2:=aM a2 R3;let R1:=aM a1 R2;aM a0 R1 D σ H):aM a0 (aM a1 (aM a2 (aM a3 a4))) D σ H:=h
theorem xl6(h:let R4:=aM a4 a5;let R3:=aM a3 R4;let R2:=aM a2 R3;let R1:=aM a1 R2;aM a0 R1 D σ H):aM a0 (aM a1 (aM a2 (aM a3 (aM a4 a5)))) D σ H:=h
theorem xl7(h:let R5:=aM a5 a6;let R4:=aM a4 R5;let R3:=aM a3 R4;let R2:=aM a2 R3;let R1:=aM a1 R2;aM a0 R1 D σ H):aM a0 (aM a1 (aM a2 (aM a3 (aM a4 (aM a5 a6))))) D σ H:=h
theorem xl8(h:let R6:=aM a6 a7;let R5:=aM a5 R6;let R4:=aM a4 R5;let R3:=aM a3 R4;let R2:=aM a2 R3;let R1:=aM a1 R2;aM a0 R1 D σ H):aM a0 (aM a1 (aM a2 (aM a3 (aM a4 (aM a5 (aM a6 a7)))))) D σ H:=h
theorem am8(h:let R9:=aM a9 a10;let R8:=aM a8 R9;let R7:=aM a7 R8;let R6:=aM a6 R7;let R5:=aM a5 R6;let R4:=aM a4 R5;let R3:=aM a3 R4;let R2:=aM a2 R3;let R1:=aM a1 R2;aM a0 R1 D σ H):aM a0 (aM a1 (aM a2 (aM a3 (aM a4 (aM a5 (aM a6 (aM a7 (aM a8 (aM a9 a10))))))))) D σ H:=h
theorem ane(h:let R15:=aM a15 a16;let R14:=aM a14 R15;let R13:=aM a13 R14;let R12:=aM a12 R13;let R11:=aM a11 R12;let R10:=aM a10 R11;let R9:=aM a9 R10;let R8:=aM a8 R9;let R7:=aM a7 R8;let R6:=aM a6 R7;let R5:=aM a5 R6;let R4:=aM a4 R5;let R3:=aM a3 R4;let R2:=aM a2 R3;let R1:=aM a1 R2;aM a0 R1 D σ H):aM a0 (aM a1 (aM a2 (aM a3 (aM a4 (aM a5 (aM a6 (aM a7 (aM a8 (aM a9 (aM a10 (aM a11 (aM a12 (aM a13 (aM a14 (aM a15 a16))))))))))))))) D σ H:=h
theorem anv{a17 a18 a19 a20 a21:TS}(h:let R20:=aM a20 a21;let R19:=aM a19 R20;let R18:=aM a18 R19;let R17:=aM a17 R18;let R16:=aM a16 R17;let R15:=aM a15 R16;let R14:=aM a14 R15;let R13:=aM a13 R14;let R12:=aM a12 R13;let R11:=aM a11 R12;let R10:=aM a10 R11;let R9:=aM a9 R10;let R8:=aM a8 R9;let R7:=aM a7 R8;let R6:=aM a6 R7;let R5:=aM a5 R6;let R4:=aM a4 R5;let R3:=aM a3 R4;let R2:=aM a2 R3;let R1:=aM a1 R2;aM a0 R1 D σ H):aM a0 (aM a1 (aM a2 (aM a3 (aM a4 (aM a5 (aM a6 (aM a7 (aM a8 (aM a9 (aM a10 (aM a11 (aM a12 (aM a13 (aM a14 (aM a15 (aM a16 (aM a17 (aM a18 (aM a19 (aM a20 a21)))))))))))))))))))) D σ H:=h
end L2
namespace L2
open PySem PySem.Spec PyProof.Rows
variable{N:List Yj}{u:TS}{D:Er}{σ:St}{H:Hp}
theorem gF{P:List Yj}{sc:jv}(a:sc.kind=.function:=by rfl)(b:sc.isCoroutine=false:=by rfl)(c:sc.isGenerator=false:=by rfl)(d:N.Nodup:=by decide +kernel)(e:N.take P.length=P:=by rfl)(f:∀x∈P,sc.names.lookup x=Ya .local∨sc.names.lookup x=Ya .cell:=by decide +kernel)(g:∀y∈sc.names,y.2≠.free:=by decide +kernel):aD N P sc:=⟨a,b,c,d,e,f,g⟩
def Tg(_:YJ)(_:YV)(_:Yj->Option Yd)(_:YR):Prop:=True
abbrev nI(K:Ye)(x:Yj)(f:Yc):Prop:=PySem.W.nsIn K Y1 x=Ya (Ya (.ref f))
def qa:List Yj->(List Yd->Prop)->Prop
 |[],p=>p []
 |_::r,p=>∀v,qa r λus=>p (v::us)
theorem aiI:∀{ps:List Yj} {p:List Yd->Prop},qa ps p->∀us:List Yd,us.length=ps.length->p us
 |[],_,h,[],_=>h
 |_::_,_,h,v::us,e=>aiI (h v) us (yi e)
section
variable{P:YJ}{w:YV}{K:Ye}{mg:Yj->Option Yd}{base h:YR}{x qual:Yj}{st:YN}{f:Yc}{fd:Yt}{ps:List Yj}{k:Nat}{sp:Sp}
theorem bW.oj(F:bW K x qual st f fd)(S:aD N ps (aA st))
  (hbody:∀(cdv:Yd) (A:Y4) (outer:List l8) (s:Yh) (H:Hp) (vs:List V) (Q:VK) (E:XK),eQ k (A.deeper (mv qual (aA st) s.heap.objs.size f cdv))->(A.deeper (mv qual (aA st) s.heap.objs.size f cdv)).units+ 64<fm->(A.deeper (mv qual (aA st) s.heap.objs.size f cdv)).units<fm->(A.deeper (mv qual (aA st) s.heap.objs.size f cdv)).units+ 1<fm->sp vs H Q E->
   ∃t,XN (RN bH P w K mg base N qual (aA st) f cdv A outer s H E).nox (eZ st) t/\t {nx:=λ_ H'=>Q .non H',rt:=Q} (lX N vs) H)
  (len:∀vs H Q E,sp vs H Q E->vs.length=ps.length:=by intro _ _ _ _ h;(repeat(cases h;rename_i h))<;>(subst_vars;rfl)):aG P w K mg base bH (k+ 1) f fd ps sp:=F.ok S len λc A o s H vs Q E hr h=>hbody c A o s H vs Q E hr hr.units hr.units0 (Ot hr) h
theorem bW.bq(F:bW K x qual st f fd)(h:∀(kV doc pm:Yd) (an:Option Yc) (cdv ct:Yd),qa ps λus=>BC (d4 x qual (iK st) (eZ st) (aA st) .none kV doc pm an cdv ct) ⟨us,[]⟩=pure (ps.zip us):=by(repeat refine λ_=>?_);rfl):Binds K fd ps []:=F.binds λa b c d e g us hl=>aiI (h a b c d e g) us hl
theorem bW.cal(F:bW K x qual st f fd)(X:K.In h)(G:h.Ns Y1 mg)(a:nI K x f)(q:∀(kV doc pm:Yd) (an:Option Yc) (cdv ct:Yd),qa ps λus=>BC (d4 x qual (iK st) (eZ st) (aA st) .none kV doc pm an cdv ct) ⟨us,[]⟩=pure (ps.zip us):=by(repeat refine λ_=>?_);rfl):gW K mg x f fd ps:=⟨PySem.W.mg_of X G a,F.kp,F.bq q⟩
end
theorem ln1{α:Type}:∀{us:List α},us.length=1->∃a0,us=[a0]|[a0],_=>⟨a0,rfl⟩
theorem ln3{α:Type}:∀{us:List α},us.length=3->∃a0 a1 a2,us=[a0,a1,a2]|[a0,a1,a2],_=>⟨a0,a1,a2,rfl⟩
theorem ani{a b c:TS}(h:∀R:TS,R=aM c u->aM a (aM b R) D σ H):aM a (aM b (aM c u)) D σ H:=h _ rfl
theorem anM{R:TS}(e:R=u)(h:u D σ H):R D σ H:=e▸h
end L2
end
namespace K78
open PySem L2
noncomputable def gn(i:Nat):YN:=xb.main.body.getD i (.Pass ⟨0,0,0,0⟩)
noncomputable abbrev Oc:YN:=gn 6
noncomputable abbrev afZ:YN:=gn 7
noncomputable abbrev Ff:YN:=gn 8
noncomputable abbrev wU:YN:=gn 17
noncomputable abbrev xu:YN:=gn 14
noncomputable abbrev Af:YN:=gn 15
noncomputable abbrev rB:YN:=gn 16
noncomputable abbrev aaA:YN:=gn 10
noncomputable abbrev mK:YN:=gn 12
noncomputable abbrev NP:YN:=gn 9
noncomputable abbrev lG:YN:=bF (gn 18) 0
noncomputable abbrev rY:YN:=bF (gn 18) 1
noncomputable abbrev mY:YN:=bF (gn 18) 2
noncomputable abbrev jt:YN:=bF (gn 18) 4
noncomputable abbrev m9:YN:=bF (gn 18) 5
noncomputable abbrev nA:YN:=bF (gn 18) 6
noncomputable abbrev jY:YN:=bF (gn 18) 10
noncomputable abbrev nD:YN:=bF (gn 18) 11
noncomputable abbrev mO:YN:=bF (gn 18) 3
noncomputable abbrev jz:YN:=bF (gn 18) 8
noncomputable abbrev uP:YN:=gn 30
noncomputable abbrev Fx:YN:=gn 36
noncomputable abbrev OJ:YN:=gn 32
noncomputable abbrev LK:YN:=gn 34
noncomputable abbrev Oa:YN:=gn 35
noncomputable abbrev JC:YN:=gn 50
noncomputable abbrev JN:YN:=gn 51
noncomputable abbrev xP:YN:=gn 52
noncomputable abbrev Jv:YN:=gn 53
noncomputable abbrev pI:YN:=gn 55
noncomputable abbrev aew:YN:=gn 57
noncomputable abbrev rG:YN:=gn 58
noncomputable abbrev Mf:YN:=gn 59
noncomputable abbrev Jw:YN:=gn 64
noncomputable abbrev Am:YN:=gn 65
noncomputable abbrev qK:YN:=gn 66
noncomputable abbrev xJ:YN:=gn 67
noncomputable abbrev nj:YN:=bF (gn 18) 9
noncomputable abbrev mU:YN:=bF (gn 18) 7
noncomputable abbrev lZ:YN:=bF (gn 48) 0
noncomputable abbrev uZ:YN:=bF (gn 48) 1
noncomputable abbrev uC:YN:=bF (gn 48) 3
noncomputable abbrev wQ:YN:=bF (gn 48) 5
noncomputable abbrev uv:YN:=bF (gn 48) 7
noncomputable abbrev q8:YN:=bF (gn 48) 6
noncomputable abbrev oW:YN:=bF (gn 62) 0
noncomputable abbrev lB:YN:=bF (gn 62) 3
noncomputable abbrev u0:YN:=bF (gn 62) 7
noncomputable abbrev RV:YN:=gn 11
noncomputable abbrev Bc:YN:=bF (gn 62) 5
noncomputable abbrev wM:YN:=bF (gn 62) 8
noncomputable abbrev pL:YN:=bF (gn 62) 10
noncomputable abbrev uI:YN:=bF (gn 62) 9
noncomputable abbrev uO:YN:=bF (gn 62) 11
noncomputable abbrev uW:YN:=bF (gn 62) 12
noncomputable abbrev zQ:YN:=bF (gn 62) 13
noncomputable abbrev uX:YN:=bF (gn 71) 20
noncomputable abbrev qI:YN:=bF (gn 71) 26
noncomputable abbrev my:YN:=bF (gn 71) 10
noncomputable abbrev oY:YN:=bF (gn 71) 21
noncomputable abbrev lJ:YN:=bF (gn 71) 11
noncomputable abbrev xn:YN:=bF (gn 71) 12
noncomputable abbrev uA:YN:=bF (gn 71) 13
noncomputable abbrev xx:YN:=bF (gn 71) 14
noncomputable abbrev nU:YN:=bF (gn 71) 15
noncomputable abbrev uz:YN:=bF (gn 71) 6
noncomputable abbrev pA:YN:=bF (gn 71) 8
noncomputable abbrev xj:YN:=bF (gn 71) 2
noncomputable abbrev qJ:YN:=bF (gn 71) 3
noncomputable abbrev pq:YN:=gn 70
noncomputable abbrev pC:YN:=bF (gn 71) 18
noncomputable abbrev jV:YN:=bF (gn 71) 19
noncomputable abbrev je:YN:=bF (gn 71) 17
noncomputable abbrev m7:YN:=bF (gn 71) 16
noncomputable abbrev yZ:YN:=bF (gn 71) 7
noncomputable abbrev Es:YN:=gn 3
noncomputable abbrev JT:YN:=gn 4
noncomputable abbrev Nu:YN:=gn 5
noncomputable abbrev oZ:YN:=bF (gn 71) 0
noncomputable abbrev q9:YN:=gn 73
noncomputable abbrev xK:YN:=gn 74
noncomputable abbrev u9:YN:=gn 78
noncomputable abbrev BR:YN:=gn 76
noncomputable abbrev xr:YN:=gn 75
noncomputable abbrev rW:YN:=gn 77
noncomputable abbrev Qv:YN:=gn 79
def Tr(K:Ye)(P_mk:Yc):Sp:=λvs H Q _=>E2 fun(a:Yc) (ns:List Int)=>vs=[.ref a]/\(A4 (bI K H a (ns.map V.int)) (ns.length<=63) (H P_mk=Ya (.tbl #[])) (∀H',Q (.bl true) H'))
theorem ah7{K:Ye}{x qual:Yj}{st:YN}{f c:Yc}{oc:Yd}{od an:Option Yc}{osl:Array (Option Yd)}{kV doc pm ct:Yd}(l:K.lookup f=Ya ⟨oc,od,.func (d4 x qual (iK st) (eZ st) (aA st) .none kV doc pm an (.ref c) ct),osl⟩)(h:kQ K (.ref c) qual=true):ae6 K x qual st f (d4 x qual (iK st) (eZ st) (aA st) .none kV doc pm an (.ref c) ct) c:=⟨⟨oc,od,kV,doc,pm,an,ct,osl,rfl,l,h⟩⟩
theorem anC{l:FV}{q:YJ}{loose:List Yj}{XP:(Yj->Option Yd)->YR->Prop}{YP:YV->YR->Prop}{d:DefRec}{K:Params->Ye}{c P:Yc}(hn:l.most=Ya 63)(hdf:d.params.defaults=[])
  (hY:∀(w:YV) (h:YR),YP w h->(K w.params).In h/\∀t∈[P],h.get? t=Ya (nX #[])) (hK:∀w:YV,Fh (K w.params) c P=true/\(K w.params).lookup P=Yb)
  (F:∀(w:YV) (mg:Yj->Option Yd) (fa:Yc) (h:YR),(K w.params).In h->h.Ns Y1 mg->mg d.name=Ya (.ref fa)->
   ∃fd:Yt,(∀(s:Yh) (u:Yd),AO s fd ⟨[u],[]⟩ [("_law_script",u)])/\∀base:YR,(K w.params).In base->base.Ns Y1 mg->Ua base mg->aG l.prog w (K w.params) mg base bH 15 fa fd ["_law_script"] (Tr (K w.params) P)):
  HE q loose XP YP l.row.toRowW d [] (λf vs=>PySem.call f vs):=
 L2.aeO (n:=63) (k:=15) (x:="_law_script") (tabs:=[(c,P)]) (sp:=λw=>Tr (K w.params) P) hn (by decide) hdf ⟨rfl,by decide,by decide⟩ hY (λw q hq=>by rw[Yy.mp hq];exact hK w) F (λ_ _ a ns hl hO hS=>⟨a,ns,rfl,hS,hl,hO.2 P (by simp),λ_=>rfl⟩) λ_ _ _ _ z=>z
def AM:Prop:=∀{l:W.OpenLaw} {w:YV} {K:W.Frag} {h:YR} {mg:Yj->Option Yd} {fa f_0 f_1 f_2 f_3 f_4 f_5 f_6 f_7 f_8 f_9 f_10 f_11 f_12 f_13 f_14 f_15 f_16 f_17 f_18 f_19 f_20 f_21 f_22 f_23 f_24 f_25 f_26 f_27 f_28 f_29 f_30 f_31 f_32 f_33 f_34 f_35 f_36 f_37 f_38 f_39 f_40 f_41 f_42 f_43 f_44 f_45 f_46 f_47 f_48 f_49 f_50 f_51 f_52 f_53 f_54 f_55 f_56 f_57 f_58 f_59 f_60 f_61 f_62 f_63 f_64 f_65 f_66 f_67 f_68 f_69 f_70 f_71 f_72 f_73 f_74 f_75 f_76 f_77 f_78 f_79 f_80 f_81 f_82 f_83 f_84 f_85 bN bB fG dY aa0 P_mk:Yc} {d_0 d_1 d_2 d_3 d_4 d_5 d_6 d_7 d_8 d_9 d_10 d_11 d_12 d_13 d_14 d_15 d_16 d_17 d_18 d_19 d_20 d_21 d_22 d_23 d_24 d_25 d_26 d_27 d_28 d_29 d_30 d_31 d_32 d_33 d_34 d_35 d_36 d_37 d_38 d_39 d_40 d_41 d_42 d_43 d_44 d_45 d_46 d_47 d_48 d_49 d_50 d_51 d_52 d_53 d_54 d_55 d_56 d_57 d_58 d_59 d_60 d_61 d_62 d_63 d_64 d_65 d_66 d_67 d_68 d_69 d_70 d_71 d_72 d_73 d_74 d_75 d_76 d_77 d_78 d_79 d_80 d_81 d_82 d_83 d_84 d_85:Yt} (X:K.In h) (G:h.Ns Y1 mg) (hfa:mg "law"=Ya (.ref fa))
  {kY:l7} {fP:l7} {lu:l7} {iM fZ:l7} {tk_LAST_HAND:l7}
  (a_0:nI K "bit_of" f_0)
  (a_1:nI K "has" f_1)
  (a_2:nI K "hands_of" f_2)
  (a_3:nI K "own_copy" f_3)
  (a_4:nI K "is_greater" f_4)
  (a_5:nI K "ballot_of" f_5)
  (a_6:nI K "greatest_yes" f_6)
  (a_7:nI K "many" f_7)
  (a_8:nI K "more_than_half" f_8)
  (a_9:nI K "set_of" f_9)
  (a_20:nI K "hands_among" f_20)
  (a_21:nI K "unpacked" f_21)
  (a_22:nI K "joined" f_22)
  (a_23:nI K "common" f_23)
  (a_24:nI K "packed" f_24)
  (a_25:nI K "rank_of" f_25)
  (a_26:nI K "by_rank" f_26)
  (a_27:nI K "first_open" f_27)
  (a_28:nI K "name_at" f_28)
  (a_29:nI K "first_to_take" f_29)
  (a_30:nI K "run" f_30)
  (a_31:nI K "least_asking" f_31)
  (a_32:nI K "placed" f_32)
  (a_33:nI K "base_of" f_33)
  (a_34:nI K "places_of" f_34)
  (a_35:nI K "calls_beyond" f_35)
  (a_36:nI K "first_plan" f_36)
  (a_48:nI K "least" f_48)
  (a_69:nI K "names_lacking" f_69)
  (a_75:nI K "is_whole" f_75)
  (a_76:nI K "is_hand" f_76)
  (a_77:nI K "is_set" f_77)
  (a_79:nI K "_law_cell_at" f_79)
  (a_80:nI K "_law_hands" f_80)
  (a_81:nI K "_law_silent" f_81)
  (a_82:nI K "_law_asks" f_82)
  (a_83:nI K "_law_still" f_83)
  (a_84:nI K "_law_settles" f_84)
  (a_85:nI K "law" f_85)
  (Vi:nI K "Change" bN)
  (aeq:nI K "Hand" bB)
  (abV:nI K "Known" fG)
  (aeT:nI K "Page" dY)
  (DX:W.nsIn K Y1 "LAST_HAND"=Ya (Ya (.int 62 tk_LAST_HAND)))
  (aed:W.nsIn K Y1 "bool"=Ya Yb)
  (aee:W.nsIn K Y1 "dict"=Ya Yb)
  (ain:W.nsIn K Y1 "int"=Ya Yb)
  (Hg:W.nsIn K Y1 "isinstance"=Ya Yb)
  (aio:W.nsIn K Y1 "len"=Ya Yb)
  (afl:W.nsIn K Y1 "list"=Ya Yb)
  (ais:W.nsIn K Y1 "max"=Ya Yb)
  (aiH:W.nsIn K Y1 "min"=Ya Yb)
  (ach:W.nsIn K Y1 "range"=Ya Yb)
  (aiK:W.nsIn K Y1 "set"=Ya Yb)
  (Wu:W.nsIn K Y1 "sorted"=Ya Yb)
  (air:W.nsIn K Y1 "sum"=Ya Yb)
  (abW:W.nsIn K Y1 "tuple"=Ya Yb)
  (iB:bU K bN "begin" f_11)
  (cW:bU K bN "gathers" f_15)
  (dW:bU K bN "has_enough" f_19)
  (fQ:bU K bN "made_by" f_37)
  (fV:bU K bN "message" f_12)
  (fU:bU K bN "propose" f_38)
  (gj:bU K bN "receive" f_18)
  (dO:bU K bN "see_ballot" f_13)
  (cD:bU K bN "see_votes" f_16)
  (fY:bU K bN "see_yes" f_14)
  (gb:bU K bN "settled" f_17)
  (gO:bU K bB "check_in" f_66)
  (gP:bU K bB "come_new" f_70)
  (cY:bU K bB "enter" f_61)
  (jb:bU K bB "events" f_56)
  (cZ:bU K bB "go_by" f_63)
  (dX:bU K bB "go_out" f_62)
  (dz:bU K bB "hear" f_74)
  (fX:bU K bB "hear_away" f_73)
  (eF:bU K bB "hear_fellow" f_71)
  (dJ:bU K bB "hear_standing" f_72)
  (cB:bU K bB "letter" f_65)
  (cL:bU K bB "note_taken" f_60)
  (jH:bU K bB "renew" f_67)
  (cM:bU K bB "settle" f_64)
  (cQ:bU K bB "standing" f_59)
  (cG:bU K bB "stands_in" f_58)
  (cC:bU K bB "stopped" f_57)
  (fO:bU K bB "suspect" f_68)
  (dZ:bU K fG "floor" f_41)
  (gH:bU K fG "learn" f_40)
  (fL:bU K fG "listed" f_44)
  (gJ:bU K fG "merge" f_43)
  (jF:bU K fG "sure" f_42)
  (iW:bU K dY "finish" f_54)
  (gQ:bU K dY "keep_new" f_51)
  (bQ:bU K dY "kept_calls" f_46)
  (jd:bU K dY "let_go" f_47)
  (iY:bU K dY "listen" f_52)
  (jE:bU K dY "piece" f_50)
  (dR:bU K dY "report" f_53)
  (j6:bU K dY "rows" f_55)
  (kI:bU K dY "step" f_49)
  (zr:Mk K bN f_10)
  (Mt:Mk K bB f_78)
  (Cr:Mk K fG f_39)
  (Mg:Mk K dY f_45)
  (F_0:bW K "bit_of" "bit_of" Oc f_0 d_0)
  (F_1:bW K "has" "has" afZ f_1 d_1)
  (F_2:bW K "hands_of" "hands_of" Ff f_2 d_2)
  (F_3:bW K "own_copy" "own_copy" wU f_3 d_3)
  (F_4:bW K "is_greater" "is_greater" xu f_4 d_4)
  (F_5:bW K "ballot_of" "ballot_of" Af f_5 d_5)
  (F_6:bW K "greatest_yes" "greatest_yes" rB f_6 d_6)
  (F_7:bW K "many" "many" aaA f_7 d_7)
  (F_8:bW K "more_than_half" "more_than_half" mK f_8 d_8)
  (F_9:bW K "set_of" "set_of" NP f_9 d_9)
  (F_10:bW K "__init__" "Change.__init__" lG f_10 d_10)
  (F_11:bW K "begin" "Change.begin" rY f_11 d_11)
  (F_12:bW K "message" "Change.message" mY f_12 d_12)
  (F_13:bW K "see_ballot" "Change.see_ballot" jt f_13 d_13)
  (F_14:bW K "see_yes" "Change.see_yes" m9 f_14 d_14)
  (F_15:bW K "gathers" "Change.gathers" nA f_15 d_15)
  (F_16:bW K "see_votes" "Change.see_votes" jY f_16 d_16)
  (F_17:bW K "settled" "Change.settled" nD f_17 d_17)
  (F_18:bW K "receive" "Change.receive" mO f_18 d_18)
  (F_19:bW K "has_enough" "Change.has_enough" jz f_19 d_19)
  (F_20:bW K "hands_among" "hands_among" uP f_20 d_20)
  (F_21:bW K "unpacked" "unpacked" Fx f_21 d_21)
  (F_22:bW K "joined" "joined" OJ f_22 d_22)
  (F_23:bW K "common" "common" LK f_23 d_23)
  (F_24:bW K "packed" "packed" Oa f_24 d_24)
  (F_25:bW K "rank_of" "rank_of" JC f_25 d_25)
  (F_26:bW K "by_rank" "by_rank" JN f_26 d_26)
  (F_27:bW K "first_open" "first_open" xP f_27 d_27)
  (F_28:bW K "name_at" "name_at" Jv f_28 d_28)
  (F_29:bW K "first_to_take" "first_to_take" pI f_29 d_29)
  (F_30:bW K "run" "run" aew f_30 d_30)
  (F_31:bW K "least_asking" "least_asking" rG f_31 d_31)
  (F_32:bW K "placed" "placed" Mf f_32 d_32)
  (F_33:bW K "base_of" "base_of" Jw f_33 d_33)
  (F_34:bW K "places_of" "places_of" Am f_34 d_34)
  (F_35:bW K "calls_beyond" "calls_beyond" qK f_35 d_35)
  (F_36:bW K "first_plan" "first_plan" xJ f_36 d_36)
  (F_37:bW K "made_by" "Change.made_by" nj f_37 d_37)
  (F_38:bW K "propose" "Change.propose" mU f_38 d_38)
  (F_39:bW K "__init__" "Known.__init__" lZ f_39 d_39)
  (F_40:bW K "learn" "Known.learn" uZ f_40 d_40)
  (F_41:bW K "floor" "Known.floor" uC f_41 d_41)
  (F_42:bW K "sure" "Known.sure" wQ f_42 d_42)
  (F_43:bW K "merge" "Known.merge" uv f_43 d_43)
  (F_44:bW K "listed" "Known.listed" q8 f_44 d_44)
  (F_45:bW K "__init__" "Page.__init__" oW f_45 d_45)
  (F_46:bW K "kept_calls" "Page.kept_calls" lB f_46 d_46)
  (F_47:bW K "let_go" "Page.let_go" u0 f_47 d_47)
  (F_48:bW K "least" "least" RV f_48 d_48)
  (F_49:bW K "step" "Page.step" Bc f_49 d_49)
  (F_50:Jo K "piece" "Page.piece" wM f_50 d_50 [.int 0 kY,.none])
  (F_51:bW K "keep_new" "Page.keep_new" pL f_51 d_51)
  (F_52:bW K "listen" "Page.listen" uI f_52 d_52)
  (F_53:bW K "report" "Page.report" uO f_53 d_53)
  (F_54:bW K "finish" "Page.finish" uW f_54 d_54)
  (F_55:bW K "rows" "Page.rows" zQ f_55 d_55)
  (F_56:bW K "events" "Hand.events" uX f_56 d_56)
  (F_57:bW K "stopped" "Hand.stopped" qI f_57 d_57)
  (F_58:bW K "stands_in" "Hand.stands_in" my f_58 d_58)
  (F_59:bW K "standing" "Hand.standing" oY f_59 d_59)
  (F_60:bW K "note_taken" "Hand.note_taken" lJ f_60 d_60)
  (F_61:bW K "enter" "Hand.enter" xn f_61 d_61)
  (F_62:bW K "go_out" "Hand.go_out" uA f_62 d_62)
  (F_63:bW K "go_by" "Hand.go_by" xx f_63 d_63)
  (F_64:bW K "settle" "Hand.settle" nU f_64 d_64)
  (F_65:Jo K "letter" "Hand.letter" uz f_65 d_65 [.int 0 fP,.none])
  (F_66:bW K "check_in" "Hand.check_in" pA f_66 d_66)
  (F_67:Jo K "renew" "Hand.renew" xj f_67 d_67 [.int 1 lu])
  (F_68:bW K "suspect" "Hand.suspect" qJ f_68 d_68)
  (F_69:bW K "names_lacking" "names_lacking" pq f_69 d_69)
  (F_70:bW K "come_new" "Hand.come_new" pC f_70 d_70)
  (F_71:bW K "hear_fellow" "Hand.hear_fellow" jV f_71 d_71)
  (F_72:bW K "hear_standing" "Hand.hear_standing" je f_72 d_72)
  (F_73:bW K "hear_away" "Hand.hear_away" m7 f_73 d_73)
  (F_74:bW K "hear" "Hand.hear" yZ f_74 d_74)
  (F_75:bW K "is_whole" "is_whole" Es f_75 d_75)
  (F_76:bW K "is_hand" "is_hand" JT f_76 d_76)
  (F_77:bW K "is_set" "is_set" Nu f_77 d_77)
  (F_78:Jo K "__init__" "Hand.__init__" oZ f_78 d_78 [.int 1 iM,.int 8 fZ])
  (F_79:bW K "_law_cell_at" "_law_cell_at" q9 f_79 d_79)
  (F_80:bW K "_law_hands" "_law_hands" xK f_80 d_80)
  (F_81:bW K "_law_silent" "_law_silent" u9 f_81 d_81)
  (F_82:bW K "_law_asks" "_law_asks" BR f_82 d_82)
  (F_83:bW K "_law_still" "_law_still" xr f_83 d_83)
  (F_84:bW K "_law_settles" "_law_settles" rW f_84 d_84)
  (F_85:bW K "law" "law" Qv f_85 d_85)
  (aH:Uk K bN)
  (aJ:Qn K bB)
  (bJ:XS K fG)
  (aZ:Rv K dY)
  (FC:ae6 K "settle" "Hand.settle" nU f_64 d_64 aa0)
  (hcd:W.codeHdIn K aa0 P_mk=true),
  ∃fd:Yt,(∀(s:Yh) (v:Yd),AO s fd ⟨[v],[]⟩ [("_law_script",v)])/\∀base:YR,K.In base->base.Ns Y1 mg->Ua base mg->aG l.prog w K mg base bH 15 fa fd ["_law_script"] (Tr K P_mk)
end K78
def Zq.D(_:K78.AM)(p:Prop):Prop:=p
theorem Zq.dep(h:K78.AM){p:Prop}(x:Zq.D h p):p:=x
theorem Zq.un{h:K78.AM}{p:Prop}(x:p):Zq.D h p:=x
section
open Lean in
local macro_rules | `(#synth $f $k*) => return mkNullNode (← k.mapM λi => `(def $(mkIdent (.mkSimple s!"tw{(`PySem.Challenge.hd_K78 ++ .mkSimple s!"{f.raw.getId}_{i.raw.toNat}").hash}")) := Nat))
namespace PySem.W.Fast
#synth heap 39 46 1450
#synth tree 47 132 153 249 264 279 294 309 324 339 361 412 437 516 545 574 624 690 763 887 967 1008 1221 1308 1399 1449
#synth view 39
#synth sts 49 133 154 250 265 280 295 310 325 340 362 413 438 517 546 575 625 691 764 971 1009 1403
#synth o 43 45 46 49 51 53 54 55 56 57 58 60 61 62 63 64 65 67 68 69 70 71 72 74 75 76 77 78 79 81 82 83 84 85 86 88 89 90 91 92 93 95 96 97 98 100 101 102 103 104 105 107 108 109 110 111 112 114 115 116 117 118 119 121 122 123 124 125 126 128 129 130 131 132 133 135 137 138 139 140 141 142 144 145 146 147 148 149 151 152 153 154 156 157 158 159 161 162 163 165 166 167 168 169 170 172 173 174 175 176 177 179 180 181 182 183 184 186 187 188 189 190 191 193 194 195 196 197 198 200 201 202 203 204 205 207 208 209 210 211 212 214 215 216 217 219 220 221 222 223 224 226 227 228 229 231 232 233 234 235 236 238 239 240 241 242 243 244 245 246 247 248 249 250 252 253 254 255 257 258 259 260 261 262 263 264 265 267 268 269 270 271 273 274 275 276 277 278 279 280 282 283 284 285 286 288 289 290 291 292 293 294 295 297 298 299 300 301 303 304 305 306 307 308 309 310 312 313 314 315 316 318 319 320 321 322 323 324 325 327 328 329 330 331 333 334 335 336 337 338 339 340 342 343 344 345 346 348 349 350 352 353 354 355 356 357 358 359 360 361 362 364 365 366 367 368 370 371 372 374 375 376 377 378 379 380 381 382 383 384 386 387 388 389 390 391 393 394 395 396 397 398 400 401 402 403 405 406 407 408 410 411 412 413 415 417 418 419 420 422 423 424 425 427 428 429 430 432 433 434 435 436 437 438 440 441 442 443 445 446 447 449 450 451 452 453 454 456 457 458 459 460 461 463 464 465 466 467 468 470 471 472 473 474 475 477 478 479 480 481 482 484 485 486 487 488 489 491 492 493 494 495 496 498 499 500 501 502 503 505 506 507 508 509 510 511 512 513 514 515 516 517 519 520 521 522 523 525 526 527 529 530 531 532 533 534 536 537 538 539 540 541 542 543 544 545 546 548 549 550 551 552 554 555 556 558 559 560 561 562 563 565 566 567 568 569 570 571 572 573 574 575 577 578 579 580 581 583 584 585 587 588 589 590 591 592 594 595 596 597 598 599 600 601 602 603 604 606 607 608 609 610 611 613 614 615 616 617 618 620 621 622 623 624 625 627 628 629 630 632 633 634 636 637 638 639 641 642 643 644 645 646 648 649 650 651 652 653 655 656 657 658 659 660 662 663 664 665 667 668 669 670 671 672 674 675 676 677 679 680 681 682 683 684 685 686 687 688 689 690 691 693 695 696 697 698 699 700 702 703 704 705 706 707 709 710 711 712 713 714 716 717 718 719 720 721 723 724 725 726 727 728 730 731 732 733 734 735 737 738 739 740 742 743 744 745 747 748 749 750 752 753 754 755 756 757 759 760 761 762 763 764 766 767 768 769 771 772 773 775 776 777 778 779 780 782 783 784 785 786 787 789 790 791 792 793 794 796 797 798 799 800 801 803 804 805 806 807 808 810 811 812 813 815 816 817 818 819 820 822 823 824 825 826 828 829 830 831 833 834 835 836 837 838 840 841 842 843 844 845 847 848 849 850 852 853 854 855 857 858 859 860 862 863 864 865 866 867 869 870 871 872 873 874 876 877 878 879 880 881 882 883 884 885 886 887 889 890 891 892 894 895 896 898 899 900 901 902 903 905 906 907 908 909 910 912 913 914 915 916 917 919 920 921 922 923 924 926 927 928 929 930 931 933 934 935 936 938 939 940 941 942 943 945 946 947 948 949 951 952 953 954 956 957 958 959 960 961 963 964 965 966 967 971 973 975 976 977 978 979 980 982 983 984 985 987 988 989 990 991 992 994 995 996 997 999 1000 1001 1002 1003 1004 1006 1007 1008 1009 1011 1012 1013 1014 1016 1017 1018 1019 1021 1022 1023 1024 1025 1026 1028 1029 1030 1031 1032 1033 1034 1036 1037 1038 1039 1040 1041 1043 1044 1045 1046 1047 1048 1050 1051 1052 1053 1054 1055 1057 1058 1059 1060 1061 1062 1063 1065 1066 1067 1068 1069 1070 1072 1073 1074 1075 1076 1077 1079 1080 1081 1082 1083 1084 1086 1087 1088 1089 1090 1091 1093 1094 1095 1096 1097 1098 1100 1101 1102 1103 1105 1106 1107 1108 1109 1110 1112 1113 1114 1115 1116 1117 1119 1120 1121 1122 1123 1124 1126 1127 1128 1129 1130 1131 1133 1134 1135 1136 1137 1138 1140 1141 1142 1143 1144 1145 1147 1148 1149 1150 1151 1152 1154 1155 1156 1157 1158 1159 1161 1162 1163 1164 1165 1166 1168 1169 1170 1171 1172 1173 1175 1176 1177 1178 1179 1180 1182 1183 1184 1185 1186 1187 1189 1190 1191 1192 1193 1194 1196 1197 1198 1199 1200 1201 1203 1204 1205 1206 1207 1208 1210 1211 1212 1213 1214 1215 1216 1217 1218 1219 1220 1221 1223 1224 1225 1226 1228 1229 1230 1231 1233 1234 1235 1236 1237 1238 1240 1241 1242 1243 1244 1245 1246 1248 1249 1250 1251 1252 1253 1255 1256 1257 1258 1259 1260 1262 1263 1264 1265 1266 1267 1269 1270 1271 1272 1273 1274 1275 1277 1278 1279 1280 1281 1282 1284 1285 1286 1287 1288 1289 1291 1292 1293 1294 1295 1296 1298 1299 1300 1301 1302 1303 1305 1306 1307 1308 1309 1311 1312 1314 1315 1316 1317 1319 1320 1321 1322 1323 1324 1326 1327 1328 1329 1330 1331 1333 1334 1335 1336 1337 1338 1340 1341 1342 1343 1344 1345 1347 1348 1349 1350 1351 1352 1354 1355 1356 1357 1358 1359 1361 1362 1363 1364 1365 1366 1368 1369 1370 1371 1372 1373 1375 1376 1377 1378 1379 1380 1382 1383 1384 1385 1386 1387 1389 1390 1391 1392 1393 1394 1396 1397 1398 1399 1403 1405 1407 1408 1409 1410 1411 1412 1414 1415 1416 1417 1419 1420 1421 1422 1423 1424 1426 1427 1428 1429 1430 1431 1433 1434 1435 1436 1437 1438 1440 1441 1442 1443 1444 1445 1447 1448 1449
#synth env 41
def tw197566754866390160:=Nat
end PySem.W.Fast
end
section
set_option hygiene false in
local macro_rules|`(tactic|first|refine $t|fail $m)=>`(tactic|(refine $t;rotate_right;refine Zq.dep (by assumption) ?_;rotate_left))
open PySem PySem.W PyProof.Rows
set_option maxRecDepth 100000 in
set_option maxHeartbeats 0 in
theorem PySem.Challenge.hd_K78(hAllMk:K78.AM):kH.Holds:=by
 w_on;o_law;k_head;(case hw=>w_witness2)
 refine Zq.un ?_
 k_fill
 refine K78.anC (l:=kH) (c:=960) (P:=956) rfl rfl (λw h Y=>⟨PySem.W.km_in_of Y,PySem.W.km_tabs_of Y⟩) ?H ?F
 case H=>
  intro w;refine⟨?_,?_⟩
  ·first|k_is|kernel_rfl|rfl
  ·first|k_is|kernel_rfl|rfl
 case F=>
  intro w mg fa h KX G hmg;refine'(by assumption:K78.AM) KX G hmg ?h0 ?h1 ?h2 ?h3 ?h4 ?h5 ?h6 ?h7 ?h8 ?h9 ?h10 ?h11 ?h12 ?h13 ?h14 ?h15 ?h16 ?h17 ?h18 ?h19 ?h20 ?h21 ?h22 ?h23 ?h24 ?h25 ?h26 ?h27 ?h28 ?h29 ?h30 ?h31 ?h32 ?h33 ?h34 ?h35 ?h36 ?h37 ?h38 ?h39 ?h40 ?h41 ?h42 ?h43 ?h44 ?h45 ?h46 ?h47 ?h48 ?h49 ?h50 ?h51 ?h52 ?h53 ?h54 ?h55 ?h56 ?h57 ?h58 ?h59 ?h60 ?h61 ?h62 ?h63 ?h64 ?h65 ?h66 ?h67 ?h68 ?h69 ?h70 ?h71 ?h72 ?h73 ?h74 ?h75 ?h76 ?h77 ?h78 ?h79 ?h80 ?h81 ?h82 ?h83 ?h84 ?h85 ?h86 ?h87 ?h88 ?h89 ?h90 ?h91 ?h92 ?h93 ?h94 ?h95 ?h96 ?h97 ?h98 ?h99 ?h100 ?h101 ?h102 ?h103 ?h104 ?h105 ?h106 ?h107 ?h108 ?h109 ?h110 ?h111 ?h112 ?h113 ?h114 ?h115 ?h116 ?h117 ?h118 ?h119 ?h120 ?h121 ?h122 ?h123 ?h124 ?h125 ?h126 ?h127 ?h128 ?h129 ?h130 ?h131 ?h132 ?h133 ?h134 ?h135 ?h136 ?h137 ?h138 ?h139 ?h140 ?h141 ?h142 ?h143 ?h144 ?h145 ?h146 ?h147 ?h148 ?h149 ?h150 ?h151 ?h152 ?h153 ?h154 ?h155 ?h156 ?h157 ?h158 ?h159 ?h160 ?h161 ?h162 ?h163 ?h164 ?h165 ?h166 ?h167 ?h168 ?h169 ?h170 ?h171 ?h172 ?h173 ?h174 ?h175 ?h176 ?h177 ?h178 ?h179 ?h180 ?h181 ?h182 ?h183 ?h184 ?h185 ?h186 ?h187 ?h188 ?h189 ?h190 ?h191 ?h192 ?h193 ?hFC ?hcd
  (case h0|h1|h2|h3|h4|h5|h6|h7|h8|h9|h10|h11|h12|h13|h14|h15|h16|h17|h18|h19|h20|h21|h22|h23|h24|h25|h26|h27|h28|h29|h30|h31|h32|h33|h34|h35|h36|h37|h38|h39|h40|h41|h42=>show _=_;k_is)
  (case h43|h44|h45|h46|h47|h48|h49|h50|h51|h52|h53|h54|h55|h56=>first|k_is|rfl|decide)
  (case h57|h58|h59|h60|h61|h62|h63|h64|h65|h66|h67|h68|h69|h70|h71|h72|h73|h74|h75|h76|h77|h78|h79|h80|h81|h82|h83|h84|h85|h86|h87|h88|h89|h90|h91|h92|h93|h94|h95|h96|h97|h98|h99|h100|h101|h102|h103=>constructor<;>k_is)
  (case h104|h105|h106|h107|h108|h109|h110|h111|h112|h113|h114|h115|h116|h117|h118|h119|h120|h121|h122|h123|h124|h125|h126|h127|h128|h129|h130|h131|h132|h133|h134|h135|h136|h137|h138|h139|h140|h141|h142|h143|h144|h145|h146|h147|h148|h149|h150|h151|h152|h153=>exact L2.Ob (by k_is) (by k_is) (by k_is))
  (case h154=>exact L2.Ls (by k_is) (by k_is) (by k_is))
  (case h155|h156|h157|h158|h159|h160|h161|h162|h163|h164|h165|h166|h167|h168=>exact L2.Ob (by k_is) (by k_is) (by k_is))
  (case h169=>exact L2.Ls (by k_is) (by k_is) (by k_is))
  (case h170=>exact L2.Ob (by k_is) (by k_is) (by k_is))
  (case h171=>exact L2.Ls (by k_is) (by k_is) (by k_is))
  (case h172|h173|h174|h175|h176|h177|h178|h179|h180|h181=>exact L2.Ob (by k_is) (by k_is) (by k_is))
  (case h182=>exact L2.Ls (by k_is) (by k_is) (by k_is))
  (case h183|h184|h185|h186|h187|h188|h189=>exact L2.Ob (by k_is) (by k_is) (by k_is))
  (case h190|h191|h192|h193=>constructor;(constructor<;>k_is);all_goals(show _=_;k_is))
  (case hFC=>exact K78.ah7 (by k_is) (by k_is))
  (case hcd=>first|k_is|kernel_rfl|rfl|decide)
end
section
local macro_rules|`(tactic|omega)=>`(tactic|first|lia|omega +splitNatSub)
local macro_rules|`(tactic|sizeOf_list_dec)=>`(tactic|first|exact Nat.le_of_ble_eq_true rfl|exact L2.aU (by omega)|omega)
local macro_rules|`(tactic|sizeOf_list_dec)=>`(tactic|first|assumption|decide|exact ⟨by decide, by decide⟩|exact ⟨by decide, by decide, by decide⟩)
local macro_rules|`(tactic|sizeOf_list_dec)=>`(tactic|with_reducible first|exact L2.adQ|exact L2.aep|exact L2.afj|exact L2.ah4)
local macro_rules|`(tactic|sizeOf_list_dec)=>`(tactic|with_reducible first|exact L2.ac8|exact L2.afB)
local macro_rules|`(tactic|sizeOf_list_dec)=>`(tactic|with_reducible first|exact L2.Qc|exact L2.U3|exact L2.W6|exact L2.ahZ)
local macro_rules|`(tactic|sizeOf_list_dec)=>`(tactic|with_reducible first|exact L2.Ww|exact L2.Wq|exact L2.Nz|exact L2.W7)
local macro_rules|`(tactic|sizeOf_list_dec)=>`(tactic|with_reducible first|exact L2.acB|exact L2.Vk|exact L2.aai|exact L2.acx)
local macro_rules|`(tactic|sizeOf_list_dec)=>`(tactic|with_reducible first|exact L2.akq|exact L2.adm|exact L2.X3|exact L2.ahe)
local macro_rules|`(tactic|sizeOf_list_dec)=>`(tactic|with_reducible first|exact L2.Oo|exact L2.U8|exact L2.Wh)
local macro_rules|`(tactic|sizeOf_list_dec)=>`(tactic|with_reducible first|exact L2.aaY|exact L2.afM|exact L2.ahJ)
local macro_rules|`(tactic|sizeOf_list_dec)=>`(tactic|with_reducible first|exact L2.acE|exact L2.aa9|exact L2.RT|exact L2.aaT)
local macro_rules|`(tactic|sizeOf_list_dec)=>`(tactic|with_reducible first|exact L2.Vf|exact L2.Np|exact L2.afK|exact L2.abf)
local macro_rules|`(tactic|sizeOf_list_dec)=>`(tactic|with_reducible first|exact L2.afG|exact L2.ada|exact L2.ac5|exact L2.Ss)
local macro_rules|`(tactic|sizeOf_list_dec)=>`(tactic|with_reducible first|exact L2.ajX|exact L2.aaO|exact L2.acW|exact L2.aeD)
local macro_rules|`(tactic|sizeOf_list_dec)=>`(tactic|with_reducible first|exact L2.WQ|exact L2.agO)
local macro_rules|`(tactic|sizeOf_list_dec)=>`(tactic|with_reducible first|exact L2.PJ|exact L2.Gz|exact L2.Tz|exact L2.KR)
local macro_rules|`(tactic|sizeOf_list_dec)=>`(tactic|with_reducible first|exact L2.adq|exact L2.aap|exact L2.adx|exact L2.aaf)
local macro_rules|`(tactic|sizeOf_list_dec)=>`(tactic|with_reducible first|exact L2.Sg|exact L2.TV|exact L2.Qi|exact L2.Nb)
local macro_rules|`(tactic|sizeOf_list_dec)=>`(tactic|with_reducible first|exact L2.ahG|exact L2.aaa|exact L2.acT|exact L2.Qa)
local macro_rules|`(tactic|sizeOf_list_dec)=>`(tactic|with_reducible first|exact L2.abe|exact L2.Vo|exact L2.WT|exact L2.aev)
local macro_rules|`(tactic|sizeOf_list_dec)=>`(tactic|with_reducible first|exact L2.ajz|exact L2.aeu|exact L2.X5|exact L2.aeh)
local macro_rules|`(tactic|decreasing_trivial_pre_omega)=>`(tactic|first|assumption|(apply L2.bI.of;assumption)|(apply L2.cN.of;assumption)|(refine Or.inl ?_;assumption)|(refine Or.inl ?_;apply L2.bI.of;assumption)|(refine Or.inr ?_;apply L2.cN.of;assumption))
local macro_rules|`(tactic|bv_omega)=>`(tactic|first|assumption|exact L2.cO (j := 0) rfl|exact L2.cO (j := 1) rfl|exact L2.cO (j := 2) rfl|exact L2.cO (j := 3) rfl|exact L2.cO (j := 4) rfl|exact L2.cO (j := 5) rfl)
local macro_rules|`(tactic|array_get_dec)=>`(tactic|array_mem_dec)
local macro_rules|`(tactic|array_get_dec)=>`(tactic|with_reducible first|refine L2.amd ?_|refine L2.al6 ?_|refine L2.alk ?_)
local macro_rules|`(tactic|array_get_dec)=>`(tactic|with_reducible first|refine L2.ajy ?_|refine L2.ahT ?_|refine L2.aj2 ?_|refine L2.akh ?_)
local macro_rules|`(tactic|array_get_dec)=>`(tactic|with_reducible first|refine L2.ajF ?_|refine L2.aml ?_|refine L2.anE ?_|refine L2.amA ?_)
local macro_rules|`(tactic|array_get_dec)=>`(tactic|with_reducible first|refine L2.amt ?_|refine L2.aju ?_|refine L2.alS ?_|refine L2.ahv ?_)
local macro_rules|`(tactic|array_get_dec)=>`(tactic|with_reducible first|refine L2.aeC ?_|refine L2.ajm ?_|refine L2.agE ?_|refine L2.akE ?_)
local macro_rules|`(tactic|array_get_dec)=>`(tactic|with_reducible first|refine L2.amf ?_|refine L2.alB ?_|refine L2.aj1 ?_|refine L2.anf ?_)
local macro_rules|`(tactic|array_get_dec)=>`(tactic|with_reducible first|refine L2.x_U ?_|refine L2.alf ?_|refine L2.amk ?_|refine L2.alD ?_)
local macro_rules|`(tactic|array_get_dec)=>`(tactic|with_reducible first|refine L2.al4 ?_|refine L2.ajW ?_|refine L2.aiU ?_|refine L2.am9 ?_)
local macro_rules|`(tactic|array_get_dec)=>`(tactic|with_reducible first|refine L2.ak8 ?_|refine L2.akT ?_|refine L2.ale ?_|refine L2.ajN ?_)
local macro_rules|`(tactic|array_get_dec)=>`(tactic|with_reducible first|refine L2.ajY ?_|refine L2.ahV ?_|refine L2.amM ?_|refine L2.anA ?_)
local macro_rules|`(tactic|array_get_dec)=>`(tactic|with_reducible first|refine L2.anF ?_|refine L2.ajH ?_|refine L2.alJ ?_|refine L2.x_b ?_)
local macro_rules|`(tactic|array_get_dec)=>`(tactic|with_reducible first|refine L2.akX ?_|refine L2.amK ?_|refine L2.ajP ?_|refine L2.am3 ?_)
local macro_rules|`(tactic|array_get_dec)=>`(tactic|with_reducible first|refine L2.x_c ?_|refine L2.amN ?_|refine L2.alz ?_|refine L2.ajA ?_)
local macro_rules|`(tactic|array_get_dec)=>`(tactic|with_reducible first|refine L2.akp ?_|refine L2.aiT ?_|refine L2.amC ?_|refine L2.alp ?_)
local macro_rules|`(tactic|array_get_dec)=>`(tactic|with_reducible first|refine L2.aks ?_|refine L2.ajV ?_|refine L2.ai2 ?_|refine L2.akU ?_)
local macro_rules|`(tactic|array_mem_dec)=>`(tactic|((with_reducible apply L2.aiV);decreasing_trivial_pre_omega;rfl))
local macro_rules|`(tactic|array_mem_dec)=>`(tactic|((with_reducible apply L2.af1);exact rfl))
local macro_rules|`(tactic|array_mem_dec)=>`(tactic|((with_reducible apply L2.x_I);sizeOf_list_dec))
local macro_rules|`(tactic|array_mem_dec)=>`(tactic|((with_reducible apply L2.amB);decreasing_trivial_pre_omega;bv_omega))
local macro_rules|`(tactic|array_mem_dec)=>`(tactic|((with_reducible apply L2.jC);decreasing_trivial_pre_omega;bv_omega))
local macro_rules|`(tactic|array_mem_dec)=>`(tactic|((with_reducible apply L2.alX);decreasing_trivial_pre_omega))
local macro_rules|`(tactic|array_mem_dec)=>`(tactic|((with_reducible apply L2.ajh);decreasing_trivial_pre_omega))
local macro_rules|`(tactic|array_mem_dec)=>`(tactic|((with_reducible apply L2.ajv);decreasing_trivial_pre_omega))
local macro_rules|`(tactic|array_mem_dec)=>`(tactic|((with_reducible apply L2.alw);decreasing_trivial_pre_omega))
local macro_rules|`(tactic|array_mem_dec)=>`(tactic|((with_reducible apply L2.ama);sizeOf_list_dec))
local macro_rules|`(tactic|array_mem_dec)=>`(tactic|((with_reducible apply L2.al9);sizeOf_list_dec))
local macro_rules|`(tactic|array_mem_dec)=>`(tactic|((with_reducible apply L2.af9);assumption;sizeOf_list_dec))
local macro_rules|`(tactic|array_mem_dec)=>`(tactic|((with_reducible apply L2.aek);decreasing_trivial_pre_omega))
local macro_rules|`(tactic|array_mem_dec)=>`(tactic|((with_reducible apply L2.ahK);decreasing_trivial_pre_omega))
local macro_rules|`(tactic|array_mem_dec)=>`(tactic|with_reducible refine L2.aeg ?_)
local macro_rules|`(tactic|array_mem_dec)=>`(tactic|((with_reducible apply L2.ahD);decreasing_trivial_pre_omega))
local macro_rules|`(tactic|array_mem_dec)=>`(tactic|with_reducible refine L2.anh ?_)
local macro_rules|`(tactic|array_mem_dec)=>`(tactic|with_reducible first|refine L2.alH ?_|refine L2.ai5 ?_|refine L2.aib ?_|refine L2.aj0 ?_)
local macro_rules|`(tactic|array_mem_dec)=>`(tactic|with_reducible first|refine L2.anu ?_|refine L2.alu ?_|refine L2.aiX ?_|refine L2.akB ?_)
local macro_rules|`(tactic|array_mem_dec)=>`(tactic|((with_reducible apply L2.qY);assumption;sizeOf_list_dec))
local macro_rules|`(tactic|array_mem_dec)=>`(tactic|((with_reducible apply L2.ajO);assumption;sizeOf_list_dec;sizeOf_list_dec;sizeOf_list_dec))
local macro_rules|`(tactic|array_mem_dec)=>`(tactic|((with_reducible apply L2.amn);assumption;sizeOf_list_dec;sizeOf_list_dec;sizeOf_list_dec))
local macro_rules|`(tactic|array_mem_dec)=>`(tactic|((with_reducible apply L2.alZ);decreasing_trivial_pre_omega;assumption))
local macro_rules|`(tactic|array_mem_dec)=>`(tactic|((with_reducible apply L2.ajE);decreasing_trivial_pre_omega))
local macro_rules|`(tactic|array_mem_dec)=>`(tactic|((with_reducible apply L2.ah1);assumption;assumption;sizeOf_list_dec))
local macro_rules|`(tactic|array_mem_dec)=>`(tactic|with_reducible refine L2.aid ?_)
local macro_rules|`(tactic|array_mem_dec)=>`(tactic|((with_reducible apply L2.amF);assumption))
local macro_rules|`(tactic|array_mem_dec)=>`(tactic|with_reducible refine L2.afO ?_)
local macro_rules|`(tactic|array_mem_dec)=>`(tactic|((with_reducible apply L2.alY);decreasing_trivial_pre_omega;decreasing_trivial_pre_omega))
local macro_rules|`(tactic|array_mem_dec)=>`(tactic|with_reducible refine L2.akF ?_)
local macro_rules|`(tactic|array_mem_dec)=>`(tactic|with_reducible refine L2.aka ?_)
local macro_rules|`(tactic|array_mem_dec)=>`(tactic|with_reducible refine L2.agH ?_)
local macro_rules|`(tactic|array_mem_dec)=>`(tactic|with_reducible refine L2.aic ?_)
local macro_rules|`(tactic|array_mem_dec)=>`(tactic|with_reducible refine L2.ah3 ?_)
local macro_rules|`(tactic|array_mem_dec)=>`(tactic|((with_reducible apply L2.amq);assumption;sizeOf_list_dec))
local macro_rules|`(tactic|array_mem_dec)=>`(tactic|with_reducible refine L2.ady ?_)
local macro_rules|`(tactic|cbv)=>`(tactic|repeat' (first|array_get_dec|fail))
namespace K78
open PySem L2
set_option hygiene false in
local macro_rules|`(∅)=>`(aG P w K mg base bH)
variable{K:Ye}{f a qg Pt pg ch rd l:Yc}{fd nZ:Yt}{H H' H0 A:Hp}{n v h m dd ha me' db':Int}{ks ns ms hs:List Int}{pm:Yd}{i j z:Nat}{G G':Yc->Prop}{u:HO}{ls':List (Yc×HO)}{Q:VK}{ps:List Yc}{R Z L:List Nat}{σ:St}{nm:Nat->Int}{us:List Yd}
section
variable{P:YJ}{w:YV}{mg:Yj->Option Yd}{base:YR}
def qC(K:Ye):Sp:=λvs H Q _=>∃h:Int,vs=[.int h]/\0<=h/\h<=1000/\Q (.int (2^h.toNat)) H
def Tt(K:Ye):Sp:=λvs H Q _=>∃n h:Int,vs=[.int n,.int h]/\0<=n/\0<=h/\h<=1000/\Q (.bl (n.toNat.testBit h.toNat)) H
def Kq(K:Ye):Sp:=λvs H Q _=>∃n:Int,vs=[.int n]/\0<=n/\n<9223372036854775808/\∀H' l,H l=Yb->aO H H'->H' l=Ya (.lst ((GB.hl n).map V.int))->Q (.ref l) H'
abbrev Th:List Yj:=["hand"]
theorem acM:aD ["hand"] Th (aA Oc):=gF
variable(eV:Tg P w mg base)
include eV in
theorem adD(F:bW K "bit_of" "bit_of" Oc f fd):∅ 1 f fd Th (qC K):=by
 refine F.oj acM ?_;rintro _ _ _ _ H _ Q _ _ _ _ _ ⟨x,rfl,h⟩;refine⟨_,(aq (aR (oJ (aX amL (pv 0) aC (bc _)) (bL Av aC (pv 0)) aC))),?_⟩;obtain⟨h0,h1,k⟩:=h;refine⟨_,rfl,_,_,rfl,rfl,_,rfl,?_⟩;rw[decide_eq_true (show(0:Int)<=x from h0)];refine akh ⟨_,rfl,_,_,rfl,rfl,⟨h0,by omega,by decide⟩,?_⟩;show Q (.int (1*2^x.toNat)) H;rw[AH];exact k
abbrev aaC:List Yj:=["hands","hand"]
theorem ai0:aD ["hands","hand"] aaC (aA afZ):=gF
variable{wJ:Yc}{qH:Yt}(wD:∅ 1 wJ qH Th (qC K))(fW:gW K mg "bit_of" wJ qH Th)
include eV wD fW in
theorem ajw(F:bW K "has" "has" afZ f fd):∅ 2 f fd aaC (Tt K):=by
 refine F.oj ai0 ?_;rintro _ _ _ _ H _ Q _ hr _ _ _ ⟨n,x,rfl,h⟩;refine⟨_,(aq (aR (jo ad9 (bL Ay (pv 0) (bh wD fW hr (aj (pv 1) ao))) aC (bc _)))),?_⟩;obtain⟨hn,h0,h1,k⟩:=h;refine⟨_,rfl,_,rfl,x,rfl,h0,h1,_,_,rfl,rfl,rfl,?_⟩;show Q (.bl (!decide (V.int (Yz n (2^x.toNat))=V.int 0))) H;rw[afs hn h0];exact k
abbrev Fl:List Yj:=["hands"]
theorem VL:aD ["hands"] Fl (aA Ff):=gF
variable{aci:Yc}{SX:Yt}(aiu:∅ 2 aci SX aaC (Tt K))(z9:gW K mg "has" aci SX aaC)(Ci:mg "range"=Yb)
include eV aiu z9 Ci in
theorem U0(F:bW K "hands_of" "hands_of" Ff f fd):∅ 3 f fd Fl (Kq K):=by
 refine F.oj VL ?_;rintro _ _ _ _ H _ _ _ hr _ _ _ ⟨n,rfl,h⟩;refine⟨_,(aq (aR (cu ["hands","hand"] [Ya 0,Yb] rfl rfl (by kernel_rfl) (Jx rfl Ci (aj (RQ PySem.F.plainAttrs_int PySem.F.slot_int_bit_length PySem.F.type_int_bit_length ac7 (pv 0)) ao)) (λ_ _ _ _ _ nd=>aW (i:=1) nd rfl (Or.inl rfl)) (λ_ _ _ _ _=>(jL (cT K rfl (bh aiu z9 hr (aj (pv 0) (aj (pv 1) ao)))))) (λ_ _ _ _ _=>(pv 1))))),?_⟩;obtain⟨h0,h1,k⟩:=h;obtain⟨b1,b2⟩:=adI h0 h1;refine⟨_,rfl,rfl,n,rfl,rfl,_,rfl,by omega,by omega,λD hD=>?_⟩;refine Fo (λi σ H'=>∃v,σ=[Ya (.int n),v]/\H'=upd H D (.lst ((LR n i).map V.int))) ⟨Yb,rfl,rfl⟩ ?_ ?_
 ·rintro i σ H' hi ⟨v,rfl,rfl⟩;have hi':i<ed n:=by simpa using hi
  refine⟨_,rfl,_,rfl,n,_,rfl,h0,(by omega),(by omega),_,rfl,?_⟩;have ei:(0+ (i:Int)).toNat=i:=by omega
  rw[ei];cases e:n.toNat.testBit i with
  |true=>
   refine akh ⟨_,rfl,_,aB,?_,_,rfl,?_⟩
   ·rw[Yi];have:=aes n i;exact aU (by omega)
   ·rw[agU,aey e,YK,Dx];rfl
  |false=>
   refine amd ⟨_,rfl,?_⟩;rw[agQ e]
 ·rintro σ H' ⟨v,rfl,rfl⟩;have e:((ed n:Nat):Int).toNat=ed n:=YA _;rw[e,b2];exact k _ D hD (aF hD) aB
mutual
inductive Pl (H:Hp):Nat->V->cx->Prop
 |non {n:Nat}:Pl H n .non .none
 |int {n:Nat} (i:Int):Pl H n (.int i) (.int i)
 |bl {n:Nat} (b:Bool):Pl H n (.bl b) (.bool b)
 |str {n:Nat} (x:Yj):(FX x).canLay0=true->Pl H n (.str x) (.str x)
 |tup {n:Nat} {a:Yc} {xs:List V} {ds:List cx}:H a=Ya (.tup xs)->xs.length<=10->Ko H n xs ds->Pl H (n+ 1) (.ref a) (.tuple ds)
inductive Ko (H:Hp):Nat->List V->List cx->Prop
 |nil {n:Nat}:Ko H n [] []
 |cons {n:Nat} {x:V} {xs:List V} {d:cx} {ds:List cx}:Pl H n x d->Ko H n xs ds->Ko H n (x::xs) (d::ds)
end
mutual
theorem Pl.up{H H':Hp}(s:j4 H H'):∀{n:Nat} {x:V} {d:cx},Pl H n x d->Pl H' n x d
 |_,_,_,.non=>.non
 |_,_,_,.int i=>.int i
 |_,_,_,.bl i=>.bl i
 |_,_,_,.str i l=>.str i l
 |_,_,_,.tup e l h=>.tup (s _ _ e) l (Ko.up s h)
theorem Ko.up{H H':Hp}(s:j4 H H'):∀{n:Nat} {xs:List V} {ds:List cx},Ko H n xs ds->Ko H' n xs ds
 |_,_,_,.nil=>.nil
 |_,_,_,.cons h t=>.cons (Pl.up s h) (Ko.up s t)
end
mutual
theorem Pl.mono{H:Hp}:∀{n:Nat} {x:V} {d:cx},Pl H n x d->Pl H (n+ 1) x d
 |_,_,_,.non=>.non
 |_,_,_,.int i=>.int i
 |_,_,_,.bl i=>.bl i
 |_,_,_,.str i l=>.str i l
 |_,_,_,.tup e l h=>.tup e l (Ko.mono h)
theorem Ko.mono{H:Hp}:∀{n:Nat} {xs:List V} {ds:List cx},Ko H n xs ds->Ko H (n+ 1) xs ds
 |_,_,_,.nil=>.nil
 |_,_,_,.cons h t=>.cons (Pl.mono h) (Ko.mono t)
end
theorem ae8{H:Hp}{n:Nat}:∀{xs:List V} {ds:List cx} {i:Nat} {x:V},Ko H n xs ds->xs[i]?=Ya x->∃d,ds[i]?=Ya d/\Pl H n x d
 |_,_,_,_,.nil,e=>by simp at e
 |_,_,0,_,.cons h _,e=>by simp at e;subst e;exact⟨_,rfl,h⟩
 |_,_,i+ 1,x,.cons _ t,e=>by
  obtain⟨b,h1,h2⟩:=ae8 (i:=i) t (by simpa using e);exact⟨b,by simpa using h1,h2⟩
theorem Wv{H:Hp}{n:Nat}:∀{xs:List V} {ds:List cx} {x:V} {d:cx},Ko H n xs ds->Pl H n x d->Ko H n (xs++[x]) (ds++[d])
 |_,_,_,_,.nil,h=>.cons h .nil
 |_,_,_,_,.cons r t,h=>.cons r (Wv t h)
theorem acd{H:Hp}{n:Nat}:∀{xs:List V} {ds:List cx},Ko H n xs ds->xs.length=ds.length
 |_,_,.nil=>rfl
 |_,_,.cons _ t=>congrArg (·+ 1) (acd t)
mutual
theorem Pl.dp{K:Ye}{H:Hp}:∀{n:Nat} {x:V} {d:cx},Pl H n x d->Dp K H x d
 |_,_,_,.non=>.none
 |_,_,_,.int i=>.int i
 |_,_,_,.bl i=>.bool i
 |_,_,_,.str i _=>.str i
 |_,_,_,.tup e _ h=>.tup (cN.of e) (Ko.dp h)
theorem Ko.dp{K:Ye}{H:Hp}:∀{n:Nat} {xs:List V} {ds:List cx},Ko H n xs ds->Dps K H xs ds
 |_,_,_,.nil=>.nil
 |_,_,_,.cons h t=>.cons (Pl.dp h) (Ko.dp t)
end
theorem aaK{ds:List cx}(h:nh ds=true):(DB ds).canLay0=true:=by
 first|(rw[uj];exact h)|(rw[JO];exact h)|(rw[JU];exact h)
def xM(K:Ye):Nat->Sp
 |0=>λ_ _ _ _=>False
 |n+ 1=>λvs H Q _=>∃x,vs=[x]/\∃d,Pl H n x d/\∀H' x',aO H H'->Pl H' n x' d->Q x' H'
abbrev pH:List Yj:=["value"]
theorem Wt:aD ["value"] pH (aA wU):=gF
theorem lq(F:bW K "own_copy" "own_copy" wU f fd)(n k:Nat)(iU:∅ k f fd pH (xM K n))(dM:gW K mg "own_copy" f fd pH)(iJ:mg "dict"=Yb)(cP:mg "isinstance"=Yb)(fK:mg "list"=Yb)(dw:mg "tuple"=Yb):∅ (k+ 1) f fd pH (xM K (n+ 1)):=by
 refine F.oj Wt ?_;rintro _ A _ _ H _ _ E hr _ _ _ ⟨x,rfl,h⟩;refine⟨_,(ak (cF (cT K rfl (cj (vm (K:=K) rfl) (by rfl) cP gc (aj (pv 0) (aj (Ie fK d6) ao)))) (aq cz) bG)
   (ak (cF (cT K rfl (cj (vm (K:=K) rfl) (by rfl) cP gc (aj (pv 0) (aj (Ie dw bE) ao)))) (aq (aR (bZ (fj (K:=K) rfl) (by rfl) dw bE (aj (cu ["part"] [Yb] rfl rfl (by kernel_rfl) (Cm (K:=K) rfl (pv 0)) (λ_ _ _ _ _ nd=>aW (i:=0) nd rfl (Or.inl rfl)) (λ_ _ _ _ _=>dB) (λ_ _ _ _ _=>(bh iU dM hr (aj (pv 0) ao)))) ao)))) bG)
   (ak (cF (cT K rfl (cj (vm (K:=K) rfl) (by rfl) cP gc (aj (pv 0) (aj (Ie iJ gN) ao)))) (aq cz) bG)
   (aq (aR (pv 0)))))),?_⟩
 refine xl4 ?_;intro _ _;obtain⟨d,hp,kk⟩:=h;cases hp with
 |non=>
  cbv;refine⟨_,_,_,false,rfl,.non,(by kernel_rfl),?_⟩;cbv;refine⟨_,_,_,false,rfl,.non,(by kernel_rfl),?_⟩;cbv;refine⟨_,_,_,false,rfl,.non,(by kernel_rfl),?_⟩;cbv;exact kk H _ (.refl _) .non
 |int i=>
  cbv;refine⟨_,_,_,false,rfl,.int _,(by kernel_rfl),?_⟩;cbv;refine⟨_,_,_,false,rfl,.int _,(by kernel_rfl),?_⟩;cbv;refine⟨_,_,_,false,rfl,.int _,(by kernel_rfl),?_⟩;cbv;exact kk H _ (.refl _) (.int i)
 |bl i=>
  cbv;refine⟨_,_,_,false,rfl,.bl _,(by kernel_rfl),?_⟩;cbv;refine⟨_,_,_,false,rfl,.bl _,(by kernel_rfl),?_⟩;cbv;refine⟨_,_,_,false,rfl,.bl _,(by kernel_rfl),?_⟩;cbv;exact kk H _ (.refl _) (.bl i)
 |str i li=>
  cbv;refine⟨_,_,_,false,rfl,.str _,(by kernel_rfl),?_⟩;cbv;refine⟨_,_,_,false,rfl,.str _,(by kernel_rfl),?_⟩;cbv;refine⟨_,_,_,false,rfl,.str _,(by kernel_rfl),?_⟩;cbv;exact kk H _ (.refl _) (.str i li)
 |@tup m a xs ds e hl hs=>
  cbv;refine⟨_,_,_,false,rfl,.tup e,(by kernel_rfl),?_⟩;cbv;refine⟨_,_,_,true,rfl,.tup e,(by kernel_rfl),?_⟩;have st:=cN.of (K:=K) e;cbv;intro E hE;refine Ij (K:=K) (a:=a) (xs:=xs) (λi σ A=>E2 λv zs=>A5 (σ=[v]) (aO H A) (A E=Ya (.lst zs)) (zs.length=i) (Ko A m zs (ds.take i))) ⟨Yb,[],rfl,aF hE,aB,rfl,.nil⟩ ?_ ?_ ?_
  ·rintro i σ A _ ⟨_,_,_,z,_⟩;exact cN.of (z _ _ e)
  ·rintro i x σ A hx ⟨v,zs,rfl,sA,hEx,lz,pz⟩;obtain⟨d',hd',hpl⟩:=ae8 hs hx;have hi:=(Yp.mp hx).1;cbv;refine⟨x,rfl,d',hpl.up (.same sA),λA1 x' s1 p1=>?_⟩;have hE1:=s1 _ _ hEx;have kp:j4 A1 (upd A1 E (.lst (zs++[x']))):=j4.lst hE1;refine⟨zs,hE1,aU (by omega),_,zs++[x'],rfl,λb o z=>?_,aB,by rw[YG,lz];rfl,?_⟩
   ·rw[aK (aP z hE)];exact s1 _ _ (sA b o z)
   ·rw[eN hd'];exact Wv (pz.up λa xs z=>kp _ _ (s1 _ _ z)) (p1.up kp)
  rintro σ A ⟨v,zs,rfl,sA,hEx,lz,pz⟩;rw[acd hs,Y5]at pz;cbv;intro t A1 ht s1 g1;exact kk A1 _ (sA.trans s1) (.tup g1 (by omega) (pz.up (.same s1)))
def zj(K:Ye):Sp:=xM K 5
variable(iJ:mg "dict"=Yb)(cP:mg "isinstance"=Yb)(fK:mg "list"=Yb)(dw:mg "tuple"=Yb)
include eV iJ cP fK dw in
theorem U7(F:bW K "own_copy" "own_copy" wU f fd)(C:gW K mg "own_copy" f fd pH):∅ 5 f fd pH (zj K):=
 lq F 4 4 (lq F 3 3 (lq F 2 2 (lq F 1 1 (lq F 0 0 ⟨λ_ _ _ _ h=>h.elim,λ_ _ _ _ _ _ _ _ _ _ _ _ _ h=>h.elim⟩ C iJ cP fK dw) C iJ cP fK dw) C iJ cP fK dw) C iJ cP fK dw) C iJ cP fK dw
def Vh(H:Hp)(v:V):Option (Int×Int)->Prop
 |none=>v=.non
 |some q=>∃t,v=.ref t/\H t=Ya (.tup [.int q.1,.int q.2])
theorem Vh.up(s:j4 H H'){v:V}{b:Option (Int×Int)}(h:Vh H v b):Vh H' v b:=by
 cases b with
 |none=>exact h
 |some q=>obtain⟨t,e,g⟩:=h;exact⟨t,e,s _ _ g⟩
abbrev Pn:=Int×Int×Int
variable{pl:Pn}
noncomputable def plD(p:Pn):cx:=.tuple [.int p.1,.int p.2.1,.int p.2.2,.tuple []]
def T5(H:Hp)(v:V):Option ((Int×Int)×Pn)->Prop
 |none=>v=.non
 |some q=>∃t u pv,v=.ref t/\H t=Ya (.tup [.ref u,pv])/\H u=Ya (.tup [.int q.1.1,.int q.1.2])/\Pl H 2 pv (plD q.2)
theorem T5.up(s:j4 H H'){v:V}{y:Option ((Int×Int)×Pn)}(h:T5 H v y):T5 H' v y:=by
 cases y with
 |none=>exact h
 |some q=>obtain⟨t,u,pv,e,g1,g2,g3⟩:=h;exact⟨t,u,pv,e,s _ _ g1,s _ _ g2,g3.up s⟩
noncomputable def O7:Option (Int×Int)->cx
 |none=>.none
 |some q=>.tuple [.int q.1,.int q.2]
noncomputable def yeD:Option ((Int×Int)×Pn)->cx
 |none=>.none
 |some q=>.tuple [O7 (Ya q.1),plD q.2]
theorem ad2{v:V}{b:Option (Int×Int)}{n:Nat}(h:Vh H v b):Pl H (n+ 1) v (O7 b):=by
 cases b with
 |none=>obtain rfl:v=.non:=h;exact .non
 |some q=>obtain⟨t,rfl,g⟩:=h;exact .tup g (by show 2<=10;decide) (.cons (.int _) (.cons (.int _) .nil))
theorem aiL{v:V}{n:Nat}{b:Option (Int×Int)}(h:Pl H n v (O7 b)):Vh H v b:=by
 cases b with
 |none=>
  have h:Pl H n v .none:=h;cases h;rfl
 |some q=>
  have h:Pl H n v (.tuple [.int q.1,.int q.2]):=h;cases h with
  |tup e l hs=>
   cases hs with
   |cons h1 t1=>
    cases t1 with
    |cons h2 t2=>
     cases t2;cases h1;cases h2;exact⟨_,rfl,e⟩
theorem alr{v:V}{y:Option ((Int×Int)×Pn)}(h:T5 H v y):Pl H 3 v (yeD y):=by
 cases y with
 |none=>obtain rfl:v=.non:=h;exact .non
 |some q=>obtain⟨t,u,pv,rfl,g1,g2,g3⟩:=h;exact .tup g1 (by show 2<=10;decide) (.cons (ad2 (b:=Ya q.1) ⟨u,rfl,g2⟩) (.cons g3 .nil))
theorem amb{v:V}{y:Option ((Int×Int)×Pn)}(h:Pl H 3 v (yeD y)):T5 H v y:=by
 cases y with
 |none=>
  have h:Pl H 3 v .none:=h;cases h;rfl
 |some q=>
  have h:Pl H 3 v (.tuple [O7 (Ya q.1),plD q.2]):=h;cases h with
  |tup e l hs=>
   cases hs with
   |cons h1 t1=>
    cases t1 with
    |cons h2 t2=>
     cases t2;obtain⟨u,rfl,g⟩:=aiL h1;exact⟨_,u,_,rfl,e,g,h2⟩
noncomputable def yb(y:Option ((Int×Int)×Pn)):Option (Int×Int):=y.map (·.1)
noncomputable def bgt:Option (Int×Int)->Option (Int×Int)->Bool
 |none,_=>false
 |some _,Yb=>true
 |some q,Ya r=>HT.eE [r.1,r.2] [q.1,q.2]
theorem dH(t:Yc):decide (V.ref t=V.non)=false:=decide_eq_false (by intro z;cases z)
def DW(K:Ye):Sp:=λvs H Q _=>E2 λx y=>vs=[x,y]/\(E2 λb c=>A3 (Vh H x b) (Vh H y c) (Q (.bl (bgt b c)) H))
abbrev Px:List Yj:=["one","other"]
theorem PP:aD ["one","other"] Px (aA xu):=gF
include eV in
theorem Pj(F:bW K "is_greater" "is_greater" xu f fd):∅ 1 f fd Px (DW K):=by
 refine F.oj PP ?_;rintro _ _ _ _ _ _ _ _ _ _ hu0 _ ⟨x,y,rfl,h⟩;refine⟨_,(aq (aR (xF (jo nQ (pv 0) bV (bc _)) (xN (ald (jo j8 (pv 1) bV (bc _)) (xN (jo (aj8 (K:=K) rfl hu0) (pv 0) (pv 1) (bc _)))))))),?_⟩;obtain⟨b,c,hb,hc,kk⟩:=h;cases b with
 |none=>
  obtain rfl:x=.non:=hb;cbv;exact kk
 |some q=>
  obtain⟨t,rfl,ht⟩:=hb;cases c with
  |none=>
   obtain rfl:y=.non:=hc;cbv;rw[dH];cbv;exact kk
  |some r=>
   obtain⟨u,rfl,hv⟩:=hc;cbv;rw[dH];cbv;rw[dH];cbv;exact⟨t,u,[q.1,q.2],[r.1,r.2],rfl,rfl,cN.of ht,cN.of hv,kk⟩
def Gk(K:Ye):Sp:=λvs H Q _=>∃x,vs=[x]/\∃y,T5 H x y/\∀z,Vh H z (yb y)->Q z H
theorem Sq:aD ["yes"] ["yes"] (aA Af):=gF
include eV in
theorem Ue(F:bW K "ballot_of" "ballot_of" Af f fd):∅ 1 f fd ["yes"] (Gk K):=by
 refine F.oj Sq ?_;rintro _ _ _ _ _ _ _ _ _ _ _ _ ⟨x,rfl,h⟩;refine⟨_,(aq (aR (oJ (aX j8 (pv 0) bV (bc _)) bV (bf (aN (K:=K) rfl) (pv 0) aC (λ_ _=>rfl))))),?_⟩;obtain⟨y,hy,kk⟩:=h;cases y with
 |none=>
  obtain rfl:x=.non:=hy;cbv;exact kk _ rfl
 |some q=>
  obtain⟨t,u,pv,rfl,g1,g2,g3⟩:=hy;have st:=cN.of (K:=K) g1;have a0:lH [V.ref u,pv] 0=Ya (.ref u):=by kernel_rfl
  cbv;rw[dH];cbv;exact kk _ ⟨u,rfl,g2⟩
noncomputable def V3:List (Option ((Int×Int)×Pn))->Option ((Int×Int)×Pn)->Option ((Int×Int)×Pn)
 |[],g=>g
 |y::ys,g=>V3 ys (if bgt (yb y) (yb g)=true then y else g)
theorem QC:∀(ys:List (Option ((Int×Int)×Pn))) (y g:Option ((Int×Int)×Pn)),V3 (ys++[y]) g=if bgt (yb y) (yb (V3 ys g))=true then y else V3 ys g
 |[],_,_=>rfl
 |_::ys,y,g=>QC ys y _
def yD(K:Ye):Sp:=λvs H Q _=>∃(a:Yc),vs=[.ref a]/\(E2 λxs ys=>A3 (bI K H a xs) (d3 (λx y=>T5 H x y) xs ys) (∀z,T5 H z (V3 ys Yb)->Q z H))
abbrev uB:List Yj:=["some"]
theorem jN:aD ["some","greatest","yes"] uB (aA rB):=gF
variable{Hi:Yc}{Ks:Yc}{Dk:Yt}{Iv:Yt}(jr:∅ 1 Hi Dk Px (DW K))(jh:gW K mg "is_greater" Hi Dk Px)(gY:∅ 1 Ks Iv ["yes"] (Gk K))(gZ:gW K mg "ballot_of" Ks Iv ["yes"])
include eV jr jh gY gZ in
theorem K1(F:bW K "greatest_yes" "greatest_yes" rB f fd):∅ 2 f fd uB (yD K):=by
 refine F.oj jN ?_;rintro _ A _ _ H _ _ _ hr _ _ _ ⟨a,rfl,h⟩;refine⟨_,(ak (aV (i:=1) jN.nd rfl (Or.inl rfl) bV)
   (ak (jc Y8 rfl (bC (K:=K) rfl (pv 0)) (aW (i:=2) jN.nd rfl (Or.inl rfl))
   (aq (cF (cT K rfl (bh jr jh hr (aj (bh gY gZ hr (aj (pv 2) ao)) (aj (bh gY gZ hr (aj (pv 1) ao)) ao)))) (aq (aV (i:=1) jN.nd rfl (Or.inl rfl) (pv 2))) bG)))
   (aq (aR (pv 1))))),?_⟩
 refine XM ?_;intro _;obtain⟨xs,ys,ha,hx,kk⟩:=h;have ln:=bS hx;cbv;refine gf (xs:=xs) (λi σ A=>H=A/\(E2 λz v=>σ=[Ya (.ref a),Ya z,v]/\T5 H z (V3 (ys.take i) Yb))) ⟨rfl,.non,Yb,rfl,rfl⟩ (λi σ A _ z=>by rw[←z.1];exact ha) ?_ ?_
 ·rintro i x σ _ hi ⟨rfl,z,v,rfl,hy⟩;obtain⟨y',hk',hy'⟩:=gR hx hi;rw[eN hk',QC];cbv;refine⟨x,rfl,y',hy',λb1 e1=>?_⟩;cbv;refine⟨z,rfl,_,hy,λb2 e2=>?_⟩;cbv;refine⟨b1,b2,rfl,_,_,e1,e2,?_⟩;cbv;refine d9 (λh1=>?_) λh1=>?_
  ·cbv;exact⟨rfl,x,_,rfl,by rw[if_pos h1];exact hy'⟩
  ·exact⟨rfl,z,_,rfl,by rw[if_neg h1];exact hy⟩
 rintro σ _ ⟨rfl,z,v,rfl,hy⟩;rw[ln,Y5]at hy;cbv;exact kk z hy
def abC(K:Ye):Sp:=λvs H Q _=>∃(n:Int),vs=[.int n]/\(A3 (0<=n) (n<9223372036854775808) (∀H',aO H H'->Q (.int ((GB.hl n).length:Nat)) H'))
theorem ahx:aD ["hands"] Fl (aA aaA):=gF
variable{Ox:Yc}{KD:Yt}(lY:∅ 3 Ox KD Fl (Kq K))(mV:gW K mg "hands_of" Ox KD Fl)(iD:mg "len"=Yb)
include eV lY mV iD in
theorem agV(F:bW K "many" "many" aaA f fd):∅ 4 f fd Fl (abC K):=by
 refine F.oj ahx ?_;rintro _ _ _ _ _ _ _ _ hr _ _ _ ⟨n,rfl,h⟩;refine⟨_,(aq (aR (cj (fB (K:=K) rfl) (by rfl) iD dP (aj (bh lY mV hr (aj (pv 0) ao)) ao)))),?_⟩;obtain⟨n0,n1,kk⟩:=h;cbv;refine⟨n,rfl,n0,n1,λH1 l hl s1 g1=>?_⟩;have sl:=bI.of (K:=K) g1;cbv;have:=kk H1 s1;rw[Yi];exact this
theorem Ud(v0:0<=v)(n0:0<=n):Yz v n=((v.toNat &&& n.toNat:Nat):Int):=by
 unfold Yz;rw[decide_eq_true v0,decide_eq_true n0]
theorem Nx(v0:0<=v)(n0:0<=n):YD v n=((v.toNat ||| n.toNat:Nat):Int):=ael v0 n0
theorem aj6(v0:0<=v)(n0:0<=n)(n1:n<9223372036854775808):0<=Yz v n/\Yz v n<9223372036854775808:=by
 rw[Ud v0 n0];have:v.toNat &&& n.toNat<=n.toNat:=Nat.and_le_right;omega
theorem WX(v0:0<=v)(v1:v<9223372036854775808)(n0:0<=n)(n1:n<9223372036854775808):0<=YD v n/\YD v n<9223372036854775808:=by
 rw[Nx v0 n0];have:v.toNat ||| n.toNat<2^63:=Nat.or_lt_two_pow (by have:(2:Nat)^63=9223372036854775808:=(by decide);omega) (by have:(2:Nat)^63=9223372036854775808:=(by decide);omega);have p:(2:Nat)^63=9223372036854775808:=by decide
 omega
theorem Ul(h0:0<=h)(h1:h<63):(0:Int)<=2^h.toNat/\(2:Int)^h.toNat<9223372036854775808:=by
 have p:(2:Nat)^h.toNat<2^63:=Nat.pow_lt_pow_right (by decide) (by omega);have q:(2:Nat)^63=9223372036854775808:=by decide
 refine⟨Int.le_of_lt (Int.pow_pos (by decide)),?_⟩;rw[show(2:Int)^h.toNat=((2^h.toNat:Nat):Int)from(z5 2 h.toNat).symm];generalize 2^h.toNat=z at p;omega
noncomputable def CN(v n:Int):Bool:=decide (2*(((GB.hl (Yz v n)).length:Nat):Int)>(((GB.hl n).length:Nat):Int))
def uo(K:Ye):Sp:=λvs H Q _=>E2 fun(v n:Int)=>vs=[.int v,.int n]/\(A4 (0<=v) (0<=n) (n<9223372036854775808) (∀H',aO H H'->Q (.bl (CN v n)) H'))
abbrev ae7:List Yj:=["some","hands"]
theorem HH:aD ["some","hands"] ae7 (aA mK):=gF
variable{afF:Yc}{abx:Yt}(aab:∅ 4 afF abx Fl (abC K))(aaB:gW K mg "many" afF abx Fl)
include eV aab aaB in
theorem HX(F:bW K "more_than_half" "more_than_half" mK f fd):∅ 5 f fd ae7 (uo K):=by
 refine F.oj HH ?_;rintro _ _ _ _ _ _ _ _ hr _ _ _ ⟨v,n,rfl,h⟩;refine⟨_,(aq (aR (jo Qp (bL XX aC (bh aab aaB hr (aj (bL Ay (pv 0) (pv 1)) ao))) (bh aab aaB hr (aj (pv 1) ao)) (bc _)))),?_⟩;obtain⟨v0,n0,n1,kk⟩:=h;obtain⟨a0,a1⟩:=aj6 v0 n0 n1;cbv;refine⟨_,rfl,a0,a1,λH1 s1=>?_⟩;have m2:adE 2 (((GB.hl (Yz v n)).length:Nat):Int):=.inl ⟨by decide,by decide⟩;cbv;refine⟨n,rfl,n0,n1,λH2 s2=>?_⟩;cbv;exact kk H2 (s1.trans s2)
theorem ajb(n0:0<=n)(h0:0<=h)(i:Nat):(YD n (2^h.toNat)).toNat.testBit i=(n.toNat.testBit i||decide (h.toNat=i)):=by
 rw[Nx n0 (iw _),YA,rj,show((2:Int)^h.toNat).toNat=2^h.toNat by rw[show(2:Int)^h.toNat=((2^h.toNat:Nat):Int)from(z5 2 h.toNat).symm,YA],l5]
def fH(n:Int)(ns:List Int):Prop:=0<=n/\n<9223372036854775808/\∀i:Nat,n.toNat.testBit i=true↔(i:Int)∈ns
def JX(K:Ye):Sp:=λvs H Q _=>∃(a:Yc),vs=[.ref a]/\∃ns:List Int,bI K H a (ns.map V.int)/\(∀x∈ns,0<=x/\x<63)/\∀n:Int,fH n ns->Q (.int n) H
theorem Cv:aD ["some","hands","hand"] uB (aA NP):=gF
include eV wD fW in
theorem adc(F:bW K "set_of" "set_of" NP f fd):∅ 2 f fd uB (JX K):=by
 refine F.oj Cv ?_;rintro _ A _ _ H _ _ _ hr _ _ _ ⟨a,rfl,h⟩;refine⟨_,(ak (aV (i:=1) Cv.nd rfl (Or.inl rfl) aC)
   (ak (jc Y8 rfl (bC (K:=K) rfl (pv 0)) (aW (i:=2) Cv.nd rfl (Or.inl rfl))
   (aq (aV (i:=1) Cv.nd rfl (Or.inl rfl) (bL NK (pv 1) (bh wD fW hr (aj (pv 2) ao))))))
   (aq (aR (pv 1))))),?_⟩
 refine XM ?_;intro _;obtain⟨ns,ha,rg,kk⟩:=h;cbv;refine gf (xs:=ns.map V.int) (λi σ A=>H=A/\(E2 fun(n:Int) (v:Option V)=>σ=[Ya (.ref a),Ya (.int n),v]/\fH n (ns.take i))) ⟨rfl,0,Yb,rfl,by decide,by decide,λi=>by rw[show ot 0=0 from rfl,cE];simp⟩ (λi σ A _ z=>by rw[←z.1];exact ha) ?_ ?_
 ·rintro i x σ _ hi ⟨rfl,n,v,rfl,n0,n1,nb⟩;obtain⟨h,hh,rfl⟩:=IK hi;obtain⟨r0,r1⟩:=rg h (YE hh);cbv;refine⟨h,rfl,r0,by omega,?_⟩;cbv;obtain⟨b0,b1⟩:=Ul r0 r1;obtain⟨o0,o1⟩:=WX n0 n1 b0 b1;refine⟨rfl,_,_,rfl,o0,o1,λj=>?_⟩;rw[ajb n0 r0,eN hh,ai,zD,nb j,decide_eq_true_iff,Yy];constructor
  ·rintro(z|z)
   ·exact .inl z
   ·exact .inr (by omega)
  ·rintro(z|z)
   ·exact .inl z
   ·exact .inr (by omega)
 rintro σ _ ⟨rfl,n,v,rfl,nb⟩;rw[Yi,Y5]at nb;cbv;exact kk n nb
def Sub(v n:Int):Prop:=0<=v/\True
theorem Sub.or{a b:Int}(n0:0<=n)(x:Sub a n)(y:Sub b n):Sub (YD a b) n:=⟨by rw[Nx x.1 y.1];omega,trivial⟩
theorem afU(n0:0<=n):Yz 0 n=0:=by
 rw[Ud (fF 0) n0,show ot 0=0 from rfl,Nat.zero_and];rfl
theorem aie:GB.hl 0=[]:=by
 unfold GB.hl GB.V2;have:((cS 63).filter λh=>(ot 0).testBit h)=[]:=List.filter_eq_nil_iff.mpr λh _=>by
  rw[show ot 0=0 from rfl,cE];decide
 rw[this];rfl
theorem acP(n0:0<=n):CN 0 n=false:=by
 unfold CN;rw[afU n0,aie];exact decide_eq_false (by simp)
mutual
theorem S9{H H':Hp}:∀{n m:Nat} {x z:V} {d:cx},Pl H n x d->Pl H' m z d->Pl H' n z d
 |_,_,_,_,_,.non,h=>by cases h;exact .non
 |_,_,_,_,_,.int i,h=>by cases h;exact .int i
 |_,_,_,_,_,.bl i,h=>by cases h;exact .bl i
 |_,_,_,_,_,.str i l,h=>by cases h;exact .str i l
 |_,_,_,_,_,.tup _ _ hs,.tup e l h2=>.tup e l (abv hs h2)
theorem abv{H H':Hp}:∀{n m:Nat} {xs zs:List V} {ds:List cx},Ko H n xs ds->Ko H' m zs ds->Ko H' n zs ds
 |_,_,_,_,_,.nil,.nil=>.nil
 |_,_,_,_,_,.cons h t,.cons h2 t2=>.cons (S9 h h2) (abv t t2)
end
abbrev qb:=Option ((Int×Int)×Pn)
abbrev Rt:=Int×Bool
variable{dr:Option Rt}
noncomputable def rtD(r:Rt):cx:=.tuple [.int r.1,.tuple [],.tuple [],.tuple [],.bool r.2]
noncomputable def agD:Option Pn->cx
 |none=>.none
 |some p=>plD p
noncomputable def roD:Option Rt->cx
 |none=>.none
 |some r=>rtD r
def RX(H:Hp):List (Int×V)->List (Int×Rt×qb)->Prop:=d3 λe r=>e.1=r.1/\(0<=e.1/\e.1<63)/\∃t rv yv,e.2=.ref t/\H t=Ya (.tup [rv,yv])/\Pl H 2 rv (rtD r.2.1)/\T5 H yv r.2.2
theorem RX.up{H H':Hp}(s:j4 H H'):∀{m:List (Int×V)} {rp:List (Int×Rt×qb)},RX H m rp->RX H' m rp
 |_,_,.nil=>.nil
 |_,_,.cons ⟨e1,r,t,rv,yv,e2,e3,e4,e5⟩ q=>.cons ⟨e1,r,t,rv,yv,e2,s _ _ e3,e4.up s,e5.up s⟩ (RX.up s q)
theorem RX.keys{H:Hp}:∀{m:List (Int×V)} {rp:List (Int×Rt×qb)},RX H m rp->m.map (·.1)=rp.map (·.1)
 |_,_,.nil=>rfl
 |_,_,.cons ⟨e1,_⟩ q=>by rw[YQ,YQ,e1,RX.keys q]
theorem RX.rg{H:Hp}:∀{m:List (Int×V)} {rp:List (Int×Rt×qb)},RX H m rp->∀e∈m,0<=e.1/\e.1<63
 |_,_,.nil=>(λ_ z=>nomatch z)
 |_,_,.cons ⟨_,r,_⟩ q=>λe he=>by
  rcases YC.mp he with z|z
  ·rw[z];exact r
  ·exact RX.rg q e z
noncomputable def O5{α:Type}:List (Int×α)->Int->α->List (Int×α)
 |[],k,v=>[(k,v)]
 |p::m,k,v=>if p.1=k then(p.1,v)::m else p::O5 m k v
theorem RX.put{H:Hp}{k:Int}{t:Yc}{rv yv:V}{dr:Rt}{y:qb}(r:0<=k/\k<63)(e1:H t=Ya (.tup [rv,yv]))(e2:Pl H 2 rv (rtD dr))(e3:T5 H yv y):∀{m:List (Int×V)} {rp:List (Int×Rt×qb)},RX H m rp->RX H (qj m k (.ref t)) (O5 rp k (dr,y))
 |_,_,.nil=>.cons ⟨rfl,r,t,rv,yv,rfl,e1,e2,e3⟩ .nil
 |e::m,q::rp,.cons h u=>by
  have ek:e.1=q.1:=h.1;show RX H (if e.1=k then(e.1,.ref t)::m else e::qj m k (.ref t)) (if q.1=k then(q.1,(dr,y))::rp else q::O5 rp k (dr,y));by_cases z:e.1=k
  ·rw[if_pos z,if_pos (ek▸z)];exact .cons ⟨ek,h.2.1,t,rv,yv,rfl,e1,e2,e3⟩ u
  ·rw[if_neg z,if_neg (λw=>z (ek.trans w))];exact .cons h (RX.put r e1 e2 e3 u)
structure yF(K:Ye)(mg:Yj->Option Yd)(H:Hp)(p:Yc)(me hd:Int)(b:Option (Int×Int))(y:qb)(vo:Int)(ag:Option Pn)(d:Yc)(rp:List (Int×Rt×qb)):Prop where
 ob:∃C dx ba ye av,mg "Change"=Ya (.ref C)/\H p=Ya (.ins C dx (CQ (.int me) (.int hd) ba ye (.int vo) (.ref d) av))/\Vh H ba b/\T5 H ye y/\Pl H 2 av (agD ag)
 dc:∃m,H d=Ya (.dK (dG m))/\RX H m rp/\(m.map (·.1)).Nodup
 m0:0<=me
 m1:me<63
 h0:0<=hd
 h1:hd<9223372036854775808
 sm:Sub (2^me.toNat) hd
 sv:Sub vo hd
 vy:y=Yb->vo=0
section
variable{p d:Yc}{me hd vo:Int}{b:Option (Int×Int)}{y:qb}{ag:Option Pn}{rp:List (Int×Rt×qb)}
theorem yF.up(h:yF K mg H p me hd b y vo ag d rp)(s1:∀o,H p=Ya o->H' p=Ya o)(s2:∀o,H d=Ya o->H' d=Ya o)(s3:j4 H H'):yF K mg H' p me hd b y vo ag d rp:=by
 obtain⟨C,dx,ba,ye,av,e1,e2,e3,e4,e5⟩:=h.ob;obtain⟨m,f1,f2,f3⟩:=h.dc;exact⟨⟨C,dx,ba,ye,av,e1,s1 _ e2,e3.up s3,e4.up s3,e5.up s3⟩,⟨m,s2 _ f1,f2.up s3,f3⟩,h.m0,h.m1,h.h0,h.h1,h.sm,h.sv,h.vy⟩
theorem yF.same(h:yF K mg H p me hd b y vo ag d rp)(s:aO H H'):yF K mg H' p me hd b y vo ag d rp:=h.up (λ_ e=>s _ _ e) (λ_ e=>s _ _ e) (.same s)
end
theorem G9{m:List (Int×V)}(nd:(m.map (·.1)).Nodup)(rg:∀e∈m,0<=e.1/\e.1<63):m.length<64:=by
 refine Fn λh=>?_;have pm:=GX.Fv (l:=m.map (·.1)) (m:=(cS 63).map fun(i:Nat)=>(i:Int)) nd (λx hx=>?_) (by rw[Yi,Yi,cK];omega)
 ·have:=pm.length_eq;rw[Yi,Yi,cK]at this;omega
 ·obtain⟨e,he,rfl⟩:=YF.mp hx;obtain⟨r0,r1⟩:=rg e he;exact YF.mpr ⟨e.1.toNat,fb.mpr (by omega),by omega⟩
def qM(K:Ye):Sp:=λvs H Q _=>E3 fun(p:Yc) (me hd:Int)=>vs=[.ref p,.int me,.int hd]/\(E2 λC dx=>A3 (Uk K C) (H p=Ya (.ins C dx [])) (∀H' d,(∀b o,H b=Ya o->b≠p->H' b=Ya o)->H d=Yb->H' d=Ya (.dK [])->H' p=Ya (.ins C dx (CQ (.int me) (.int hd) .non .non (.int 0) (.ref d) .non))->Q .non H'))
abbrev afA:List Yj:=["self","me","hands"]
theorem Eu:aD ["self","me","hands"] afA (aA lG):=gF
include eV in
theorem Ew(F:bW K "__init__" "Change.__init__" lG f fd):∅ 1 f fd afA (qM K):=by
 refine F.oj Eu ?_;rintro _ _ _ _ H _ _ _ _ _ _ _ ⟨p,me,hd,rfl,h⟩;refine⟨_,(ak (aQ (K:=K) rfl (pv 0) (pv 1) rfl)
   (ak (aQ (K:=K) rfl (pv 0) (pv 2) rfl)
   (ak (aQ (K:=K) rfl (pv 0) bV rfl)
   (ak (aQ (K:=K) rfl (pv 0) bV rfl)
   (ak (aQ (K:=K) rfl (pv 0) aC rfl)
   (ak (aQ (K:=K) rfl (pv 0) sG rfl)
   (aq (aQ (K:=K) rfl (pv 0) bV rfl)))))))),?_⟩
 refine xl7 ?_;intro _ _ _ _ _;obtain⟨C,dx,⟨cl,n1,n2,n3,n4,n5,n6,n7⟩,hp,q⟩:=h;cbv;intro H1 b1 g1;cbv;intro H2 b2 g2;cbv;intro H3 b3 g3;cbv;intro H4 b4 g4;cbv;intro H5 b5 g5;cbv;intro d H6 hd6 s6 g6;have g5':=s6 _ _ g5;cbv;intro H7 b7 g7;cbv;intro H8 b8 g8;rw[agB]at g8;have nd:d≠p:=λz=>by rw[z,g5]at hd6;cases hd6
 refine q H8 d (λb o e n=>b8.at n (b7.at n (s6 _ _ (b5.at n (b4.at n (b3.at n (b2.at n (b1.at n e)))))))) ?_ (b8.at nd (b7.at nd g6)) g8;cases z:H d with
 |none=>rfl
 |some o=>rw[b5.at nd (b4.at nd (b3.at nd (b2.at nd (b1.at nd z))))]at hd6;cases hd6
def KpP(p:Yc)(H H':Hp):Prop:=∀b o,b≠p->H b=Ya o->H' b=Ya o
noncomputable def bl:Option (Int×Int)->Int
 |none=>0
 |some q=>q.1
def xQ(K:Ye)(mg:Yj->Option Yd):Sp:=λvs H Q _=>E3 fun(p:Yc) (m:Int) (c:V)=>vs=[.ref p,.int m,c]/\(E9 λme hd b y vo ag d rp dr=>A3 (yF K mg H p me hd b y vo ag d rp) (Pl H 2 c (rtD dr)) (∀H' d',KpP p H H'->yF K mg H' p me hd (Ya (bl b+ m,me)) y vo ag d' [(me,dr,y)]->H d'=Yb->Q .non H'))
abbrev aeH:List Yj:=["self","more","report"]
theorem yg:aD ["self","more","report","last"] aeH (aA rY):=gF
variable{EY:Yc}{bN:Yc}{zg:Yt}(iU:∅ 5 EY zg pH (zj K))(dM:gW K mg "own_copy" EY zg pH)(aH:Uk K bN)(aL:mg "Change"=Ya (.ref bN))
include eV iU dM aH aL in
theorem K6(F:bW K "begin" "Change.begin" rY f fd):∅ 6 f fd aeH (xQ K mg):=by
 refine F.oj yg ?_;rintro _ _ _ _ H _ _ _ hr _ _ _ ⟨p,m,c,rfl,h⟩;refine⟨_,(ak (aV (i:=3) yg.nd rfl (Or.inl rfl) (oJ (aX j8 (au (K:=K) rfl (pv 0) rfl) bV (bc _)) aC (bf (aN (K:=K) rfl) (au (K:=K) rfl (pv 0) rfl) aC (λ_ _=>rfl))))
   (ak (aQ (K:=K) rfl (pv 0) (eY (aj (bL mJ (pv 3) (pv 1)) (aj (au (K:=K) rfl (pv 0) rfl) ao))) rfl)
   (aq (aQ (K:=K) rfl (pv 0) (aho (afk (au (K:=K) rfl (pv 0) rfl) (eY (aj (bh iU dM hr (aj (pv 2) ao)) (aj (au (K:=K) rfl (pv 0) rfl) ao))) ahN) rfl rfl (λz=>nomatch z) (Nat.le_of_ble_eq_true rfl)) rfl)))),?_⟩
 refine XM ?_;intro _;obtain⟨me,hd,b,y,vo,ag,d,rp,dr,S,hc,kk⟩:=h;obtain⟨⟨C,dx,ba,ye,av,eC,hp,hb,hy,ha⟩,_,m0,m1,z0,z1,sm,sv,vy⟩:=id S;rw[aL]at eC;cases eC;obtain⟨cl,n1,n2,n3,n4,n5,n6,n7⟩:=id aH;refine rT (λσ' H'=>H=H'/\σ'=[Ya (.ref p),Ya (.int m),Ya c,Ya (.int (bl b))]) ?_ λN rest=>?_
 rotate_left
 ·cases b with
  |none=>
   obtain rfl:ba=.non:=hb;cbv;exact rest _ _ ⟨rfl,rfl⟩
  |some q=>
   obtain⟨t,rfl,ht⟩:=hb;have st:=cN.of (K:=K) ht;cbv;rw[dH];cbv;exact rest _ _ ⟨rfl,rfl⟩
 rintro σ' _ ⟨rfl,rfl⟩;cbv;intro t H1 ht s1 g1;have hp1:=s1 _ _ hp;cbv;intro H2 b2 g2;rw[ab0]at g2;cbv;refine ag3 λr hr'=>?_;have s3:=aF (o:=.dK []) hr';have g3:(upd H2 r (.dK [])) r=Ya (.dK []):=aB;generalize upd H2 r (.dK [])=H3 at s3 g3⊢;have gp3:=s3 _ _ g2;cbv;have hc3:Pl H3 2 c (rtD dr):=hc.up λa xs e=>s3 _ _ (b2.at (bj e hp (by intro z;cases z)) (s1 _ _ e));refine⟨c,rfl,rtD dr,hc3.mono.mono,λH4 x' s4 p4=>?_⟩;have p4:=S9 hc p4;have gp4:=s4 _ _ gp3;cbv;intro u H5 hu5 s5 g5;have gp5:=s5 _ _ gp4;have gr5:=s5 _ _ (s4 _ _ g3);refine⟨gr5,[(YX me,.ref u)],rfl,by show 1<=15;decide,?_⟩;have b6:But r H5 (upd H5 r (.dK (lF [] [(YX me,V.ref u)]))):=.upd;have g6:(upd H5 r (.dK (lF [] [(YX me,V.ref u)]))) r=Ya (.dK [(YX me,V.ref u)]):=aB;generalize upd H5 r (.dK (lF [] [(YX me,V.ref u)]))=H6 at b6 g6⊢;have nrp:r≠p:=λz=>by rw[z,g2]at hr';cases hr'
 have gp6:=b6.at nrp.symm gp5;cbv;intro H7 b7 g7;rw[abI]at g7;have nrH:∀b' o,H b'=Ya o->b'≠p->b'≠r:=λb' o e n z=>by
  rw[z]at e n;rw[b2.at n (s1 _ _ e)]at hr';cases hr'
 have gt7:H7 t=Ya (.tup [.int (bl b+ m),.int me]):=by
  have ntp:t≠p:=bj g1 hp1 (by intro z;cases z);have ntr:t≠r:=λz=>by rw[←z,b2.at ntp g1]at hr';cases hr'
  exact b7.at ntp (b6.at ntr (s5 _ _ (s4 _ _ (s3 _ _ (b2.at ntp g1)))))
 have nup:u≠p:=bj g5 gp5 (by intro z;cases z);have nur:u≠r:=bj g5 gr5 (by intro z;cases z);have gu7:=b7.at nup (b6.at nur g5);have kp:KpP p H H7:=λb' o n e=>b7.at n (b6.at (nrH b' o e n) (s5 _ _ (s4 _ _ (s3 _ _ (b2.at n (s1 _ _ e))))));have ks:j4 H H7:=λa xs e=>kp _ _ (bj e hp (by intro z;cases z)) e;have ks4:j4 H4 H7:=λa xs e=>b7.at (bj e gp4 (by intro z;cases z)) (b6.at (bj e (s4 _ _ g3) (by intro z;cases z)) (s5 _ _ e));refine kk H7 r kp ⟨⟨_,dx,.ref t,ye,av,aL,g7,⟨t,rfl,gt7⟩,hy.up ks,ha.up ks⟩,⟨[(me,.ref u)],b7.at nrp g6,.cons ⟨rfl,⟨m0,m1⟩,u,_,ye,rfl,gu7,p4.up ks4,hy.up ks⟩ .nil,by simp⟩,m0,m1,z0,z1,sm,sv,vy⟩ ?_;cases z:H r with
 |none=>rfl
 |some o=>exact absurd rfl (nrH r o z nrp)
noncomputable def msD(me:Int)(b:Option (Int×Int))(y:qb)(vo:Int)(dr:Option Rt):cx:=.tuple [.int me,O7 b,yeD y,.int vo,roD dr]
def WD(H:Hp)(a:Yc)(me:Int)(b:Option (Int×Int))(y:qb)(vo:Int)(dr:Option Rt):Prop:=∃ba ye rv,H a=Ya (.tup [.int me,ba,ye,.int vo,rv])/\Vh H ba b/\T5 H ye y/\Pl H 2 rv (roD dr)
theorem WD.up(s:j4 H H'){me vo:Int}{b:Option (Int×Int)}{y:qb}(h:WD H a me b y vo dr):WD H' a me b y vo dr:=by
 obtain⟨ba,ye,rv,e1,e2,e3,e4⟩:=h;exact⟨ba,ye,rv,s _ _ e1,e2.up s,e3.up s,e4.up s⟩
theorem afE{me vo:Int}{b:Option (Int×Int)}{y:qb}(h:WD H a me b y vo dr):Pl H 4 (.ref a) (msD me b y vo dr):=by
 obtain⟨ba,ye,rv,e1,e2,e3,e4⟩:=h;exact .tup e1 (by show 5<=10;decide) (.cons (.int _) (.cons (ad2 e2) (.cons (alr e3) (.cons (.int _) (.cons e4.mono .nil)))))
theorem afi{x x0:V}{me vo:Int}{b:Option (Int×Int)}{y:qb}(l1:Pl H0 2 x0 (roD dr))(h:Pl H 4 x (msD me b y vo dr)):∃a,x=.ref a/\WD H a me b y vo dr:=by
 unfold msD at h;cases h with
 |tup e l hs=>
  cases hs with
  |cons h1 t1=>
   cases t1 with
   |cons h2 t2=>
    cases t2 with
    |cons h3 t3=>
     cases t3 with
     |cons h4 t4=>
      cases t4 with
      |cons h5 t5=>
       cases t5;cases h1;cases h4;exact⟨_,rfl,_,_,_,e,aiL h2,amb h3,S9 l1 h5⟩
def ue(K:Ye)(mg:Yj->Option Yd):Sp:=λvs H Q _=>E2 fun(p:Yc) (c:V)=>vs=[.ref p,c]/\(E9 λme hd b y vo ag d rp dr=>A3 (yF K mg H p me hd b y vo ag d rp) (Pl H 2 c (roD dr)) (∀H' a,aO H H'->WD H' a me b y vo dr->Q (.ref a) H'))
abbrev afg:List Yj:=["self","report"]
theorem HR:aD ["self","report"] afg (aA mY):=gF
include eV iU dM aH aL in
theorem Hn(F:bW K "message" "Change.message" mY f fd):∅ 6 f fd afg (ue K mg):=by
 refine F.oj HR ?_;rintro _ _ _ _ _ _ _ _ hr _ _ _ ⟨p,c,rfl,h⟩;refine⟨_,(aq (aR (bh iU dM hr (aj (eY (aj (au (K:=K) rfl (pv 0) rfl) (aj (au (K:=K) rfl (pv 0) rfl) (aj (au (K:=K) rfl (pv 0) rfl) (aj (au (K:=K) rfl (pv 0) rfl) (aj (pv 1) ao)))))) ao)))),?_⟩;obtain⟨me,hd,b,y,vo,ag,d,rp,dr,S,hc,kk⟩:=h;obtain⟨⟨C,dx,ba,ye,av,eC,hp,hb,hy,ha⟩,_⟩:=id S;rw[aL]at eC;cases eC;obtain⟨cl,n1,n2,n3,n4,n5,n6,n7⟩:=id aH;cbv;intro t H1 ht s1 g1;cbv;refine⟨.ref t,rfl,msD me b y vo dr,afE ⟨ba,ye,c,g1,hb.up (.same s1),hy.up (.same s1),hc.up (.same s1)⟩,λH2 x' s2 p2=>?_⟩;obtain⟨a,rfl,m2⟩:=afi hc p2;cbv;exact kk H2 a (s1.trans s2) m2
noncomputable def pF(b b':Option (Int×Int)):Option (Int×Int):=if bgt b' b=true then b' else b
noncomputable def gtR(b b':Option (Int×Int))(rp:List (Int×Rt×qb)):List (Int×Rt×qb):=if bgt b' b=true then[]else rp
def oK(K:Ye)(mg:Yj->Option Yd):Sp:=λvs H Q _=>E2 fun(p:Yc) (x:V)=>vs=[.ref p,x]/\(E9 λme hd b y vo ag d rp b'=>A3 (yF K mg H p me hd b y vo ag d rp) (Vh H x b') (∀H' d',KpP p H H'->yF K mg H' p me hd (pF b b') y vo ag d' (gtR b b' rp)->(d'=d∨H d'=Yb)->Q .non H'))
abbrev XH:List Yj:=["self","ballot"]
theorem zq:aD ["self","ballot"] XH (aA jt):=gF
include eV jr jh aH aL in
theorem BX(F:bW K "see_ballot" "Change.see_ballot" jt f fd):∅ 2 f fd XH (oK K mg):=by
 refine F.oj zq ?_;rintro _ _ _ _ H _ _ _ hr _ _ _ ⟨p,x,rfl,h⟩;refine⟨_,(aq (cF (cT K rfl (bh jr jh hr (aj (pv 1) (aj (au (K:=K) rfl (pv 0) rfl) ao)))) (ak (aQ (K:=K) rfl (pv 0) (pv 1) rfl)
   (aq (aQ (K:=K) rfl (pv 0) sG rfl))) bG)),?_⟩
 obtain⟨me,hd,b,y,vo,ag,d,rp,b',S,hx,kk⟩:=h;obtain⟨⟨C,dx,ba,ye,av,eC,hp,hb,hy,ha⟩,_,m0,m1,z0,z1,sm,sv,vy⟩:=id S;rw[aL]at eC;cases eC;obtain⟨cl,n1,n2,n3,n4,n5,n6,n7⟩:=id aH;cbv;refine⟨x,ba,rfl,b',b,hx,hb,?_⟩;cbv;refine d9 (λh1=>?_) λh1=>?_
 ·have eg:pF b b'=b':=if_pos h1;have er:gtR b b' rp=[]:=if_pos h1;cbv;intro H1 b1 g1;rw[ab0]at g1;cbv;intro r H2 hr' s2 g2;have gp2:=s2 _ _ g1;have nrp:r≠p:=λz=>by rw[z,g1]at hr';cases hr'
  cbv;intro H3 b3 g3;rw[abI]at g3;have kp:KpP p H H3:=λb'' o n e=>b3.at n (s2 _ _ (b1.at n e));have ks:j4 H H3:=λa xs e=>kp _ _ (bj e hp (by intro z;cases z)) e;refine kk H3 r kp (by rw[eg,er];exact⟨⟨_,dx,x,ye,av,aL,g3,hx.up ks,hy.up ks,ha.up ks⟩,⟨[],b3.at nrp g2,.nil,.nil⟩,m0,m1,z0,z1,sm,sv,vy⟩) (.inr ?_);cases z:H r with
  |none=>rfl
  |some o=>rw[b1.at nrp z]at hr';cases hr'
 ·have eg:pF b b'=b:=if_neg h1;have er:gtR b b' rp=rp:=if_neg h1;exact kk H d (λb'' o n e=>e) (by rw[eg,er];exact S) (.inl rfl)
theorem Do{v:V}{b:Option (Int×Int)}(h:Vh H v b):Dl K H v (O7 b):=.inl (ad2 (n:=0) h).dp
theorem uT(b:Option (Int×Int)):(O7 b).canLay0=true:=by cases b<;>rfl
theorem Mx(b:Option (Int×Int)):(O7 b).depth<=60:=by
 cases b with
 |none=>show 0<=60;decide
 |some q=>show 1<=60;decide
theorem Oh(b c:Option (Int×Int)):(O7 b).eqv (O7 c)=decide (b=c):=by
 cases b with
 |none=>
  cases c with
  |none=>rfl
  |some r=>rfl
 |some q=>
  cases c with
  |none=>rfl
  |some r=>
   obtain⟨q1,q2⟩:=q;obtain⟨r1,r2⟩:=r;have e:(O7 (Ya (q1,q2))).eqv (O7 (Ya (r1,r2)))=(q1==r1&&(q2==r2&&true)):=rfl;rw[e,GY,eD,fy,beq_iff_eq,beq_iff_eq,decide_eq_true_iff];constructor
   ·rintro⟨rfl,rfl⟩;rfl
   ·intro z;cases z;exact⟨rfl,rfl⟩
noncomputable def jw(b:Option (Int×Int))(y:qb)(vo:Int)(y':qb)(vo' me:Int):qb×Int:=
 match y' with
 |none=>(y,vo)
 |some q=>if b=Ya q.1/\bgt (Ya q.1) (yb y)=true then(Ya q,YD vo' (2^me.toNat))else if yb y=Ya q.1 then(y,YD vo vo')else(y,vo)
def tW(K:Ye)(mg:Yj->Option Yd):Sp:=λvs H Q _=>E3 fun(p:Yc) (x:V) (vo':Int)=>vs=[.ref p,x,.int vo']/\(E9 λme hd b y vo ag d rp y'=>A4 (yF K mg H p me hd b y vo ag d rp) (T5 H x y') (Sub vo' hd) (∀H',KpP p H H'->yF K mg H' p me hd b (jw b y vo y' vo' me).1 (jw b y vo y' vo' me).2 ag d rp->Q .non H'))
abbrev Vg:List Yj:=["self","yes","votes"]
theorem Hr:aD ["self","yes","votes"] Vg (aA m9):=gF
include eV wD fW jr jh gY gZ aH aL in
theorem Hz(F:bW K "see_yes" "Change.see_yes" m9 f fd):∅ 2 f fd Vg (tW K mg):=by
 refine F.oj Hr ?_;rintro _ _ _ _ H _ _ _ hr hu64 _ _ ⟨p,x,vo',rfl,h⟩;refine⟨_,(ak (cF (aX j8 (pv 1) bV (bc _)) (aq RL) bG)
   (aq (cF (PW.pt (pK (aX (Oz (K:=K) rfl hu64) (bf (aN (K:=K) rfl) (pv 1) aC (λ_ _=>rfl)) (au (K:=K) rfl (pv 0) rfl) (bc _)) (kJ (cT K rfl (bh jr jh hr (aj (bf (aN (K:=K) rfl) (pv 1) aC (λ_ _=>rfl)) (aj (bh gY gZ hr (aj (au (K:=K) rfl (pv 0) rfl) ao)) ao))))))) (ak (aQ (K:=K) rfl (pv 0) (pv 1) rfl)
   (aq (aQ (K:=K) rfl (pv 0) (bL NK (pv 2) (bh wD fW hr (aj (au (K:=K) rfl (pv 0) rfl) ao))) rfl))) (aq (cF (aX (Oz (K:=K) rfl hu64) (bf (aN (K:=K) rfl) (pv 1) aC (λ_ _=>rfl)) (bh gY gZ hr (aj (au (K:=K) rfl (pv 0) rfl) ao)) (bc _)) (aq (aQ (K:=K) rfl (pv 0) (bL NK (au (K:=K) rfl (pv 0) rfl) (pv 2)) rfl)) bG))))),?_⟩
 obtain⟨me,hd,b,y,vo,ag,d,rp,y',S,hx,sb,kk⟩:=h;obtain⟨⟨C,dx,ba,ye,av,eC,hp,hb,hy,ha⟩,⟨mm,hd',hr,nd⟩,m0,m1,z0,z1,sm,sv,vy⟩:=id S;rw[aL]at eC;cases eC;obtain⟨cl,n1,n2,n3,n4,n5,n6,n7⟩:=id aH;cases y' with
 |none=>
  obtain rfl:x=.non:=hx;refine HN ?_;cbv;exact kk H (λ_ _ _ e=>e) S
 |some q=>
  obtain⟨t,u,pv,rfl,g1,g2,g3⟩:=id hx;have st:=cN.of (K:=K) g1;have a0:lH [V.ref u,pv] 0=Ya (.ref u):=by kernel_rfl
  have bu:Vh H (.ref u) (Ya q.1):=⟨u,rfl,g2⟩;have ndp:d≠p:=bj hd' hp (by intro z;cases z);have kS:∀{H':Hp},KpP p H H'->j4 H H':=λk a xs e=>k _ _ (bj e hp (by intro z;cases z)) e;have mk:∀(H':Hp) (ye':V) (y1:qb) (v1:Int),KpP p H H'->H' p=Ya (.ins bN dx (CQ (.int me) (.int hd) ba ye' (.int v1) (.ref d) av))->T5 H ye' y1->Sub v1 hd->(y1=Yb->v1=0)->yF K mg H' p me hd b y1 v1 ag d rp:=λH' ye' y1 v1 k e hy' s' v'=>
   ⟨⟨bN,dx,ba,ye',av,aL,e,hb.up (kS k),hy'.up (kS k),ha.up (kS k)⟩,⟨mm,k _ _ ndp hd',hr.up (kS k),nd⟩,m0,m1,z0,z1,sm,s',v'⟩
  refine HN ?_;cbv;rw[dH];cbv;refine⟨O7 (Ya q.1),O7 b,Do bu,Do hb,uT _,uT _,by have:=Mx (Ya q.1);omega,?_⟩;rw[Oh];have other:¬ (b=Ya q.1/\bgt (Ya q.1) (yb y)=true)->jw b y vo (Ya q) vo' me=if yb y=Ya q.1 then(y,YD vo vo')else(y,vo):=λz=>if_neg z
  cbv;refine d9 (λh1=>?_) λh1=>?_
  ·have h1:=of_decide_eq_true h1;cbv;refine⟨ye,rfl,y,hy,λbz hz=>?_⟩;cbv;refine⟨_,bz,rfl,_,_,bu,hz,?_⟩;cbv;refine d9 (λh2=>?_) λh2=>?_
   ·have es:jw b y vo (Ya q) vo' me=(Ya q,YD vo' (2^me.toNat)):=if_pos ⟨h1.symm,h2⟩;rw[es]at kk;cbv;intro H1 b1 e1;rw[abK]at e1;cbv;refine⟨me,rfl,m0,by omega,?_⟩;cbv;intro H2 b2 e2;rw[Lp]at e2;exact kk H2 (λb' o n e=>b2.at n (b1.at n e)) (mk H2 _ (Ya q) _ (λb' o n e=>b2.at n (b1.at n e)) e2 hx (sb.or z0 sm) (λz=>nomatch z))
   ·rw[other λz=>h2 z.2]at kk;cbv;refine⟨ye,rfl,y,hy,λbz hz=>?_⟩;refine⟨O7 (Ya q.1),O7 (yb y),Do bu,Do hz,uT _,uT _,by have:=Mx (Ya q.1);omega,?_⟩;rw[Oh];cbv;refine d9 (λh3=>?_) λh3=>?_
    ·rw[if_pos (of_decide_eq_true h3).symm]at kk;cbv;intro H1 b1 e1;rw[Lp]at e1;exact kk H1 (λb' o n e=>b1.at n e) (mk H1 _ y _ (λb' o n e=>b1.at n e) e1 hy (sv.or z0 sb) (λz=>by rw[z]at h3;exact absurd (of_decide_eq_true h3) (by intro w;cases w)))
    ·rw[if_neg (λz=>h3 (decide_eq_true z.symm))]at kk;exact kk H (λ_ _ _ e=>e) S
  ·rw[other λz=>h1 (decide_eq_true z.1.symm)]at kk;cbv;refine⟨ye,rfl,y,hy,λbz hz=>?_⟩;refine⟨O7 (Ya q.1),O7 (yb y),Do bu,Do hz,uT _,uT _,by have:=Mx (Ya q.1);omega,?_⟩;rw[Oh];cbv;refine d9 (λh3=>?_) λh3=>?_
   ·rw[if_pos (of_decide_eq_true h3).symm]at kk;cbv;intro H1 b1 e1;rw[Lp]at e1;exact kk H1 (λb' o n e=>b1.at n e) (mk H1 _ y _ (λb' o n e=>b1.at n e) e1 hy (sv.or z0 sb) (λz=>by rw[z]at h3;exact absurd (of_decide_eq_true h3) (by intro w;cases w)))
   ·rw[if_neg (λz=>h3 (decide_eq_true z.symm))]at kk;exact kk H (λ_ _ _ e=>e) S
noncomputable def Lz(b:Option (Int×Int))(y:qb)(me:Int):Bool:=match b with
 |none=>false
 |some q=>decide (q.2=me)&& !decide (yb y=Ya q)
def lw(K:Ye)(mg:Yj->Option Yd):Sp:=λvs H Q _=>∃(p:Yc),vs=[.ref p]/\(E8 λme hd b y vo ag d rp=>yF K mg H p me hd b y vo ag d rp/\Q (.bl (Lz b y me)) H)
abbrev bx:List Yj:=["self"]
theorem GD:aD ["self"] bx (aA nA):=gF
include eV gY gZ aH aL in
theorem G6(F:bW K "gathers" "Change.gathers" nA f fd):∅ 2 f fd bx (lw K mg):=by
 refine F.oj GD ?_;rintro _ _ _ _ _ _ _ _ hr hu64 _ _ ⟨p,rfl,h⟩;refine⟨_,(aq (aR (xF (jo nQ (au (K:=K) rfl (pv 0) rfl) bV (bc _)) (xF (jo yP (bf (aN (K:=K) rfl) (au (K:=K) rfl (pv 0) rfl) aC (λ_ _=>rfl)) (au (K:=K) rfl (pv 0) rfl) (bc _)) (xN (jo (pM (K:=K) rfl hu64) (bh gY gZ hr (aj (au (K:=K) rfl (pv 0) rfl) ao)) (au (K:=K) rfl (pv 0) rfl) (bc _))))))),?_⟩;obtain⟨me,hd,b,y,vo,ag,d,rp,S,kk⟩:=h;obtain⟨⟨C,dx,ba,ye,av,eC,hp,hb,hy,ha⟩,_⟩:=id S;rw[aL]at eC;cases eC;obtain⟨cl,n1,n2,n3,n4,n5,n6,n7⟩:=id aH;cases b with
 |none=>
  obtain rfl:ba=.non:=hb;cbv;exact kk
 |some q=>
  obtain⟨t,rfl,ht⟩:=id hb;have st:=cN.of (K:=K) ht;have a1:lH [V.int q.1,V.int q.2] 1=Ya (.int q.2):=by kernel_rfl
  have eg:Lz (Ya q) y me=(decide (q.2=me)&& !decide (yb y=Ya q)):=rfl;rw[eg]at kk;cbv;rw[dH];cbv;refine d9 (λh1=>?_) λh1=>?_
  ·rw[decide_eq_true (of_decide_eq_true h1),Cf]at kk;cbv;refine⟨ye,rfl,y,hy,λbz hz=>?_⟩;cbv;refine⟨O7 (yb y),O7 (Ya q),Do hz,Do hb,uT _,uT _,by have:=Mx (yb y);omega,?_⟩;rw[Oh];exact kk
  ·rw[decide_eq_false (λz=>h1 (decide_eq_true z)),fe]at kk;cbv;exact kk
noncomputable def plY(y:qb):Option Pn:=y.map (·.2)
noncomputable def vf(ag:Option Pn)(y:qb)(vo hd:Int):Option Pn:=
 match ag with
 |none=>if CN vo hd=true then plY y else Yb
 |some p=>Ya p
def jy(K:Ye)(mg:Yj->Option Yd):Sp:=λvs H Q _=>∃(p:Yc),vs=[.ref p]/\(E8 λme hd b y vo ag d rp=>yF K mg H p me hd b y vo ag d rp/\∀H',KpP p H H'->yF K mg H' p me hd b y vo (vf ag y vo hd) d rp->Q .non H')
theorem CP:aD ["self"] bx (aA jY):=gF
variable{vI:Yc}{uh:Yt}(jj:∅ 5 vI uh ae7 (uo K))(jg:gW K mg "more_than_half" vI uh ae7)
include eV jj jg aH aL in
theorem CK(F:bW K "see_votes" "Change.see_votes" jY f fd):∅ 6 f fd bx (jy K mg):=by
 refine F.oj CP ?_;rintro _ _ _ _ H _ _ _ hr _ _ _ ⟨p,rfl,h⟩;refine⟨_,(aq (cF (PW.pt (pK (aX j8 (au (K:=K) rfl (pv 0) rfl) bV (bc _)) (kJ (cT K rfl (bh jj jg hr (aj (au (K:=K) rfl (pv 0) rfl) (aj (au (K:=K) rfl (pv 0) rfl) ao))))))) (aq (aQ (K:=K) rfl (pv 0) (bf (aN (K:=K) rfl) (au (K:=K) rfl (pv 0) rfl) aC (λ_ _=>rfl)) rfl)) bG)),?_⟩;obtain⟨me,hd,b,y,vo,ag,d,rp,S,kk⟩:=h;obtain⟨⟨C,dx,ba,ye,av,eC,hp,hb,hy,ha⟩,⟨mm,hd',hr,nd⟩,m0,m1,z0,z1,sm,sv,vy⟩:=id S;rw[aL]at eC;cases eC;obtain⟨cl,n1,n2,n3,n4,n5,n6,n7⟩:=id aH;cases ag with
 |some p0=>
  rw[show vf (Ya p0) y vo hd=Ya p0 from rfl]at kk;obtain⟨t,rfl⟩:∃t,av=.ref t:=by
   have ha:Pl H 2 av (plD p0):=ha;unfold plD at ha;cases ha;exact⟨_,rfl⟩
  cbv;rw[dH];cbv;exact kk H (λ_ _ _ e=>e) S
 |none=>
  obtain rfl:av=.non:=by
   have ha:Pl H 2 av .none:=ha;cases ha;rfl
  cbv;rw[show decide (V.non=V.non)=true from decide_eq_true rfl];cbv;refine⟨vo,hd,rfl,sv.1,z0,z1,λH1 s1=>?_⟩;have hp1:=s1 _ _ hp;have S1:=S.same s1;cbv;refine d9 (λh1=>?_) λh1=>?_
  ·cases y with
   |none=>
    rw[vy rfl,acP z0]at h1;cases h1
   |some q=>
    obtain⟨t,u,pv,rfl,g1,g2,g3⟩:=id hy;have g11:=s1 _ _ g1;have st:=cN.of (K:=K) g11;have a1:lH [V.ref u,pv] 1=Ya pv:=by kernel_rfl
    rw[show vf Yb (Ya q) vo hd=Ya q.2 from if_pos h1]at kk;cbv;intro H2 b2 e2;rw[ag7]at e2;have kp:KpP p H H2:=λb' o n e=>b2.at n (s1 _ _ e);have ks:j4 H H2:=λa xs e=>kp _ _ (bj e hp (by intro z;cases z)) e;exact kk H2 kp ⟨⟨_,dx,ba,_,pv,aL,e2,hb.up ks,hy.up ks,g3.up ks⟩,⟨mm,kp _ _ (bj hd' hp (by intro z;cases z)) hd',hr.up ks,nd⟩,m0,m1,z0,z1,sm,sv,vy⟩
  ·rw[show vf Yb y vo hd=Yb from if_neg h1]at kk;exact kk H1 (λb' o n e=>s1 _ _ e) S1
def sW(K:Ye)(mg:Yj->Option Yd):Sp:=λvs H Q _=>∃(p:Yc),vs=[.ref p]/\(E8 λme hd b y vo ag d kvs=>yF K mg H p me hd b y vo ag d kvs/\∀H' z,aO H H'->Pl H' 2 z (agD ag)->Q z H')
theorem Je:aD ["self"] bx (aA nD):=gF
include eV iU dM aH aL in
theorem Ge(F:bW K "settled" "Change.settled" nD f fd):∅ 6 f fd bx (sW K mg):=by
 refine F.oj Je ?_;rintro _ _ _ _ _ _ _ _ hr _ _ _ ⟨p,rfl,h⟩;refine⟨_,(aq (aR (bh iU dM hr (aj (au (K:=K) rfl (pv 0) rfl) ao)))),?_⟩;obtain⟨me,hd,b,y,vo,ag,d,kvs,S,kk⟩:=h;obtain⟨⟨C,dx,ba,ye,av,eC,hp,hb,hy,ha⟩,_⟩:=id S;rw[aL]at eC;cases eC;obtain⟨cl,n1,n2,n3,n4,n5,n6,n7⟩:=id aH;cbv;refine⟨av,rfl,agD ag,ha.mono.mono,λH1 x' s1 p1=>?_⟩;cbv;exact kk H1 x' s1 (S9 ha p1)
noncomputable def aef(b b':Option (Int×Int))(y1:qb)(me:Int)(rp:List (Int×Rt×qb))(me':Int)(dr:Option Rt)(y':qb):List (Int×Rt×qb):=
 if b'=pF b b'/\Lz (pF b b') y1 me=true then O5 (gtR b b' rp) me' (dr.getD (0,false),y')else gtR b b' rp
def ud(K:Ye)(mg:Yj->Option Yd):Sp:=λvs H Q _=>E2 fun(p a:Yc)=>vs=[.ref p,.ref a]/\(E12 λme hd b y vo ag d rp me' b' y' vo'=>∃dr,A8 (yF K mg H p me hd b y vo ag d rp) (WD H a me' b' y' vo' dr) ((b'≠Yb->dr≠Yb)) (me'≠me) (0<=me') (me'<63) (Sub vo' hd) (∀H' d',(∀x o,x≠p->x≠d->H x=Ya o->H' x=Ya o)->yF K mg H' p me hd (pF b b') (jw (pF b b') y vo y' vo' me).1 (jw (pF b b') y vo y' vo' me).2 (vf ag (jw (pF b b') y vo y' vo' me).1 (jw (pF b b') y vo y' vo' me).2 hd) d' (aef b b' (jw (pF b b') y vo y' vo' me).1 me rp me' dr y')->(d'=d∨H d'=Yb)->Q .non H'))
abbrev Xf:List Yj:=["self","message"]
theorem tR:aD ["self","message","own"] Xf (aA mO):=gF
variable{pW:Yc}{vD:Yc}{nM:Yc}{jZ:Yc}{oE:Yt}{tH:Yt}{lL:Yt}{ju:Yt}(jG:∅ 6 EY zg pH (zj K))(pQ:∅ 6 pW oE XH (oK K mg))(pU:Binds K oE XH [])(wk:∅ 6 vD tH Vg (tW K mg))(vh:Binds K tH Vg [])(vW:∅ 6 nM lL bx (lw K mg))(jq:Binds K lL bx [])(rK:∅ 6 jZ ju bx (jy K mg))(iz:Binds K ju bx [])(cW:bU K bN "gathers" nM)(dO:bU K bN "see_ballot" pW)(cD:bU K bN "see_votes" jZ)(fY:bU K bN "see_yes" vD)
include eV jG dM pQ pU wk vh vW jq rK iz aH aL cW dO cD fY in
theorem Hx(F:bW K "receive" "Change.receive" mO f fd):∅ 7 f fd Xf (ud K mg):=by
 refine F.oj tR ?_;rintro _ _ _ _ H _ _ _ hr hu64 _ hu ⟨p,a,rfl,h⟩;refine⟨_,(ak (cF (aX yP (bf (aN (K:=K) rfl) (pv 1) aC (λ_ _=>rfl)) (au (K:=K) rfl (pv 0) rfl) (bc _)) (aq RL) bG)
   (ak (aV (i:=2) tR.nd rfl (Or.inl rfl) (bh jG dM hr (aj (pv 1) ao)))
   (ak (bT (bD (cH.cons aH.cl dO pQ pU cH.nil) (pv 0) hr (aj (bf (aN (K:=K) rfl) (pv 2) aC (λ_ _=>rfl)) ao)))
   (ak (bT (bD (cH.cons aH.cl fY wk vh cH.nil) (pv 0) hr (aj (bf (aN (K:=K) rfl) (pv 2) aC (λ_ _=>rfl)) (aj (bf (aN (K:=K) rfl) (pv 2) aC (λ_ _=>rfl)) ao))))
   (ak (cF (PW.pt (pK (aX (Oz (K:=K) rfl hu64) (bf (aN (K:=K) rfl) (pv 2) aC (λ_ _=>rfl)) (au (K:=K) rfl (pv 0) rfl) (bc _)) (kJ (cT K rfl (bM (cH.cons aH.cl cW vW jq cH.nil) (pv 0) hr))))) (aq (ab7 hu (au (K:=K) rfl (pv 0) rfl) (bf (aN (K:=K) rfl) (pv 2) aC (λ_ _=>rfl)) (eY (aj (bf (aN (K:=K) rfl) (pv 2) aC (λ_ _=>rfl)) (aj (bf (aN (K:=K) rfl) (pv 2) aC (λ_ _=>rfl)) ao))) rfl)) bG)
   (aq (bT (bM (cH.cons aH.cl cD rK iz cH.nil) (pv 0) hr)))))))),?_⟩
 refine xl6 ?_;intro _ _ _ _;obtain⟨me,hd,b,y,vo,ag,d,rp,me',b',y',vo',dr,S,⟨ba',ye',rv,hm,hb',hy',hrv⟩,hdr,ne,e0,e1,sb,kk⟩:=h;obtain⟨⟨C,dx,ba,ye,av,eC,hp,hb,hy,ha⟩,⟨_,hd',_⟩,_⟩:=id S;rw[aL]at eC;cases eC;obtain⟨cl,n1,n2,n3,n4,n5,n6,n7⟩:=id aH;have sm:=cN.of (K:=K) hm;have a0:lH [V.int me',ba',ye',.int vo',rv] 0=Ya (.int me'):=by kernel_rfl
 refine HN ?_;cbv;refine d9 (λh1=>absurd (of_decide_eq_true h1) ne) λ_=>?_;cbv;refine⟨.ref a,rfl,msD me' b' y' vo' dr,afE ⟨ba',ye',rv,hm,hb',hy',hrv⟩,λH1 x' s1 p1=>?_⟩;obtain⟨w,rfl,ba1,ye1,rv1,hw,hb1,hy1,hrv1⟩:=afi hrv p1;have S1:=S.same s1;have hp1:=s1 _ _ hp;have sw:=cN.of (K:=K) hw;have a1:lH [V.int me',ba1,ye1,.int vo',rv1] 1=Ya ba1:=by kernel_rfl
 cbv;refine⟨p,ba1,rfl,me,hd,b,y,vo,ag,d,rp,b',S1,hb1,λH2 d2 k2 S2 w2=>?_⟩;have nwp:w≠p:=bj hw hp1 (by intro z;cases z);have kt2:j4 H1 H2:=λa xs e=>k2 _ _ (bj e hp1 (by intro z;cases z)) e;have hw2:=kt2 _ _ hw;have sw2:=cN.of (K:=K) hw2;have hb2:=hb1.up kt2;have hy2:=hy1.up kt2;have hrv2:=hrv1.up kt2;have a2:lH [V.int me',ba1,ye1,.int vo',rv1] 2=Ya ye1:=by kernel_rfl
 have a3:lH [V.int me',ba1,ye1,.int vo',rv1] 3=Ya (.int vo'):=by kernel_rfl
 have a4:lH [V.int me',ba1,ye1,.int vo',rv1] 4=Ya rv1:=by kernel_rfl
 have a0':lH [V.int me',ba1,ye1,.int vo',rv1] 0=Ya (.int me'):=by kernel_rfl
 obtain⟨⟨C2,dx2,ba2,ye2,av2,eC2,hp2,_⟩,_,_⟩:=id S2;rw[aL]at eC2;cases eC2;have w2':d2=d∨H d2=none:=by
  rcases w2 with q|q
  ·exact .inl q
  ·exact .inr (s1.free q)
 have nd2:∀x o,x≠d->H x=Ya o->x≠d2:=λx o n e z=>by
  rcases w2' with q|q
  ·exact n (z.trans q)
  ·rw[z,q]at e;cases e
 cbv;refine⟨p,ye1,vo',rfl,me,hd,_,y,vo,ag,d2,gtR b b' rp,y',S2,hy2,sb,λH3 k3 S3=>?_⟩;unfold aef at kk;generalize (jw (pF b b') y vo y' vo' me).1=y1 at S3 kk;generalize (jw (pF b b') y vo y' vo' me).2=v1 at S3 kk;generalize gtR b b' rp=rp1 at S3 kk;have kt3:j4 H2 H3:=λa xs e=>k3 _ _ (bj e hp2 (by intro z;cases z)) e;have hw3:=kt3 _ _ hw2;have sw3:=cN.of (K:=K) hw3;have hb3:=hb2.up kt3;have hy3:=hy2.up kt3;have hrv3:=hrv2.up kt3;obtain⟨⟨C3,dx3,ba3,ye3,av3,eC3,hp3,hbb3,hyy3,haa3⟩,⟨m3,hd3,hr3,ndk3⟩,m0,m1,z0,z1,smm,svv,vyy⟩:=id S3;rw[aL]at eC3;cases eC3;have keep:∀x o,x≠p->x≠d->H x=Ya o->H3 x=Ya o:=λx o n1 _ e=>k3 _ _ n1 (k2 _ _ n1 (s1 _ _ e));refine rT (λσ' B=>A3 (σ'=[Ya (.ref p),Ya (.ref a),Ya (.ref w)]) ((∀x o,x≠p->x≠d->H x=Ya o->B x=Ya o)) (yF K mg B p me hd (pF b b') y1 v1 ag d2 (if b'=pF b b'/\Lz (pF b b') y1 me=true then O5 rp1 me' (dr.getD (0,false),y')else rp1))) ?_ λN rest=>?_
 ·rintro σ' B ⟨rfl,kB,S4⟩;obtain⟨⟨C4,dx4,ba4,ye4,av4,eC4,hp4,_⟩,_⟩:=id S4;rw[aL]at eC4;cases eC4;cbv;refine⟨p,rfl,me,hd,_,y1,v1,ag,d2,_,S4,λH5 k5 S5=>?_⟩;cbv;exact kk H5 d2 (λx o n1 n2 e=>k5 _ _ n1 (kB x o n1 n2 e)) S5 w2'
 ·cbv;refine⟨O7 b',O7 (pF b b'),Do hb3,Do hbb3,uT _,uT _,by have:=Mx b';omega,?_⟩;rw[Oh];cbv;refine d9 (λh1=>?_) λh1=>?_
  ·have h1:=of_decide_eq_true h1;cbv;refine⟨p,rfl,me,hd,_,y1,v1,ag,d2,rp1,S3,?_⟩;cbv;refine d9 (λh2=>?_) λh2=>?_
   ·cbv;intro t H4 ht s4 g4;have hp4:=s4 _ _ hp3;have hw4:=s4 _ _ hw3;have sw4:=cN.of (K:=K) hw4;have hd4:=s4 _ _ hd3;have lk:m3.length<YB:=aU (by have:=G9 ndk3 hr3.rg;omega);cbv;intro H5 b5 g5;have kt5:j4 H3 H5:=λx xs e=>b5.at (bj e hd3 (by intro z;cases z)) (s4 _ _ e);have ndp:d2≠p:=bj hd3 hp3 (by intro z;cases z);refine rest _ _ ⟨rfl,λx o n1 n2 e=>b5.at (nd2 x o n2 e) (s4 _ _ (keep x o n1 n2 e)),?_⟩;rw[if_pos ⟨h1,h2⟩];obtain⟨rt,rfl⟩:∃rt,dr=Ya rt:=by
     cases dr with
     |some rt=>exact⟨rt,rfl⟩
     |none=>
      refine absurd rfl (hdr λz=>?_);rw[←h1,z]at h2;cases h2
    exact⟨⟨_,dx3,ba3,ye3,av3,aL,b5.at ndp.symm hp4,hbb3.up kt5,hyy3.up kt5,haa3.up kt5⟩,⟨qj m3 me' (.ref t),g5,(hr3.up kt5).put ⟨e0,e1⟩ (b5.at (bj g4 hd4 (by intro z;cases z)) g4) (hrv3.up kt5) (hy3.up kt5),acg _ _ _ ndk3⟩,m0,m1,z0,z1,smm,svv,vyy⟩
   ·exact rest _ _ ⟨rfl,keep,by rw[if_neg λz=>h2 z.2];exact S3⟩
  ·cbv;exact rest _ _ ⟨rfl,keep,by rw[if_neg λz=>h1 (decide_eq_true z.1)];exact S3⟩
theorem abH:∀(i n m:Nat),(n-(n &&& m)).testBit i=(n.testBit i&& !m.testBit i)
 |0,n,m=>by
  have h1:(n &&& m)%2=(n%2)*(m%2):=by
   have:=qf n m 0;simp only[yT]at this;rcases cq n with a|a<;>rcases cq m with b|b<;>rcases cq (n &&& m)with c|c<;>rw[a,b,c]at this⊢ <;>simp at this⊢
  have h2:n &&& m<=n:=Ap;have h3:(n-(n &&& m))%2=(n%2)*(1-m%2):=by
   rcases cq n with a|a<;>rcases cq m with b|b<;>rw[a,b]at h1⊢ <;>omega
  simp only[yT];rw[h3];rcases cq n with a|a<;>rcases cq m with b|b<;>rw[a,b]<;>decide
 |i+ 1,n,m=>by
  have h1:(n &&& m)%2<=n%2:=by
   have:=qf n m 0;simp only[yT]at this;rcases cq n with a|a<;>rcases cq (n &&& m)with c|c<;>rw[a,c]at this⊢ <;>simp at this⊢
  have h2:n &&& m<=n:=Ap;have h3:(n &&& m) / 2=n / 2 &&& m / 2:=Nat.and_div_two;have h4:(n-(n &&& m)) / 2=n / 2-(n / 2 &&& m / 2):=by omega
  rw[yY,yY,yY,h4,abH i (n / 2) (m / 2)]
theorem M5(n0:0<=n)(m0:0<=m):Yz n (Yw m)=((n.toNat-(n.toNat &&& m.toNat):Nat):Int):=by
 unfold Yz;rw[decide_eq_true n0,decide_eq_false (show ¬ (0:Int)<=Yw m by unfold Yw;omega)];show n-((n.toNat &&& (Yw (Yw m)).toNat:Nat):Int)=_;rw[show Yw (Yw m)=m by unfold Yw;omega];have:n.toNat &&& m.toNat<=n.toNat:=Ap;omega
theorem ug(n0:0<=n)(m0:0<=m):0<=Yz n (Yw m)/\∀i,(Yz n (Yw m)).toNat.testBit i=(n.toNat.testBit i&& !m.toNat.testBit i):=by
 rw[M5 n0 m0];exact⟨ml _,λi=>by rw[YA];exact abH i _ _⟩
noncomputable def eno(hd dd:Int)(ks:List Int):Bool:=decide (∀h∈GB.hl hd,dd.toNat.testBit h.toNat=true∨h∈ks)&&decide (2*((GB.hl hd).filter λh=>decide (h∈ks)).length>(GB.hl hd).length)
theorem ajc(m:h∈GB.hl n):0<=h/\h<63/\n.toNat.testBit h.toNat=true:=by
 unfold GB.hl at m;obtain⟨k,hk,rfl⟩:=YF.mp m;obtain⟨h1,h2⟩:=GB.HJ.mp hk;exact⟨by omega,by omega,by rw[YA];exact h2⟩
theorem ahr{hd:Int}(h0:0<=hd)(h1:hd<9223372036854775808)(d0:0<=dd)(s:fH n ks):decide (Yz (Yz hd (Yw dd)) (Yw n)=0)=decide (∀h∈GB.hl hd,dd.toNat.testBit h.toNat=true∨h∈ks):=by
 obtain⟨a0,a1⟩:=ug h0 d0;obtain⟨b0,b1⟩:=ug a0 s.1;apply decide_eq_decide.mpr;constructor
 ·intro z h hh;obtain⟨r0,r1,tb⟩:=ajc hh;have:=b1 h.toNat
  rw[z,show ot 0=0 from rfl,cE,a1,tb]at this;cases e1:dd.toNat.testBit h.toNat with
  |true=>exact .inl rfl
  |false=>
   rw[e1]at this;cases e2:n.toNat.testBit h.toNat with
   |true=>exact .inr (by have:=(s.2.2 h.toNat).mp e2;rwa [i6 r0]at this)
   |false=>rw[e2]at this;cases this
 ·intro z;have:(Yz (Yz hd (Yw dd)) (Yw n)).toNat=0:=by
   apply oB;intro i;rw[cE,b1,a1];cases e0:hd.toNat.testBit i with
   |false=>rfl
   |true=>
    have i63:i<63:=by
     refine Fn λhi=>?_;have:=sg (x:=hd.toNat) (i:=i) (YM (show hd.toNat<2^63 by omega) (oQ (by decide) hi));rw[this]at e0;cases e0
    have:=z (i:Int) (GB.Up.mpr ⟨i63,e0⟩);rw[YA]at this;rcases this with w|w
    ·rw[w];rfl
    ·rw[(s.2.2 i).mpr w];simp
  omega
theorem WW{hd:Int}(h0:0<=hd)(s:fH n ks):CN n hd=decide (2*((GB.hl hd).filter λh=>decide (h∈ks)).length>(GB.hl hd).length):=by
 have e:GB.hl (Yz n hd)=(GB.hl hd).filter λh=>decide (h∈ks):=by
  rw[Ud s.1 h0];unfold GB.hl GB.V2;rw[YA,List.filter_map,List.filter_filter];congr 1;apply List.filter_congr;intro i _;rw[qf,eD,fy,fy,s.2.2 i];show _↔decide ((i:Int)∈ks)=true/\_;rw[decide_eq_true_iff]
 unfold CN;rw[e];apply decide_eq_decide.mpr;omega
def oN(K:Ye)(mg:Yj->Option Yd):Sp:=λvs H Q _=>E2 fun(p:Yc) (dd:Int)=>vs=[.ref p,.int dd]/\(E8 λme hd b y vo ag d rp=>A3 (yF K mg H p me hd b y vo ag d rp) (0<=dd) (∀H',aO H H'->Q (.bl (eno hd dd (rp.map (·.1)))) H'))
abbrev Xw:List Yj:=["self","doubts"]
theorem oU:aD ["self","doubts","reporting"] Xw (aA jz):=gF
variable{Mw:Yc}{JB:Yt}(Vp:∅ 5 Mw JB uB (JX K))(Bk:gW K mg "set_of" Mw JB uB)
include eV jj jg Vp Bk fK aH aL in
theorem zb(F:bW K "has_enough" "Change.has_enough" jz f fd):∅ 6 f fd Xw (oN K mg):=by
 refine F.oj oU ?_;rintro _ _ _ _ H _ _ _ hr _ _ _ ⟨p,dd,rfl,h⟩;refine⟨_,(ak (aV (i:=2) oU.nd rfl (Or.inl rfl) (bh Vp Bk hr (aj (bZ (aad rfl) (by rfl) fK d6 (aj (au (K:=K) rfl (pv 0) rfl) ao)) ao)))
   (aq (aR (xF (jo yP (bL Ay (bL Ay (au (K:=K) rfl (pv 0) rfl) (Ri JK (pv 1))) (Ri JK (pv 2))) aC (bc _)) (xN (bh jj jg hr (aj (pv 2) (aj (au (K:=K) rfl (pv 0) rfl) ao)))))))),?_⟩
 obtain⟨me,hd,b,y,vo,ag,d,rp,S,d0,kk⟩:=h;obtain⟨⟨C,dx,ba,ye,av,eC,hp,_⟩,⟨kvs,hd',hr,nd⟩,m0,m1,z0,z1,_⟩:=id S;rw[aL]at eC;cases eC;obtain⟨cl,n1,n2,n3,n4,n5,n6,n7⟩:=id aH;have fk:=G9 nd hr.rg;rw[←hr.keys]at kk;unfold eno at kk;cbv;refine⟨d,kvs,rfl,.inl hd',by omega,λl hl=>?_⟩;have s1:=aF (o:=.lst ((kvs.map (·.1)).map V.int)) hl;have g1:(upd H l (.lst ((kvs.map (·.1)).map V.int))) l=Ya (.lst ((kvs.map (·.1)).map V.int)):=aB;generalize upd H l (.lst ((kvs.map (·.1)).map V.int))=H1 at s1 g1⊢;have hp1:=s1 _ _ hp;cbv;refine⟨l,rfl,kvs.map (·.1),bI.of g1,λx hx=>?_,λn ns=>?_⟩
 ·obtain⟨e,he,rfl⟩:=YF.mp hx;exact hr.rg e he
 rw[←ahr z0 z1 d0 ns,←WW z0 ns]at kk;cbv;refine d9 (λh1=>?_) λh1=>?_
 ·cbv;refine⟨n,hd,rfl,ns.1,z0,z1,λH2 s2=>?_⟩;have:=kk H2 (s1.trans s2);rw[h1,Cf]at this;exact this
 ·cbv;have:=kk H1 s1;rw[(show _=false from dS.mpr h1),fe]at this;exact this
def EmD(H:Hp)(v:V):Prop:=∃d,v=.ref d/\H d=Ya (.dK [])
theorem EmD.same{v:V}(h:EmD H v)(s:aO H H'):EmD H' v:=let ⟨d,e,g⟩:=h;⟨d,e,s _ _ g⟩
def BK(K:Ye):Sp:=λvs H Q _=>∃(a:Yc),vs=[.ref a]/\∃xs,A3 (bI K H a xs) ((∀x∈xs,EmD H x)) (∀H' l,aO H H'->H l=Yb->H' l=Ya (.lst [])->Q (.ref l) H')
theorem rM:aD ["some","hands","counts"] uB (aA uP):=gF
variable(abL:mg "set"=Yb)(jB:mg "sorted"=Yb)
include eV fK abL jB in
theorem Mr(F:bW K "hands_among" "hands_among" uP f fd):∅ 1 f fd uB (BK K):=by
 refine F.oj rM ?_;rintro _ A _ _ H _ _ _ hr _ _ _ ⟨a,rfl,h⟩;refine⟨_,(ak (aV (i:=1) rM.nd rfl (Or.inl rfl) (eU ao))
   (ak (jc Y8 rfl (bC (K:=K) rfl (pv 0)) (aW (i:=2) rM.nd rfl (Or.inl rfl))
   (aq (bT (Vx i4 y0 y3 QX (pv 1) (aj (bZ (aaN rfl) (by rfl) fK d6 (aj (pv 2) ao)) ao)))))
   (aq (aR (cj (Ho rfl) (by rfl) jB iL (aj (bZ (QS rfl) (by rfl) abL (show iq "set"=Ya (.type "set") by decide +kernel) (aj (pv 1) ao)) ao)))))),?_⟩
 refine XM ?_;intro _;obtain⟨xs,hS,em,kk⟩:=h;cbv;intro l H1 hl s1 g1;have hS1:=s1.seq hS;cbv;let jJ1:Nat->St->Hp->Prop:=λi σ A=>∃v,A3 (σ=[Ya (.ref a),Ya (.ref l),v]) (aO H A) (A l=Ya (.lst []));refine gf (xs:=xs) jJ1 ⟨Yb,rfl,s1,g1⟩ (λi σ A _ z=>by obtain⟨_,_,z,_⟩:=z;exact z.seq hS) ?_ ?_
 ·rintro i x σ A hx ⟨v,rfl,sA,gl⟩;obtain⟨d,rfl,hd⟩:=em x (YE hx);have hdA:=sA _ _ hd;cbv;refine⟨d,[],rfl,.inl hdA,YZ _,λl2 hl2=>⟨l,l2,[],[],rfl,rfl,by rw[aK (aP gl hl2)];exact gl,aB,YZ _,_,rfl,λb o e=>?_,aB⟩⟩;rw[aK (aP e hl),aK (aP (sA b o e) hl2)];exact sA b o e
 rintro σ A ⟨v,rfl,sA,gl⟩;have g0:bI K A l (([]:List Int).map V.int):=bI.of gl;cbv;refine⟨l,[],rfl,g0,YZ _,λq ks hq nd mem=>?_⟩;obtain rfl:ks=[]:=by
  cases ks with
  |nil=>rfl
  |cons k ks=>exact nomatch (mem k).mp Yl
 refine⟨q,[],rfl,aB,.nil,by decide,λr ns hr pm _=>?_⟩;obtain rfl:ns=[]:=we.mp pm;exact kk _ r (sA.trans ((aF hq).trans (aF hr))) (sA.free ((aF hq).free hr)) aB
def Aw(K:Ye):Sp:=λvs H Q _=>∃(a:Yc),vs=[.ref a]/\((bI K H a []∨cN K H a [])/\∀H' d,aO H H'->H d=Yb->H' d=Ya (.dK [])->Q (.ref d) H')
abbrev Qx:List Yj:=["pairs"]
theorem Xv:aD ["pairs"] Qx (aA Fx):=gF
include eV iJ in
theorem Vq(F:bW K "unpacked" "unpacked" Fx f fd):∅ 1 f fd Qx (Aw K):=by
 refine F.oj Xv ?_;rintro _ A _ s H _ Q _ _ _ _ _ ⟨a,rfl,h⟩;refine⟨_,(aq (aR (bZ (aa4 rfl) (by rfl) iJ gN (aj (cu ["hand","count"] [Yb,Yb] rfl rfl (by kernel_rfl) (ahz (K:=K) rfl (pv 0)) (λ_ _ _ _ _ nd=>Hj (K:=K) (n:=2) rfl rfl (jK (aW (i:=0) nd rfl (Or.inl rfl)) (jK (aW (i:=1) nd rfl (Or.inl rfl)) Hk))) (λ_ _ _ _ _=>(jL By)) (λ_ _ _ _ _=>fJ)) ao)))),?_⟩;obtain⟨hS,kk⟩:=h;have fin:∀(D:Yc) (_:H D=Yb) (A:Hp),aO H A->A D=Ya (.lst [])->∃(a:Yc) (ys:List V) (qs:List (Int×Int)),[V.ref D]=[.ref a]/\A a=Ya (.lst ys)/\Prs A ys qs/\(qs.map (·.1)).Nodup/\qs.length<=1000/\∀p,A p=Yb->Q (.ref p) (upd A p (.dK (dI qs))):=λD hD A s g=>⟨D,[],[],rfl,g,.nil,.nil,YZ _,λp hp=>kk _ p (s.trans (aF hp)) (s.free hp) aB⟩;rcases hS with hS|hS
 ·refine⟨_,rfl,a,rfl,.inl ⟨⟨_,hS⟩,λD hD=>?_⟩⟩;refine bO (K:=K) (a:=a) (xs:=[]) (λi σ A=>aO H A/\A D=Ya (.lst [])) ⟨aF hD,aB⟩ (λi σ A _ z=>z.1.seq hS) (λi x σ A hx=>by simp at hx) λσ A z=>fin D hD A z.1 z.2
 ·refine⟨_,rfl,a,rfl,.inr ⟨⟨_,hS⟩,λD hD=>?_⟩⟩;refine Ij (K:=K) (a:=a) (xs:=[]) (λi σ A=>aO H A/\A D=Ya (.lst [])) ⟨aF hD,aB⟩ (λi σ A _ z=>Bs z.1 hS) (λi x σ A hx=>by simp at hx) λσ A z=>fin D hD A z.1 z.2
def Q4(K:Ye):Sp:=λvs H Q _=>E2 fun(d e:Yc)=>vs=[.ref d,.ref e]/\(A3 (H d=Ya (.dK [])) (H e=Ya (.dK [])) (∀H' p,aO H H'->H p=Yb->H' p=Ya (.dK [])->Q (.ref p) H'))
theorem acQ:aD ["one","other"] Px (aA OJ):=gF
variable{Dr:Yc}{FW:Yc}{za:Yt}{Bp:Yt}(ou:∅ 1 Dr za uB (BK K))(nO:gW K mg "hands_among" Dr za uB)(wZ:∅ 1 FW Bp Qx (Aw K))(mX:gW K mg "unpacked" FW Bp Qx)
include eV ou nO wZ mX in
theorem adl(F:bW K "joined" "joined" OJ f fd):∅ 2 f fd Px (Q4 K):=by
 refine F.oj acQ ?_;rintro _ A _ _ _ _ _ _ hr _ _ _ ⟨d,e,rfl,h⟩;refine⟨_,(aq (aR (bh wZ mX hr (aj (cu ["one","other","hand"] [Ya 0,Ya 1,Yb] rfl rfl (by kernel_rfl) (bC (K:=K) rfl (bh ou nO hr (aj (eU (aj (pv 0) (aj (pv 1) ao))) ao))) (λ_ _ _ _ _ nd=>aW (i:=2) nd rfl (Or.inl rfl)) (λ_ _ _ _ _=>dB) (λ_ _ _ _ _=>fJ)) ao)))),?_⟩;obtain⟨hd,he,kk⟩:=h;cbv;intro l0 H1 hl0 s1 g1;cbv;refine⟨l0,rfl,_,bI.of g1,λx hx=>?_,λH2 l s2 hl g2=>?_⟩
 ·rcases YC.mp hx with z|z
  ·exact⟨d,z,s1 _ _ hd⟩
  ·exact⟨e,Yy.mp z,s1 _ _ he⟩
 have g2':bI K H2 l []:=bI.of g2;cbv;intro D hD;refine bO (K:=K) (a:=l) (xs:=[]) (λi σ A=>aO H2 A/\A D=Ya (.lst [])) ⟨aF hD,aB⟩ (λi σ A _ z=>z.1.seq g2') (λi x σ A hx=>by simp at hx) λσ A z=>?_;have s2A:=s1.trans (s2.trans z.1);exact⟨D,rfl,.inl (bI.of z.2),λH3 p s3 hp g3=>kk H3 p (s2A.trans s3) (s2A.free hp) g3⟩
def RC(K:Ye):Sp:=λvs H Q _=>∃(a:Yc),vs=[.ref a]/\∃xs,A3 (bI K H a xs) ((∀x∈xs,EmD H x)) (∀H' p,aO H H'->H p=Yb->H' p=Ya (.dK [])->Q (.ref p) H')
theorem adB:aD ["some"] uB (aA LK):=gF
include eV ou nO wZ mX in
theorem ade(F:bW K "common" "common" LK f fd):∅ 2 f fd uB (RC K):=by
 refine F.oj adB ?_;rintro _ A _ _ _ _ _ _ hr _ _ _ ⟨a,rfl,h⟩;refine⟨_,(aq (aR (bh wZ mX hr (aj (cu ["some","hand"] [Ya 0,Yb] rfl rfl (by kernel_rfl) (bC (K:=K) rfl (bh ou nO hr (aj (pv 0) ao))) (λ_ _ _ _ _ nd=>aW (i:=1) nd rfl (Or.inl rfl)) (λ_ _ _ _ _=>dB) (λ_ _ _ _ _=>fJ)) ao)))),?_⟩;obtain⟨xs,hS,em,kk⟩:=h;cbv;refine⟨a,rfl,xs,hS,em,λH2 l s2 hl g2=>?_⟩;have g2':bI K H2 l []:=bI.of g2;cbv;intro D hD;refine bO (K:=K) (a:=l) (xs:=[]) (λi σ A=>aO H2 A/\A D=Ya (.lst [])) ⟨aF hD,aB⟩ (λi σ A _ z=>z.1.seq g2') (λi x σ A hx=>by simp at hx) λσ A z=>?_;have s2A:=s2.trans z.1;exact⟨D,rfl,.inl (bI.of z.2),λH3 p s3 hp g3=>kk H3 p (s2A.trans s3) (s2A.free hp) g3⟩
def Ry(K:Ye):Sp:=λvs H Q _=>∃(d:Yc),vs=[.ref d]/\(H d=Ya (.dK [])/\∀H' t,aO H H'->H t=Yb->H' t=Ya (.tup [])->Q (.ref t) H')
abbrev V1:List Yj:=["counts"]
theorem adA:aD ["counts"] V1 (aA Oa):=gF
include eV jB dw in
theorem acY(F:bW K "packed" "packed" Oa f fd):∅ 1 f fd V1 (Ry K):=by
 refine F.oj adA ?_;rintro _ A _ _ H _ _ _ _ _ _ _ ⟨d,rfl,h⟩;refine⟨_,(aq (aR (bZ (fj (K:=K) rfl) (by rfl) dw bE (aj (cu ["counts","hand"] [Ya 0,Yb] rfl rfl (by kernel_rfl) (bC (K:=K) rfl (cj (Sw rfl) (by rfl) jB iL (aj (pv 0) ao))) (λ_ _ _ _ _ nd=>aW (i:=1) nd rfl (Or.inl rfl)) (λ_ _ _ _ _=>(jL By)) (λ_ _ _ _ _=>fJ)) ao)))),?_⟩;obtain⟨hd,kk⟩:=h;cbv;refine⟨d,[],rfl,.inl hd,by decide,λl S hl pm _=>?_⟩;obtain rfl:S=[]:=we.mp pm;have s1:=aF (o:=.lst (([]:List Int).map V.int)) hl;have g1:(upd H l (.lst (([]:List Int).map V.int))) l=Ya (.lst []):=aB;generalize upd H l (.lst (([]:List Int).map V.int))=H1 at s1 g1⊢;have g1':bI K H1 l []:=bI.of g1;cbv;intro D hD;refine bO (K:=K) (a:=l) (xs:=[]) (λi σ A=>aO H1 A/\A D=Ya (.lst [])) ⟨aF hD,aB⟩ (λi σ A _ z=>z.1.seq g1') (λi x σ A hx=>by simp at hx) λσ A z=>?_;have gD:bI K A D []:=bI.of z.2;cbv;intro t A1 ht s3 g3;exact kk A1 t (s1.trans (z.1.trans s3)) (s1.free (z.1.free ht)) g3
def LQ(K:Ye):Sp:=λvs H Q _=>∃(v:V),vs=[v]/\False
theorem aaP:aD ["call"] ["call"] (aA JC):=gF
include eV in
theorem aaD(F:bW K "rank_of" "rank_of" JC f fd):∅ 1 f fd ["call"] (LQ K):=by
 refine F.oj aaP ?_;rintro _ _ _ _ _ _ _ _ _ _ _ _ ⟨v,rfl,h⟩;refine⟨_,(aq (aR fJ)),?_⟩;exact h.elim
def MJ(K:Ye):Sp:=λvs H Q _=>∃(a:Yc),vs=[.ref a]/\(bI K H a []/\∀H' l,aO H H'->H l=Yb->H' l=Ya (.lst [])->Q (.ref l) H')
theorem X8:aD ["calls"] ["calls"] (aA JN):=gF
variable{QD:Yc}{M7:Yt}(Cj:∅ 1 QD M7 ["call"] (LQ K))(qD:gW K mg "rank_of" QD M7 ["call"])
include eV Cj qD jB in
theorem X7(F:bW K "by_rank" "by_rank" JN f fd):∅ 3 f fd ["calls"] (MJ K):=by
 refine F.oj X8 ?_;rintro _ _ _ _ _ _ _ _ hr _ _ _ ⟨a,rfl,h⟩;refine⟨_,(aq (aR (aaJ (K:=K) rfl (aj (pv 0) ao) (by rfl) jB Cj qD.mg qD.bd (by rfl) hr))),?_⟩;obtain⟨hS,kk⟩:=h;cbv;refine⟨a,[],[],rfl,hS,by decide,rfl,(λk hk=>nomatch hk),(λi v k H3 Q' hv=>by simp at hv),λD ws H' hD pm s' g'=>?_⟩;obtain rfl:ws=[]:=we.mp pm;exact kk H' D s' hD g'
def DK(K:Ye):Sp:=λvs H Q _=>E2 fun(a d:Yc)=>vs=[.ref a,.ref d,.int 0]/\((bI K H a []∨cN K H a [])/\Q (.int 0) H)
abbrev Xh:List Yj:=["places","counts","start"]
theorem u5:aD ["places","counts","start","at"] Xh (aA xP):=gF
include eV iD in
theorem Pa(F:bW K "first_open" "first_open" xP f fd):∅ 1 f fd Xh (DK K):=by
 refine F.oj u5 ?_;rintro _ _ _ _ H _ _ _ _ _ _ _ ⟨a,d,rfl,h⟩;refine⟨_,(ak (aV (i:=3) u5.nd rfl (Or.inl rfl) (pv 2))
   (ak (Ng Y8 (PW.pt (pK (aX U6 (pv 3) (cj (fB (K:=K) rfl) (by rfl) iD dP (aj (pv 0) ao)) (bc _)) (kJ By)))
   (aq (aV (i:=3) u5.nd rfl (Or.inl rfl) (bL mJ (pv 3) aC))))
   (aq (aR (pv 3))))),?_⟩
 refine XM ?_;intro _;obtain⟨hS,kk⟩:=h;cbv;refine⟨λM σ H'=>σ=[Ya (.ref a),Ya (.ref d),Ya (.int 0),Ya (.int 0)]/\H'=H,⟨0,rfl,rfl⟩,?_⟩;rintro M σ H' ⟨rfl,rfl⟩;cbv;refine d9 (λz=>absurd (of_decide_eq_true z) (by decide)) λ_=>?_;cbv;exact kk
def NB(K:Ye):Sp:=λvs H Q _=>∃(a:Yc),vs=[.ref a,.int 0]/\((bI K H a []∨cN K H a [])/\Q .non H)
abbrev Wc:List Yj:=["places","at"]
theorem aba:aD ["places","at"] Wc (aA Jv):=gF
include eV iD in
theorem aaG(F:bW K "name_at" "name_at" Jv f fd):∅ 1 f fd Wc (NB K):=by
 refine F.oj aba ?_;rintro _ _ _ _ _ _ _ _ _ _ _ _ ⟨a,rfl,h⟩;refine⟨_,(aq (aR (oJ (aX U6 (pv 1) (cj (fB (K:=K) rfl) (by rfl) iD dP (aj (pv 0) ao)) (bc _)) fJ bV))),?_⟩;obtain⟨hS,kk⟩:=h;cbv;refine d9 (λz=>absurd (of_decide_eq_true z) (by decide)) λ_=>?_;exact kk
def wK(K:Ye):Sp:=λvs H Q _=>E4 fun(a:Yc) (x y z:V)=>vs=[.ref a,x,y,z]/\(bI K H a []/\Q .non H)
abbrev Uu:List Yj:=["callers","ranked","counts","name"]
theorem vq:aD ["callers","ranked","counts","name","caller","call"] Uu (aA pI):=gF
include eV in
theorem JG(F:bW K "first_to_take" "first_to_take" pI f fd):∅ 1 f fd Uu (wK K):=by
 refine F.oj vq ?_;rintro _ A _ _ H _ _ _ _ _ _ _ ⟨a,x,y,z,rfl,h⟩;refine⟨_,(ak (jc Y8 rfl (bC (K:=K) rfl (pv 0)) (aW (i:=4) vq.nd rfl (Or.inl rfl))
   (ak cz
   (aq cz)))
   (aq (aR bV))),?_⟩
 obtain⟨hS,kk⟩:=h;cbv;refine gf (K:=K) (a:=a) (xs:=[]) (λi σ A=>H=A/\σ=[Ya (.ref a),Ya x,Ya y,Ya z,Yb,Yb]) ⟨rfl,rfl⟩ (λi σ A _ z=>by rw[←z.1];exact hS) (λi x σ A hx=>by simp at hx) ?_;rintro σ _ ⟨rfl,rfl⟩;cbv;exact kk
def aa6(K:Ye):Sp:=λvs H Q _=>E3 fun(d a b:Yc)=>vs=[.ref d,.ref a,.ref b]/\(A4 (H d=Ya (.dK [])) (bI K H a []) ((bI K H b []∨cN K H b [])) (∀H' t l r,aO H H'->H l=Yb->H r=Yb->H' t=Ya (.tup [.ref l,.ref r])->H' l=Ya (.lst [])->H' r=Ya (.dK [])->Q (.ref t) H'))
abbrev Bm:List Yj:=["counts","calls","places"]
theorem Ez:aD ["counts","calls","places","reached","ranked","callers","row","at","call"] Bm (aA aew):=gF
variable{VF:Yc}{Gu:Yc}{Ra:Yc}{yH:Yc}{Rc:Yt}{CV:Yt}{Ov:Yt}{vJ:Yt}(vR:∅ 2 VF Rc Px (Q4 K))(v9:gW K mg "joined" VF Rc Px)(Ik:∅ 2 Gu CV Xh (DK K))(FZ:gW K mg "first_open" Gu CV Xh)(Qo:∅ 2 Ra Ov Wc (NB K))(Q6:gW K mg "name_at" Ra Ov Wc)(yG:∅ 2 yH vJ Uu (wK K))(yE:gW K mg "first_to_take" yH vJ Uu)
include eV vR v9 Ik FZ Qo Q6 yG yE iJ abL jB in
theorem akm(F:bW K "run" "run" aew f fd):∅ 3 f fd Bm (aa6 K):=by
 refine F.oj Ez ?_;rintro _ A _ _ _ _ _ E hr hu64 _ _ ⟨d,a,b,rfl,h⟩;refine⟨_,(ak (aV (i:=3) Ez.nd rfl (Or.inl rfl) (bh vR v9 hr (aj (pv 0) (aj sG ao))))
   (ak (aV (i:=4) Ez.nd rfl (Or.inl rfl) (bZ (zc rfl (hV (lP (by decide) _) hu64)) (by rfl) iJ gN (aj (cu ["call"] [Yb] rfl rfl (by kernel_rfl) (bC (K:=K) rfl (pv 1)) (λ_ _ _ _ _ nd=>aW (i:=0) nd rfl (Or.inl rfl)) (λ_ _ _ _ _=>dB) (λ_ _ _ _ _=>fJ)) ao)))
   (ak (aV (i:=5) Ez.nd rfl (Or.inl rfl) (cj (Ho rfl) (by rfl) jB iL (aj (bZ (QS rfl) (by rfl) abL (show iq "set"=Ya (.type "set") by decide +kernel) (aj (cu ["call"] [Yb] rfl rfl (by kernel_rfl) (bC (K:=K) rfl (pv 1)) (λ_ _ _ _ _ nd=>aW (i:=0) nd rfl (Or.inl rfl)) (λ_ _ _ _ _=>dB) (λ_ _ _ _ _=>fJ)) ao)) ao)))
   (ak (aV (i:=6) Ez.nd rfl (Or.inl rfl) (eU ao))
   (ak (aV (i:=7) Ez.nd rfl (Or.inl rfl) (bh Ik FZ hr (aj (pv 2) (aj (pv 3) (aj aC ao)))))
   (ak (aV (i:=8) Ez.nd rfl (Or.inl rfl) (bh yG yE hr (aj (pv 5) (aj (pv 4) (aj (pv 3) (aj (bh Qo Q6 hr (aj (pv 2) (aj (pv 7) ao))) ao))))))
   (ak (Ng Y8 (aX nQ (pv 8) bV (bc _))
   (ak cz
   (ak cz
   (ak cz
   (aq cz)))))
   (aq (aR (eY (aj (pv 6) (aj (pv 3) ao)))))))))))),?_⟩
 refine xl8 ?_;intro _ _ _ _ _ _;obtain⟨hd,hS,hP,kk⟩:=h;cbv;intro e0 H1 he0 s1 g1;have hd1:=s1 _ _ hd;cbv;refine⟨d,e0,rfl,hd1,g1,λH2 r s2 hr g2=>?_⟩;have s02:=s1.trans s2;have hS2:=s02.seq hS;cbv;intro E hE;refine bO (K:=K) (a:=a) (xs:=[]) (λi σ A=>aO H2 A/\A E=Ya (.lst [])) ⟨aF hE,aB⟩ (λi σ A _ z=>z.1.seq hS2) (λi x σ A hx=>by simp at hx) ?_;rintro σ H3 ⟨s3,gE⟩;refine⟨E,[],[],rfl,gE,.nil,YZ _,λD hD=>?_⟩;have s4:=aF (o:=.dT (uy [])) hD;generalize upd H3 D (.dT (uy []))=H4 at s4⊢;have s24:aO H2 H4:=s3.trans s4;have hS4:=s24.seq hS2;cbv;intro E2 hE2;refine bO (K:=K) (a:=a) (xs:=[]) (λi σ A=>aO H4 A/\A E2=Ya (.lst [])) ⟨aF hE2,aB⟩ (λi σ A _ z=>z.1.seq hS4) (λi x σ A hx=>by simp at hx) ?_;rintro σ H5 ⟨s5,gE2⟩;have g0:bI K H5 E2 (([]:List Int).map V.int):=bI.of gE2;refine⟨E2,[],rfl,g0,YZ _,λq ks hq nd mem=>?_⟩;obtain rfl:ks=[]:=by
  cases ks with
  |nil=>rfl
  |cons k ks=>exact nomatch (mem k).mp Yl
 refine⟨q,[],rfl,aB,.nil,by decide,λcl ns hcl pm _=>?_⟩;obtain rfl:ns=[]:=we.mp pm;generalize agc _ _ q []=so' at hcl⊢;have s56:=aF (o:=so') hq;have s6:=aF (o:=.lst (([]:List Int).map V.int)) hcl;have g6:(upd (upd H5 q so') cl (.lst (([]:List Int).map V.int))) cl=Ya (.lst []):=aB;generalize upd (upd H5 q so') cl (.lst (([]:List Int).map V.int))=H6 at s6 g6⊢;have s46:aO H4 H6:=s5.trans (s56.trans s6);cbv;intro l H7 hl s7 g7;have s27:aO H2 H7:=s24.trans (s46.trans s7);have s07:=s02.trans s27;have gr7:=s27 _ _ g2;have hP7:bI K H7 b []∨cN K H7 b []:=hP.imp (λz=>s07.seq z) λz=>Bs s07 z;have gc7:=s7 _ _ g6;cbv;refine⟨b,r,rfl,hP7,?_⟩;cbv;refine⟨b,rfl,hP7,?_⟩;cbv;refine⟨cl,_,_,_,rfl,bI.of gc7,?_⟩;cbv;refine⟨λM σ H'=>σ=[Ya (.ref d),Ya (.ref a),Ya (.ref b),Ya (.ref r),Ya (.ref D),Ya (.ref cl),Ya (.ref l),Ya (.int 0),Ya .non]/\H'=H7,⟨0,rfl,rfl⟩,?_⟩;rintro M σ H' ⟨rfl,rfl⟩;cbv;rw[show decide (V.non=V.non)=true from decide_eq_true rfl];cbv;intro t H8 ht s8 g8;exact kk H8 t l r (s07.trans s8) (s02.free (s24.free (s46.free hl))) (s1.free hr) g8 (s8 _ _ g7) (s8 _ _ gr7)
def xZ(K:Ye):Sp:=λvs H Q _=>E2 fun(a:Yc) (y:V)=>vs=[.ref a,y]/\(bI K H a []/\∀H',aO H H'->Q .non H')
abbrev Vj:List Yj:=["calls","counts"]
theorem Lf:aD ["calls","counts"] Vj (aA rG):=gF
variable(abO:mg "min"=Yb)
include eV Cj qD abO in
theorem KQ(F:bW K "least_asking" "least_asking" rG f fd):∅ 3 f fd Vj (xZ K):=by
 refine F.oj Lf ?_;rintro _ A _ _ H _ _ E hr hu64 _ _ ⟨a,y,rfl,h⟩;refine⟨_,(aq (aR (acD (K:=K) rfl rfl (hV (lP (by decide) _) hu64) (aj (cu ["counts","call"] [Ya 1,Yb] rfl rfl (by kernel_rfl) (bC (K:=K) rfl (pv 0)) (λ_ _ _ _ _ nd=>aW (i:=1) nd rfl (Or.inl rfl)) (λ_ _ _ _ _=>(jL By)) (λ_ _ _ _ _=>fJ)) ao) bV (by rfl) abO Cj qD.mg qD.bd (by rfl) hr))),?_⟩;obtain⟨hS,kk⟩:=h;cbv;intro E hE;refine bO (K:=K) (a:=a) (xs:=[]) (λi σ A=>aO H A/\A E=Ya (.lst [])) ⟨aF hE,aB⟩ (λi σ A _ z=>z.1.seq hS) (λi x σ A hx=>by simp at hx) ?_;rintro σ A ⟨sA,gE⟩;cbv;refine⟨E,[],[],rfl,bI.of gE,rfl,(λx hx=>nomatch hx),(λi x k H3 Q' hx=>by simp at hx),λ_=>kk A sA,λi v kb H' hv=>by simp at hv⟩
def Rj(K:Ye):Sp:=λvs H Q _=>E3 fun(d a b:Yc)=>vs=[.ref d,.ref a,.ref b]/\(A4 (H d=Ya (.dK [])) (bI K H a []) ((bI K H b []∨cN K H b [])) (∀H' t l g,aO H H'->H l=Yb->H g=Yb->H' t=Ya (.tup [.ref l,.ref g])->H' l=Ya (.lst [])->H' g=Ya (.lst [])->Q (.ref t) H'))
theorem qF:aD ["counts","calls","places","given","told","row","call"] Bm (aA Mf):=gF
variable{ae3:Yc}{zZ:Yc}{aaW:Yt}{yj:Yt}(ail:∅ 3 ae3 aaW Bm (aa6 K))(VN:gW K mg "run" ae3 aaW Bm)(qW:∅ 3 zZ yj Vj (xZ K))(qN:gW K mg "least_asking" zZ yj Vj)
include eV ail VN qW qN fK in
theorem adn(F:bW K "placed" "placed" Mf f fd):∅ 4 f fd Bm (Rj K):=by
 refine F.oj qF ?_;rintro _ _ _ _ H _ _ _ hr _ _ hu ⟨d,a,b,rfl,h⟩;refine⟨_,(ak (aV (i:=3) qF.nd rfl (Or.inl rfl) (bZ (Nk (K:=K) rfl) (by rfl) fK d6 (aj (pv 2) ao)))
   (ak (aV (i:=4) qF.nd rfl (Or.inl rfl) (bh ail VN hr (aj (pv 0) (aj (pv 1) (aj (pv 3) ao)))))
   (ak (aV (i:=5) qF.nd rfl (Or.inl rfl) (bf (aN (K:=K) rfl) (pv 4) aC (λ_ _=>rfl)))
   (ak (aV (i:=6) qF.nd rfl (Or.inl rfl) (bh qW qN hr (aj (pv 1) (aj (bf (aN (K:=K) rfl) (pv 4) aC (λ_ _=>rfl)) ao))))
   (ak (Ng Y8 (aX nQ (pv 6) bV (bc _))
   (ak cz
   (ak cz
   (ak cz
   (aq (aV (i:=6) qF.nd rfl (Or.inl rfl) (bh qW qN hr (aj (pv 1) (aj (bf (aN (K:=K) rfl) (pv 4) aC (λ_ _=>rfl)) ao)))))))))
   (aq (aR (eY (aj (pv 5) (aj (pv 3) ao)))))))))),?_⟩
 refine xl6 ?_;intro _ _ _ _;obtain⟨hd,hS,hP,kk⟩:=h;cbv;refine⟨b,[],rfl,hP,λg0 hg0=>?_⟩;have s1:=aF (o:=.lst []) hg0;have g1:(upd H g0 (.lst [])) g0=Ya (.lst []):=aB;generalize upd H g0 (.lst [])=H1 at s1 g1⊢;have hd1:=s1 _ _ hd;have hS1:=s1.seq hS;cbv;refine⟨d,a,g0,rfl,hd1,hS1,.inl (bI.of g1),λH2 t l r s2 hl hr gt gl gr=>?_⟩;have gT:cN K H2 t [.ref l,.ref r]:=cN.of gt;have hS2:=s2.seq hS1;cbv;refine⟨a,.ref r,rfl,hS2,λH3 s3=>?_⟩;have s03:=s1.trans (s2.trans s3);cbv;refine⟨λM σ H'=>σ=[Ya (.ref d),Ya (.ref a),Ya (.ref b),Ya (.ref g0),Ya (.ref t),Ya (.ref l),Ya .non]/\H'=H3,⟨0,rfl,rfl⟩,?_⟩;rintro M σ H' ⟨rfl,rfl⟩;cbv;rw[show decide (V.non=V.non)=true from decide_eq_true rfl];cbv;intro u H8 hu s8 g8;exact kk H8 u l g0 (s03.trans s8) (s1.free hl) hg0 g8 (s8 _ _ (s3 _ _ gl)) (s8 _ _ (s3 _ _ (s2 _ _ g1)))
def RtA(H:Hp)(v:V)(r:Rt):Prop:=∃t e1 e2 e3,v=.ref t/\H t=Ya (.tup [.int r.1,.ref e1,.ref e2,.ref e3,.bl r.2])/\H e1=Ya (.tup [])/\H e2=Ya (.tup [])/\H e3=Ya (.tup [])
theorem RtA.up(s:j4 H H'){v:V}{r:Rt}(h:RtA H v r):RtA H' v r:=by
 obtain⟨t,e1,e2,e3,e,g1,g2,g3,g4⟩:=h;exact⟨t,e1,e2,e3,e,s _ _ g1,s _ _ g2,s _ _ g3,s _ _ g4⟩
theorem SM{n:Nat}{v:V}(h:Pl H n v (.tuple [])):∃e,v=.ref e/\H e=Ya (.tup []):=by
 cases h with
 |tup e l hs=>
  cases hs;exact⟨_,rfl,e⟩
theorem Ti{n:Nat}{e:Yc}(h:H e=Ya (.tup [])):Pl H (n+ 1) (.ref e) (.tuple []):=.tup h (YZ _) .nil
theorem aiq{v:V}{r:Rt}(h:RtA H v r):Pl H 2 v (rtD r):=by
 obtain⟨t,e1,e2,e3,rfl,g1,g2,g3,g4⟩:=h;exact .tup g1 (by show 5<=10;decide) (.cons (.int _) (.cons (Ti g2) (.cons (Ti g3) (.cons (Ti g4) (.cons (.bl _) .nil)))))
theorem alR{n:Nat}{v:V}{r:Rt}(h:Pl H n v (rtD r)):RtA H v r:=by
 unfold rtD at h;cases h with
 |tup e l hs=>
  cases hs with
  |cons h1 t1=>
   cases t1 with
   |cons h2 t2=>
    cases t2 with
    |cons h3 t3=>
     cases t3 with
     |cons h4 t4=>
      cases t4 with
      |cons h5 t5=>
       cases t5;cases h1;cases h5;obtain⟨e1,rfl,g1⟩:=SM h2;obtain⟨e2,rfl,g2⟩:=SM h3;obtain⟨e3,rfl,g3⟩:=SM h4;exact⟨_,e1,e2,e3,rfl,e,g1,g2,g3⟩
def Uq(H:Hp)(v:V)(p:Pn):Prop:=∃t e,v=.ref t/\H t=Ya (.tup [.int p.1,.int p.2.1,.int p.2.2,.ref e])/\H e=Ya (.tup [])
theorem Uq.up(s:j4 H H'){v:V}{p:Pn}(h:Uq H v p):Uq H' v p:=by
 obtain⟨t,e,e1,g1,g2⟩:=h;exact⟨t,e,e1,s _ _ g1,s _ _ g2⟩
theorem aif{v:V}{p:Pn}(h:Uq H v p):Pl H 2 v (plD p):=by
 obtain⟨t,e,rfl,g1,g2⟩:=h;exact .tup g1 (by show 4<=10;decide) (.cons (.int _) (.cons (.int _) (.cons (.int _) (.cons (Ti g2) .nil))))
theorem aih{n:Nat}{v:V}{p:Pn}(h:Pl H n v (plD p)):Uq H v p:=by
 unfold plD at h;cases h with
 |tup e l hs=>
  cases hs with
  |cons h1 t1=>
   cases t1 with
   |cons h2 t2=>
    cases t2 with
    |cons h3 t3=>
     cases t3 with
     |cons h4 t4=>
      cases t4;cases h1;cases h2;cases h3;obtain⟨e1,rfl,g1⟩:=SM h4;exact⟨_,e1,rfl,e,g1⟩
abbrev Vu(H:Hp):List V->List Rt->Prop:=d3 (RtA H)
theorem Fy(s:j4 H H'){xs:List V}{rs:List Rt}(h:Vu H xs rs):Vu H' xs rs:=d3.mapP h λ_ _ z=>z.up s
def Oq(K:Ye):Sp:=λvs H Q _=>∃(a:Yc),vs=[.ref a]/\(E2 λxs rs=>A3 (bI K H a xs) (Vu H xs rs) (∀H' d,aO H H'->H d=Yb->H' d=Ya (.dK [])->Q (.ref d) H'))
abbrev BJ:List Yj:=["reports"]
theorem xH:aD ["reports","base","report"] BJ (aA Jw):=gF
variable(Ei:∅ 2 FW Bp Qx (Aw K))
include eV Ei mX vR v9 in
theorem aaQ(F:bW K "base_of" "base_of" Jw f fd):∅ 3 f fd BJ (Oq K):=by
 refine F.oj xH ?_;rintro _ A _ _ H _ _ _ hr _ _ _ ⟨a,rfl,h⟩;refine⟨_,(ak (aV (i:=1) xH.nd rfl (Or.inl rfl) sG)
   (ak (jc Y8 rfl (bC (K:=K) rfl (pv 0)) (aW (i:=2) xH.nd rfl (Or.inl rfl))
   (aq (aV (i:=1) xH.nd rfl (Or.inl rfl) (bh vR v9 hr (aj (pv 1) (aj (bh Ei mX hr (aj (bf (aN (K:=K) rfl) (pv 2) aC (λ_ _=>rfl)) ao)) ao))))))
   (aq (aR (pv 1))))),?_⟩
 refine XM ?_;intro _;obtain⟨xs,rs,hS,hx,kk⟩:=h;cbv;intro d H1 hd s1 g1;have hS1:=s1.seq hS;cbv;let jJ2:Nat->St->Hp->Prop:=λi σ A=>E2 λv2 d=>A4 (σ=[Ya (.ref a),Ya (.ref d),v2]) (aO H A) (H d=Yb) (A d=Ya (.dK []));refine gf (xs:=xs) jJ2 ⟨Yb,d,rfl,s1,hd,g1⟩ (λi σ A _ z=>by obtain⟨_,_,_,z,_⟩:=z;exact z.seq hS) ?_ ?_
 ·rintro i x σ A hxi ⟨v2,d,rfl,sA,hd,gd⟩;obtain⟨r,hr,t,e1,e2,e3,rfl,g1,g2,g3,g4⟩:=gR hx hxi;have f1:=cN.of (K:=K) (sA _ _ g1);have a1:lH [V.int r.1,.ref e1,.ref e2,.ref e3,.bl r.2] 1=Ya (.ref e1):=by kernel_rfl
  cbv;refine⟨e1,rfl,.inr (cN.of (sA _ _ g2)),λA1 q s1' hq g1'=>?_⟩;have gd1:=s1' _ _ gd;cbv;exact⟨d,q,rfl,gd1,g1',λA2 q2 s2 hq2 g2=>⟨_,q2,rfl,sA.trans (s1'.trans s2),(sA.trans s1').free hq2,g2⟩⟩
 rintro σ A ⟨v2,d,rfl,sA,hd,gd⟩;cbv;exact kk A d sA hd gd
def GR(K:Ye):Sp:=λvs H Q _=>∃(a:Yc),vs=[.ref a]/\(E2 λxs rs=>A4 (bI K H a xs) (Vu H xs rs) (rs.length<=64) (∀H' w,aO H H'->H' w=Ya (.tup [])->Q (.ref w) H'))
theorem abA{K:Ye}{H:Hp}:∀{xs:List V},(∀x∈xs,∃w,x=.ref w/\H w=Ya (.tup []))->TLs K H xs (xs.map λ_=>0)
 |[],_=>.nil
 |x::xs,h=>by
  obtain⟨w,e,g⟩:=h x Yl;exact .cons ⟨w,[],e,cN.of g,rfl⟩ (abA λy hy=>h y (Yk _ hy))
theorem Ug:aD ["reports"] BJ (aA Am):=gF
variable(Qz:mg "max"=Yb)
include eV iD Qz dw in
theorem SQ(F:bW K "places_of" "places_of" Am f fd):∅ 1 f fd BJ (GR K):=by
 refine F.oj Ug ?_;rintro _ A _ _ H _ _ E hr _ _ _ ⟨a,rfl,h⟩;refine⟨_,(aq (aR (bZ (fj (K:=K) rfl) (by rfl) dw bE (aj (adb (K:=K) rfl rfl (aj (cu ["report"] [Yb] rfl rfl (by kernel_rfl) (bC (K:=K) rfl (pv 0)) (λ_ _ _ _ _ nd=>aW (i:=0) nd rfl (Or.inl rfl)) (λ_ _ _ _ _=>dB) (λ_ _ _ _ _=>(bf (aN (K:=K) rfl) (pv 0) aC (λ_ _=>rfl)))) ao) (eY ao) (by rfl) Qz (by rfl) iD) ao)))),?_⟩;obtain⟨xs,rs,hS,hx,hl,kk⟩:=h;have lx:xs.length=rs.length:=bS hx;cbv;intro E hE;refine bO (K:=K) (a:=a) (xs:=xs) (λi σ A=>E2 λv zs=>A5 (σ=[v]) (aO H A) (A E=Ya (.lst zs)) (zs.length=i) (∀z∈zs,∃w,z=.ref w/\H w=Ya (.tup []))) ⟨Yb,[],rfl,aF hE,aB,rfl,(λz hz=>nomatch hz)⟩ ?_ ?_ ?_
 ·rintro i σ A _ ⟨_,_,_,z,_⟩;exact z.seq hS
 ·rintro i x σ A hxi ⟨v,zs,rfl,sA,hEx,lz,pz⟩;obtain⟨r,hr,t,e1,e2,e3,rfl,g1,g2,g3,g4⟩:=gR hx hxi;have hi:=(Yp.mp hr).1;have f1:=cN.of (K:=K) (sA _ _ g1);have a1:lH [V.int r.1,.ref e1,.ref e2,.ref e3,.bl r.2] 3=Ya (.ref e3):=by kernel_rfl
  cbv;refine⟨zs,hEx,aU (by omega),_,zs++[.ref e3],rfl,λb o z=>?_,aB,by rw[YG,lz];rfl,λz hz=>?_⟩
  ·rw[aK (aP z hE)];exact sA b o z
  ·rcases ai.mp hz with w|w
   ·exact pz z w
   ·exact⟨e3,Yy.mp w,g4⟩
 rintro σ A ⟨v,zs,rfl,sA,hEx,lz,pz⟩;cbv;intro z0 A1 hz s1 g1;have s01:=sA.trans s1;refine⟨E,zs,_,rfl,bI.of (s1 _ _ hEx),abA λz hz=>by obtain⟨w,e,g⟩:=pz z hz;exact⟨w,e,s01 _ _ g⟩,λe=>?_,λi v n hv hn best=>?_⟩
 ·cbv;exact⟨z0,_,rfl,.inr ⟨cN.of g1,kk A1 z0 s01 g1⟩⟩
 ·obtain⟨w,rfl,g⟩:=pz v (YE hv);cbv;exact⟨w,_,rfl,.inr ⟨cN.of (s01 _ _ g),kk A1 w s01 (s01 _ _ g)⟩⟩
def yJ(K:Ye):Sp:=λvs H Q _=>E2 fun(x:V) (a:Yc)=>vs=[x,.ref a]/\(E2 λxs rs=>A3 (bI K H a xs) (Vu H xs rs) (∀H' l,aO H H'->H l=Yb->H' l=Ya (.lst [])->Q (.ref l) H'))
abbrev XF:List Yj:=["base","reports"]
theorem jP:aD ["base","reports","calls","report","told","call"] XF (aA qK):=gF
include eV fK in
theorem K3(F:bW K "calls_beyond" "calls_beyond" qK f fd):∅ 1 f fd XF (yJ K):=by
 refine F.oj jP ?_;rintro _ A _ _ H _ _ _ hr _ _ _ ⟨x,a,rfl,h⟩;refine⟨_,(ak (aV (i:=2) jP.nd rfl (Or.inl rfl) WY)
   (ak (jc Y8 rfl (bC (K:=K) rfl (pv 1)) (aW (i:=3) jP.nd rfl (Or.inl rfl))
   (aq (jc Y8 rfl (Cm (K:=K) rfl (bf (aN (K:=K) rfl) (pv 3) aC (λ_ _=>rfl))) (aW (i:=4) jP.nd rfl (Or.inl rfl))
   (ak cz
   (aq cz)))))
   (aq (aR (bZ (Km rfl) (by rfl) fK d6 (aj (RQ gi fA lj Wy (pv 2)) ao)))))),?_⟩
 refine XM ?_;intro _;obtain⟨xs,rs,hS,hx,kk⟩:=h;cbv;intro d hd;have s1:=aF (o:=.dT []) hd;have g1:(upd H d (.dT [])) d=Ya (.dT []):=aB;generalize upd H d (.dT [])=H1 at s1 g1⊢;have hS1:=s1.seq hS;cbv;refine gf (xs:=xs) (λi σ A=>H1=A/\∃v2,σ=[Ya x,Ya (.ref a),Ya (.ref d),v2,Yb,Yb]) ⟨rfl,Yb,rfl⟩ (λi σ A _ z=>by rw[←z.1];exact hS1) ?_ ?_
 ·rintro i x' σ _ hxi ⟨rfl,v2,rfl⟩;obtain⟨r,hr,t,e1,e2,e3,rfl,g1',g2,g3,g4⟩:=gR hx hxi;have f1:=cN.of (K:=K) (s1 _ _ g1');have f2:=cN.of (K:=K) (s1 _ _ g3);have a1:lH [V.int r.1,.ref e1,.ref e2,.ref e3,.bl r.2] 2=Ya (.ref e2):=by kernel_rfl
  cbv;let jJ3:Nat->St->Hp->Prop:=λi σ A=>H1=A/\σ=[Ya x,Ya (.ref a),Ya (.ref d),Ya (.ref t),Yb,Yb];refine Sd (K:=K) (a:=e2) (xs:=[]) jJ3 ⟨rfl,rfl⟩ (λi σ A _ z=>by rw[←z.1];exact f2) (λi x σ A hx=>by simp at hx) ?_;rintro σ _ ⟨rfl,rfl⟩;exact⟨rfl,_,rfl⟩
 rintro σ _ ⟨rfl,v2,rfl⟩;cbv;refine⟨.inr (.inr (.inl ⟨rfl,.inr ⟨_,g1⟩⟩)),d,_,rfl,rfl,g1,λv hv=>?_⟩;have s2:=aF (o:=Ur v d) hv;have g2:(upd H1 v (Ur v d)) v=Ya (Ur v d):=aB;generalize upd H1 v (Ur v d)=H2 at s2 g2⊢;cbv;refine⟨v,d,_,rfl,g2,.inl (s2 _ _ g1),YZ _,λl hl'=>?_⟩;exact kk _ l (s1.trans (s2.trans (aF hl'))) (s1.free (s2.free hl')) aB
noncomputable def Et(ns:List Int):Int:=((ns.foldl (λn h=>n ||| 2^h.toNat) 0:Nat):Int)
theorem Cy:∀(ns:List Int) (n i:Nat),(ns.foldl (λn (h:Int)=>n ||| 2^h.toNat) n).testBit i=(n.testBit i||ns.any λh=>decide (h.toNat=i))
 |[],n,i=>by simp
 |h::ns,n,i=>by
  rw[kg,Cy ns _ i,rj,l5,kC,G0]
theorem Ig(s:fH n ns)(rg:∀h∈ns,0<=h):n=Et ns:=by
 have:n.toNat=ns.foldl (λn (h:Int)=>n ||| 2^h.toNat) 0:=by
  apply oB;intro i;rw[Cy,cE,iX,eD,s.2.2 i,eR];constructor
  ·intro h;exact⟨_,h,decide_eq_true (YA i)⟩
  ·rintro⟨h,hh,e⟩;have e:=of_decide_eq_true e;have:=rg h hh;rwa [show(i:Int)=h by omega]
 unfold Et;rw[←this];have:=s.1;omega
noncomputable def plF(me ha:Int)(rs:List Rt)(wi:Int):Pn:=(Et (rs.map (·.1)),YD (YD (Et ((rs.filter λr=>!r.2).map (·.1))) (2^me.toNat)) (Yz wi (Yw ha)),Yz wi (Yw ha))
def uY(K:Ye):Sp:=λvs H Q _=>E4 fun(me ha:Int) (a:Yc) (wi:Int)=>vs=[.int me,.int ha,.ref a,.int wi]/\(E2 λxs rs=>A7 (bI K H a xs) (Vu H xs rs) (rs.length<=64) ((∀r∈rs,0<=r.1/\r.1<63)) (0<=me) (me<63) (∀H' v,aO H H'->Uq H' v (plF me ha rs wi)->Q v H'))
abbrev Wa:List Yj:=["me","hands","reports","wishes"]
theorem iI:aD ["me","hands","reports","wishes","base","row","on","staying","new"] Wa (aA xJ):=gF
variable{V4:Yc}{QB:Yc}{Ky:Yc}{zK:Yc}{Rk:Yt}{NT:Yt}{Ja:Yt}{yq:Yt}(Kw:∅ 4 wJ qH Th (qC K))(Bv:∅ 4 Mw JB uB (JX K))(Ii:∅ 4 V4 Rk Bm (Rj K))(GF:gW K mg "placed" V4 Rk Bm)(Q5:∅ 4 QB NT BJ (Oq K))(Qs:gW K mg "base_of" QB NT BJ)(KJ:∅ 4 Ky Ja BJ (GR K))(Ku:gW K mg "places_of" Ky Ja BJ)(Bt:∅ 4 zK yq XF (yJ K))(zL:gW K mg "calls_beyond" zK yq XF)
include eV Kw fW Bv Bk Ii GF Q5 Qs KJ Ku Bt zL dw in
theorem P0(F:bW K "first_plan" "first_plan" xJ f fd):∅ 5 f fd Wa (uY K):=by
 refine F.oj iI ?_;rintro _ A _ _ H _ _ E hr _ _ _ ⟨me,ha,a,wi,rfl,h⟩;refine⟨_,(ak (aV (i:=4) iI.nd rfl (Or.inl rfl) (bh Q5 Qs hr (aj (pv 2) ao)))
   (ak (aV (i:=5) iI.nd rfl (Or.inl rfl) (bf (aN (K:=K) rfl) (bh Ii GF hr (aj (pv 4) (aj (bh Bt zL hr (aj (pv 4) (aj (pv 2) ao))) (aj (bh KJ Ku hr (aj (pv 2) ao)) ao)))) aC (λ_ _=>rfl)))
   (ak (aV (i:=6) iI.nd rfl (Or.inl rfl) (bh Bv Bk hr (aj (cu ["report"] [Yb] rfl rfl (by kernel_rfl) (bC (K:=K) rfl (pv 2)) (λ_ _ _ _ _ nd=>aW (i:=0) nd rfl (Or.inl rfl)) (λ_ _ _ _ _=>dB) (λ_ _ _ _ _=>(bf (aN (K:=K) rfl) (pv 0) aC (λ_ _=>rfl)))) ao)))
   (ak (aV (i:=7) iI.nd rfl (Or.inl rfl) (bh Bv Bk hr (aj (cu ["report"] [Yb] rfl rfl (by kernel_rfl) (bC (K:=K) rfl (pv 2)) (λ_ _ _ _ _ nd=>aW (i:=0) nd rfl (Or.inl rfl)) (λ_ _ _ _ _=>(jL (Bh (agk (bf (aN (K:=K) rfl) (pv 0) aC (λ_ _=>rfl)))))) (λ_ _ _ _ _=>(bf (aN (K:=K) rfl) (pv 0) aC (λ_ _=>rfl)))) ao)))
   (ak (aV (i:=8) iI.nd rfl (Or.inl rfl) (bL Ay (pv 3) (Ri JK (pv 1))))
   (aq (aR (eY (aj (pv 6) (aj (bL NK (bL NK (pv 7) (bh Kw fW hr (aj (pv 0) ao))) (pv 8)) (aj (pv 8) (aj (bZ (fj (K:=K) rfl) (by rfl) dw bE (aj (cu ["call"] [Yb] rfl rfl (by kernel_rfl) (bC (K:=K) rfl (pv 5)) (λ_ _ _ _ _ nd=>aW (i:=0) nd rfl (Or.inl rfl)) (λ_ _ _ _ _=>dB) (λ_ _ _ _ _=>fJ)) ao)) ao)))))))))))),?_⟩
 refine xl6 ?_;intro _ _ _ _;obtain⟨xs,rs,hS,hx,hl,rg,m0,m1,kk⟩:=h;have lx:xs.length=rs.length:=bS hx;cbv;refine⟨a,rfl,xs,rs,hS,hx,λH1 d s1 hd g1=>?_⟩;have hS1:=s1.seq hS;have hx1:=Fy (j4.same s1) hx;cbv;refine⟨.ref d,a,rfl,xs,rs,hS1,hx1,λH2 l s2 hl2 g2=>?_⟩;have hS2:=s2.seq hS1;have hx2:=Fy (j4.same s2) hx1;cbv;refine⟨a,rfl,xs,rs,hS2,hx2,hl,λH3 w s3 g3=>?_⟩;have gd3:=s3 _ _ (s2 _ _ g1);cbv;refine⟨d,l,w,rfl,gd3,bI.of (s3 _ _ g2),.inr (cN.of g3),λH4 t l4 g s4 hl4 hg gt gl4 gg=>?_⟩;have gT:cN K H4 t [.ref l4,.ref g]:=cN.of gt;have s04:aO H H4:=s1.trans (s2.trans (s3.trans s4));have hS4:=s04.seq hS;have hx4:=Fy (j4.same s04) hx;cbv;intro E hE;refine bO (K:=K) (a:=a) (xs:=xs) (λi σ A=>∃v,A3 (σ=[v]) (aO H4 A) (A E=Ya (.lst (((rs.take i).map (·.1)).map V.int)))) ⟨Yb,rfl,aF hE,aB⟩ (λi σ A _ z=>by obtain⟨_,_,z,_⟩:=z;exact z.seq hS4) ?_ ?_
 ·rintro i x σ A hxi ⟨v,rfl,sA,gE⟩;obtain⟨r,hr,t',e1,e2,e3,rfl,q1,q2,q3,q4⟩:=gR hx4 hxi;have hi:=(Yp.mp hr).1;have f1:=cN.of (K:=K) (sA _ _ q1);have a1:lH [V.int r.1,.ref e1,.ref e2,.ref e3,.bl r.2] 0=Ya (.int r.1):=by kernel_rfl
  cbv;refine⟨_,gE,?_,_,rfl,λb o z=>?_,?_⟩
  ·rw[Yi,Yi,ae];exact aU (by omega)
  ·rw[aK (aP z hE)];exact sA b o z
  ·rw[aB,eN hr,YK,YK];rfl
 rintro σ H5 ⟨v,rfl,s5,gE⟩;rw[lx,Y5]at gE;have hS5:=s5.seq hS4;have hx5:=Fy (j4.same s5) hx4;have gt5:=s5 _ _ gl4;refine⟨E,rfl,rs.map (·.1),bI.of gE,λx hx=>?_,λn ns=>?_⟩
 ·obtain⟨r,hr,rfl⟩:=YF.mp hx;exact rg r hr
 obtain rfl:=Ig ns λx hx=>by
  obtain⟨r,hr,rfl⟩:=YF.mp hx;exact(rg r hr).1
 cbv;intro E2 hE2;refine bO (K:=K) (a:=a) (xs:=xs) (λi σ A=>∃v,A3 (σ=[v]) (aO H5 A) (A E2=Ya (.lst ((((rs.take i).filter λr=>!r.2).map (·.1)).map V.int)))) ⟨Yb,rfl,aF hE2,aB⟩ (λi σ A _ z=>by obtain⟨_,_,z,_⟩:=z;exact z.seq hS5) ?_ ?_
 ·rintro i x σ A hxi ⟨v,rfl,sA,gE⟩;obtain⟨r,hr,t',e1,e2,e3,rfl,q1,q2,q3,q4⟩:=gR hx5 hxi;have hi:=(Yp.mp hr).1;have f1:=cN.of (K:=K) (sA _ _ q1);have a1:lH [V.int r.1,.ref e1,.ref e2,.ref e3,.bl r.2] 4=Ya (.bl r.2):=by kernel_rfl
  have a0:lH [V.int r.1,.ref e1,.ref e2,.ref e3,.bl r.2] 0=Ya (.int r.1):=by kernel_rfl
  have lf:=nE (λr:Rt=>!r.2) (rs.take i);rw[ae]at lf;rw[eN hr,mB];cbv;refine d9 (λz=>?_) λz=>?_
  ·cbv;refine⟨_,gE,?_,_,rfl,λb o z=>?_,?_⟩
   ·rw[Yi,Yi];exact aU (by omega)
   ·rw[aK (aP z hE2)];exact sA b o z
   ·rw[aB,mf (p:=λr:Rt=>!r.2) (a:=r) z,YK,YK];rfl
  ·refine⟨_,rfl,sA,?_⟩;rw[mh (p:=λr:Rt=>!r.2) (a:=r) z,List.filter_nil,cy];exact gE
 rintro σ H6 ⟨v,rfl,s6,gE2⟩;rw[lx,Y5]at gE2;refine⟨E2,rfl,_,bI.of gE2,λx hx=>?_,λn2 ns2=>?_⟩
 ·obtain⟨r,hr,rfl⟩:=YF.mp hx;exact rg r (cc.mp hr).1
 obtain rfl:=Ig ns2 λx hx=>by
  obtain⟨r,hr,rfl⟩:=YF.mp hx;exact(rg r (cc.mp hr).1).1
 have gl6:bI K H6 l4 []:=bI.of (s6 _ _ gt5);cbv;refine⟨me,rfl,m0,by omega,?_⟩;cbv;intro E3 hE3;refine bO (K:=K) (a:=l4) (xs:=[]) (λi σ A=>aO H6 A/\A E3=Ya (.lst [])) ⟨aF hE3,aB⟩ (λi σ A _ z=>z.1.seq gl6) (λi x σ A hx=>by simp at hx) ?_;rintro σ H7 ⟨s7,gE3⟩;have gE3':bI K H7 E3 []:=bI.of gE3;cbv;intro e H8 he s8 g8;cbv;intro u H9 hu' s9 g9;exact kk H9 (.ref u) (s04.trans (s5.trans (s6.trans (s7.trans (s8.trans s9))))) ⟨u,e,rfl,g9,s9 _ _ g8⟩
def Fj(K:Ye)(v1 v2 v3:V):Sp:=λvs H Q _=>∃(a:Yc),vs=[.ref a]/\(E12 λwi p ha C dx me x2 x3 x4 x5 x6 x7=>E9 λx8 x9 x10 x11 x12 x13 x14 xs rs=>A12 (v1=.int wi) (v2=.ref p) (v3=.int ha) (Qn K C) (H p=Ya (.ins C dx (nJ (.int me) x2 x3 x4 x5 x6 x7 x8 x9 x10 x11 x12 x13 x14))) (bI K H a xs) (Vu H xs rs) (rs.length<=64) ((∀r∈rs,0<=r.1/\r.1<63)) (0<=me) (me<63) (∀H' v,aO H H'->Uq H' v (plF me ha rs wi)->Q v H'))
noncomputable abbrev cV:YY:=alL (amI (bF (gn 71) 15) 3) 1
theorem Ex:ScM ["reports","wishes","self","hands"] ["reports"] ["wishes","self","hands"] (Ou cV):=⟨rfl,rfl,rfl,by decide +kernel,rfl,by decide +kernel,by decide +kernel,by decide +kernel,by decide +kernel⟩
noncomputable abbrev qL(c1 c2 c3:Yc)(pm ctv:Yd)(c':Yc):Y3:=kr "<lambda>" "Hand.settle.<locals>.<lambda>" (abl cV) (acv cV) (Ou cV) [("wishes",c1),("self",c2),("hands",c3)] pm c' ctv
abbrev jT(K:Ye)(mg:Yj->Option Yd)(f c' c1 c2 c3:Yc)(pm ctv:Yd)(v1 v2 v3:V):Sp:=spF f c' (qL c1 c2 c3 pm ctv c') "Hand.settle.<locals>.<lambda>" [("wishes",c1),("self",c2),("hands",c3)] [v1,v2,v3] (Fj K v1 v2 v3)
variable{c':Yc}{c1:Yc}{c2:Yc}{c3:Yc}{ctv:Yd}{v1:V}{v2:V}{v3:V}(ne:c1≠c2/\c1≠c3/\c2≠c3)(qt:∅ 5 qg nZ Wa (uY K))(qx:gW K mg "first_plan" qg nZ Wa)
include eV ne qt qx in
theorem Ey:∅ 6 f (Bi "<lambda>" "Hand.settle.<locals>.<lambda>" (abl cV) (acv cV) (Ou cV) [("wishes",c1),("self",c2),("hands",c3)] pm (.ref c') ctv) BJ (jT K mg f c' c1 c2 c3 pm ctv v1 v2 v3):=by
 refine akO Ex (by simp[ne]) (λvs H Q E h=>?_) (λA outer s H vs Q E hr h=>?_)
 ·obtain⟨a,rfl,_⟩:=h;rfl
 obtain⟨a,rfl,h⟩:=h;have hu64:=hr.units;have hu0:=hr.units0;have hu:=Ot hr;refine⟨_,(bh qt qx hr (aj (au (K:=K) rfl (pv 2) rfl) (aj (pv 3) (aj (pv 0) (aj (pv 1) ao))))),?_⟩;generalize K8 _ H=H0 at h⊢;obtain⟨wi,p,ha,C,dx,me,x2,x3,x4,x5,x6,x7,x8,x9,x10,x11,x12,x13,x14,xs,rs,rfl,rfl,rfl,T,hp,hS,hx,hl,rg,m0,m1,kk⟩:=h;obtain⟨cl,n1,n2,n3,n4,n5,n6,n7,n8,n9,n10,n11,n12,n13,n14⟩:=id T;cbv;exact⟨me,ha,a,wi,rfl,xs,rs,hS,hx,hl,rg,m0,m1,kk⟩
def OKs(K:Ye)(mg:Yj->Option Yd)(f:Yc)(sp:Sp):Prop:=∃c' c1 c2 c3 pm ctv v1 v2 v3,(c1≠c2/\c1≠c3/\c2≠c3)/\sp=jT K mg f c' c1 c2 c3 pm ctv v1 v2 v3
noncomputable abbrev PQ(c1 c2 c3:Yc):List (Yj×Yc):=[("wishes",c1),("self",c2),("hands",c3)]
def MkF(H:Hp)(f:Yc)(wi:Int)(p:Yc)(ha:Int):Prop:=∃c' c1 c2 c3 pm ctv,(c1≠c2/\c1≠c3/\c2≠c3)/\H f=Ya (FnO f (qL c1 c2 c3 pm ctv c'))/\H c'=Ya (CdO c' "Hand.settle.<locals>.<lambda>")/\jO H (PQ c1 c2 c3) [.int wi,.ref p,.int ha]
theorem MkF.same{p:Yc}{wi:Int}(x:MkF H f wi p ha)(s:aO H H'):MkF H' f wi p ha:=by
 obtain⟨c',c1,c2,c3,pm,ctv,ne,e1,e2,e3⟩:=x;exact⟨c',c1,c2,c3,pm,ctv,ne,s _ _ e1,s _ _ e2,e3.up s⟩
theorem ad4{m:List (Int×V)}{k:Int}(h:k∈m.map (·.1)):∃v,Vd m k=Ya v/\(k,v)∈m:=by
 induction m with
 |nil=>cases h
 |cons p m ih=>
  by_cases e:p.1=k
  ·exact⟨p.2,by show(if p.1=k then Ya p.2 else Vd m k)=_;rw[if_pos e],by rw[←e];exact Yl⟩
  ·rcases YC.mp h with z|z
   ·exact absurd z.symm e
   ·obtain⟨v,h1,h2⟩:=ih z;exact⟨v,by show(if p.1=k then Ya p.2 else Vd m k)=_;rw[if_neg e];exact h1,Yk _ h2⟩
noncomputable def lkA{α:Type}:List (Int×α)->Int->Option α
 |[],_=>Yb
 |p::m,k=>if p.1=k then Ya p.2 else lkA m k
noncomputable def Ep(rp:List (Int×Rt×qb))(k:Int):Rt:=match lkA rp k with
 |none=>(0,false)
 |some r=>r.1
theorem RX.look{H:Hp}{k:Int}{v:V}:∀{m:List (Int×V)} {rp:List (Int×Rt×qb)},RX H m rp->Vd m k=Ya v->∃t rv yv r,v=.ref t/\H t=Ya (.tup [rv,yv])/\lkA rp k=Ya r/\Pl H 2 rv (rtD r.1)/\T5 H yv r.2
 |_,_,.nil,h=>nomatch h
 |e::m,q::rp,.cons ⟨e1,_,t,rv,yv,e2,e3,e4,e5⟩ u,h=>by
  have h:(if e.1=k then Ya e.2 else Vd m k)=Ya v:=h;show∃t rv yv r,v=.ref t/\H t=Ya (.tup [rv,yv])/\(if q.1=k then Ya q.2 else lkA rp k)=Ya r/\Pl H 2 rv (rtD r.1)/\T5 H yv r.2;by_cases z:e.1=k
  ·rw[if_pos z]at h;have h:=YL h;exact⟨t,rv,yv,q.2,by rw[←h,e2],e3,if_pos (e1▸z),e4,e5⟩
  ·rw[if_neg z]at h;rw[if_neg (λw=>z (e1.trans w))];exact RX.look u h
theorem Lq{α:Type}:∀{m:List (Int×α)} {k:Int} {r:α},(m.map (·.1)).Nodup->(lkA m k=Ya r↔(k,r)∈m)
 |[],_,_,_=>⟨(λh=>nomatch h),(λh=>nomatch h)⟩
 |p::m,k,r,nd=>by
  rw[YQ,aw]at nd;show(if p.1=k then Ya p.2 else lkA m k)=Ya r↔_;by_cases z:p.1=k
  ·rw[if_pos z];constructor
   ·intro e;rw[←z,←YL e];exact Yl
   ·intro h;rcases YC.mp h with w|w
    ·rw[←w]
    ·exact absurd (YF.mpr ⟨_,w,z.symm⟩) nd.1
  ·rw[if_neg z,Lq nd.2];exact⟨λh=>Yk _ h,λh=>(YC.mp h).resolve_left λw=>z (by rw[←w])⟩
def WfR(rp:List (Int×Rt×qb)):Prop:=∀e∈rp,e.2.1.1=e.1
noncomputable def plR(me ha:Int)(rp:List (Int×Rt×qb))(wi:Int):Pn:=(Et (rp.map (·.1)),YD (YD (Et ((rp.filter λe=>!e.2.1.2).map (·.1))) (2^me.toNat)) (Yz wi (Yw ha)),Yz wi (Yw ha))
theorem SJ(h:∀x,x∈ns↔x∈ms):Et ns=Et ms:=by
 unfold Et;refine congrArg _ (oB λi=>?_);rw[Cy,Cy,eD,cE,iX,iX,eR,eR];exact⟨fun⟨x,hx,e⟩=>⟨x,(h x).mp hx,e⟩,fun⟨x,hx,e⟩=>⟨x,(h x).mpr hx,e⟩⟩
theorem al5{me wi:Int}{rp:List (Int×Rt×qb)}(nd:(rp.map (·.1)).Nodup)(pm:ns.Perm (rp.map (·.1)))(w:WfR rp):plF me ha (ns.map (Ep rp)) wi=plR me ha rp wi:=by
 have rd:∀x,x∈ns->∃r,(x,r)∈rp/\Ep rp x=r.1/\r.1.1=x:=λx hx=>by
  obtain⟨e,he,rfl⟩:=YF.mp (pm.mem_iff.mp hx);have:=(Lq (k:=e.1) (r:=e.2) nd).mpr he;exact⟨e.2,he,by unfold Ep;rw[this],w e he⟩
 unfold plF plR;have e1:Et ((ns.map (Ep rp)).map (·.1))=Et (rp.map (·.1)):=SJ λx=>by
  rw[iA,YF,←pm.mem_iff];constructor
  ·rintro⟨y,hy,rfl⟩;obtain⟨r,_,e,e'⟩:=rd y hy;show(Ep rp y).1∈ns;rw[e,e'];exact hy
  ·intro hx;obtain⟨r,_,e,e'⟩:=rd x hx;exact⟨x,hx,by show(Ep rp x).1=x;rw[e,e']⟩
 have e2:Et (((ns.map (Ep rp)).filter λr=>!r.2).map (·.1))=Et ((rp.filter λe=>!e.2.1.2).map (·.1)):=SJ λx=>by
  rw[YF,YF];constructor
  ·rintro⟨r,hr,rfl⟩;obtain⟨h1,h2⟩:=cc.mp hr;obtain⟨y,hy,rfl⟩:=YF.mp h1;obtain⟨r,hm,e,e'⟩:=rd y hy;rw[e]at h2⊢;exact⟨(y,r),cc.mpr ⟨hm,h2⟩,e'.symm⟩
  ·rintro⟨q,hq,rfl⟩;obtain⟨h1,h2⟩:=cc.mp hq;have hn:q.1∈ns:=pm.mem_iff.mpr (Y6 h1);have lk:=(Lq (k:=q.1) (r:=q.2) nd).mpr h1;have e:Ep rp q.1=q.2.1:=by unfold Ep;rw[lk]
   exact⟨q.2.1,cc.mpr ⟨YF.mpr ⟨q.1,hn,e⟩,h2⟩,w q h1⟩
 rw[e1,e2]
def HnA(K:Ye)(H:Hp)(p:Yc)(me:Int):Prop:=∃C dx x2 x3 x4 x5 x6 x7 x8 x9 x10 x11 x12 x13 x14,Qn K C/\H p=Ya (.ins C dx (nJ (.int me) x2 x3 x4 x5 x6 x7 x8 x9 x10 x11 x12 x13 x14))
theorem HnA.same{p:Yc}{me:Int}(h:HnA K H p me)(s:aO H H'):HnA K H' p me:=by
 obtain⟨C,dx,x2,x3,x4,x5,x6,x7,x8,x9,x10,x11,x12,x13,x14,T,g⟩:=h;exact⟨C,dx,x2,x3,x4,x5,x6,x7,x8,x9,x10,x11,x12,x13,x14,T,s _ _ g⟩
def tV(K:Ye)(mg:Yj->Option Yd):Sp:=λvs H Q _=>E2 fun(p f:Yc)=>vs=[.ref p,.ref f]/\(E10 λme hd b y vo ag d rp wi q=>A5 (yF K mg H p me hd b y vo ag d rp) (MkF H f wi q hd) (HnA K H q me) (WfR rp) (∀H' z,aO H H'->Uq H' z (plR me hd rp wi)->Q z H'))
abbrev V9:List Yj:=["self","make"]
theorem Il:aD ["self","make"] V9 (aA nj):=gF
include eV jG dM jB aH aL in
theorem Ip(F:bW K "made_by" "Change.made_by" nj f fd)(aaq:∀f sp,OKs K mg f sp->(∃fd ps,∅ 6 f fd ps sp/\Binds K fd ps [])/\∀vs H Q E,sp vs H Q E->∃fo:Y3,(∃fd,fo.data=.func fd)/\H f=Ya (FnO f fo)):∅ 7 f fd V9 (tV K mg):=by
 refine F.oj Il ?_;rintro _ A _ _ H _ _ _ hr _ _ hu ⟨p,f',rfl,h⟩;refine⟨_,(aq (aR (bh jG dM hr (aj (ae2 aaq hr qZ (pv 1) (aj (cu ["self","hand"] [Ya 0,Yb] rfl rfl (by kernel_rfl) (bC (K:=K) rfl (cj (TY rfl) (by rfl) jB iL (aj (au (K:=K) rfl (pv 0) rfl) ao))) (λ_ _ _ _ _ nd=>aW (i:=1) nd rfl (Or.inl rfl)) (λ_ _ _ _ _=>dB) (λ_ _ _ _ _=>(bh jG dM hr (aj (bf (aN (K:=K) rfl) (abj hu (au (K:=K) rfl (pv 0) rfl) (pv 1) (λ_ _=>rfl)) aC (λ_ _=>rfl)) ao)))) ao)) ao)))),?_⟩;obtain⟨me,hd,b,y,vo,ag,d,rp,wi,q,S,F',N',wf,kk⟩:=h;obtain⟨⟨C,dx,ba,ye,av,eC,hp,hb,_⟩,⟨kvs,hd',hr,nd⟩,m0,m1,_⟩:=id S;rw[aL]at eC;cases eC;obtain⟨cl,n1,n2,n3,n4,n5,n6,n7⟩:=id aH;have fk:=G9 nd hr.rg;obtain⟨c',c1,c2,c3,pm,ctv,ne,e1,e2,e3⟩:=id F';cbv;refine⟨f',jT K mg f' c' c1 c2 c3 pm ctv (.int wi) (.ref q) (.int hd),rfl,⟨c',c1,c2,c3,pm,ctv,_,_,_,ne,rfl⟩,⟨_,⟨_,rfl⟩,e1⟩,?_⟩;cbv;refine⟨d,kvs,rfl,.inl hd',fk,λl ns hl pm' so=>?_⟩;have s1:=aF (o:=.lst (ns.map V.int)) hl;have g1:(upd H l (.lst (ns.map V.int))) l=Ya (.lst (ns.map V.int)):=aB;generalize upd H l (.lst (ns.map V.int))=H1 at s1 g1⊢;have sl:=bI.of (K:=K) g1;cbv;intro D hD;refine bO (K:=K) (a:=l) (xs:=ns.map V.int) (λi σ A=>E2 λv ys=>A5 (σ=[Ya (.ref p),v]) (aO H1 A) (A D=Ya (.lst ys)) (ys.length=i) (Vu A ys ((ns.take i).map (Ep rp)))) ⟨Yb,[],rfl,aF hD,aB,rfl,.nil⟩ ?_ ?_ ?_
 ·rintro i σ A _ ⟨_,_,_,z,_⟩;exact bI.of (z _ _ g1)
 ·rintro i x σ A hx ⟨v,ys,rfl,sA,hDx,ly,hys⟩;obtain⟨h,hh,rfl⟩:=IK hx;have hi:=(Yp.mp hh).1;have ln:=pm'.length_eq;rw[Yi]at ln;obtain⟨vv,lk,mem⟩:=ad4 (pm'.mem_iff.mp (YE hh));obtain⟨t,rv,yv,r,q1,q2,q3,q4,q5⟩:=hr.look lk;have er:Ep rp h=r.1:=by unfold Ep;rw[q3]
  rw[q1]at lk;have hpA:=sA _ _ (s1 _ _ hp);have hdA:=sA _ _ (s1 _ _ hd');have htA:=sA _ _ (s1 _ _ q2);have rdA:Rd A d (.dK (dG kvs)):=.inl hdA;have st:=cN.of (K:=K) htA;have a0:lH [rv,yv] 0=Ya rv:=by kernel_rfl
  cbv;refine⟨rv,rfl,rtD r.1,(q4.up (.same (s1.trans sA))).mono.mono,λA1 x' r1 p1=>?_⟩;have hD1:=r1 _ _ hDx;have kp:j4 A1 (upd A1 D (.lst (ys++[x']))):=j4.lst hD1;refine⟨ys,hD1,aU (by omega),_,ys++[x'],rfl,λb o z=>?_,aB,by rw[YG,ly];rfl,?_⟩
  ·rw[aK (aP z hD)];exact r1 _ _ (sA b o z)
  ·rw[eN hh,YK,YQ,kT,er];exact sd (Fy kp (Fy (.same r1) hys)) ((alR p1).up kp)
 rintro σ A ⟨v,ys,rfl,sA,hDx,ly,hys⟩;rw[show(ns.map V.int).length=ns.length from Yi _,Y5]at hys;have sA':=s1.trans sA;have e3A:=e3.up sA';have un:∀{x o},A x=Ya o->(∀o' φ,o≠.frz o' (.ext φ))->K8 ((PQ c1 c2 c3).map (·.2)) A x=Ya o:=λe n=>abw e3A.frz e n;have unS:j4 A (K8 ((PQ c1 c2 c3).map (·.2)) A):=λa xs e=>un e (by intro _ _ z;cases z);obtain⟨Cq,dxq,x2,x3,x4,x5,x6,x7,x8,x9,x10,x11,x12,x13,x14,Tq,gq⟩:=N'.same sA';have ndr:(rp.map (·.1)).Nodup:=by rw[←hr.keys];exact nd
 have pmr:ns.Perm (rp.map (·.1)):=by rw[←hr.keys];exact pm'
 refine⟨sA' _ _ e1,sA' _ _ e2,e3A,D,rfl,wi,q,hd,Cq,dxq,me,x2,x3,x4,x5,x6,x7,x8,x9,x10,x11,x12,x13,x14,ys,ns.map (Ep rp),rfl,rfl,rfl,Tq,un gq (by intro _ _ z;cases z),bI.of (un hDx (by intro _ _ z;cases z)),Fy unS hys,?_,λr hr'=>?_,m0,m1,λH2 z s2 pz fr2=>?_⟩
 ·rw[Yi,pm'.length_eq,Yi];omega
 ·obtain⟨x,hx,rfl⟩:=YF.mp hr';obtain⟨e,he,rfl⟩:=YF.mp (pmr.mem_iff.mp hx);have lk:=(Lq (k:=e.1) (r:=e.2) ndr).mpr he;have er:Ep rp e.1=e.2.1:=by unfold Ep;rw[lk]
  rw[er,wf e he];obtain⟨q',hq',eq'⟩:=YF.mp (show e.1∈kvs.map (·.1)from pm'.mem_iff.mp hx);rw[←eq'];exact hr.rg q' hq'
 rw[al5 ndr pmr wf]at pz;have b3:aO A (rln ((PQ c1 c2 c3).map (·.2)) A H2):=aeP s2;have out:j4 H2 (rln ((PQ c1 c2 c3).map (·.2)) A H2):=λx xs e=>by
  rw[qe λz=>by rw[fr2 x z]at e;cases e];exact e
 have pz2:=pz.up out;dsimp only;generalize rln ((PQ c1 c2 c3).map (·.2)) A H2=A2 at b3 pz2⊢;refine⟨z,rfl,_,(aif pz2).mono.mono,λH3 x' s3 p3=>?_⟩;cbv;exact kk H3 x' (sA'.trans (b3.trans s3)) (aih p3)
theorem afX{m:List (Int×V)}{k:dC}{v:V}(h:(dG m)[i]?=Ya (k,v)):∃p,m[i]?=Ya p/\k=YX p.1/\v=p.2:=by
 unfold dG at h;rw[Yv]at h;cases e:m[i]? with
 |none=>rw[e]at h;cases h
 |some p=>rw[e]at h;cases h;exact⟨p,rfl,rfl,rfl⟩
noncomputable def gOf(rp:List (Int×Rt×qb)):qb:=V3 (rp.map (·.2.2)) Yb
structure Cg where
 b:Option (Int×Int)
 y:qb
 vo:Int
 ag:Option Pn
 rp:List (Int×Rt×qb)
variable{c:Cg}{q:Int×Int×Cg×Pn}
noncomputable def kZ(me hd dd:Int)(c:Cg):Bool:=Lz c.b c.y me&&eno hd dd (c.rp.map (·.1))
noncomputable def PL(me hd wi:Int)(c:Cg):Pn:=match gOf c.rp with
 |none=>plR me hd c.rp wi
 |some g=>g.2
noncomputable def JH(me hd dd wi:Int)(c:Cg):Cg:=if kZ me hd dd c=true then⟨c.b,Ya (c.b.getD (0,0),PL me hd wi c),2^me.toNat,vf c.ag (Ya (c.b.getD (0,0),PL me hd wi c)) (2^me.toNat) hd,c.rp⟩else c
abbrev ChG(K:Ye)(mg:Yj->Option Yd)(H:Hp)(p:Yc)(me hd:Int)(c:Cg)(d:Yc):Prop:=yF K mg H p me hd c.b c.y c.vo c.ag d c.rp
def sU(K:Ye)(mg:Yj->Option Yd):Sp:=λvs H Q _=>E3 fun(p:Yc) (dd:Int) (f:Yc)=>vs=[.ref p,.int dd,.ref f]/\(E6 λme hd c d wi q=>A6 (ChG K mg H p me hd c d) (MkF H f wi q hd) (HnA K H q me) (WfR c.rp) (0<=dd) (∀r H',KpP p H H'->ChG K mg H' p me hd (JH me hd dd wi c) d->Q (.bl r) H'))
abbrev Vt:List Yj:=["self","doubts","make"]
theorem kO:aD ["self","doubts","make","yes","plan"] Vt (aA mU):=gF
variable{Bg:Yc}{qd:Yc}{vZ:Yc}{yw:Yt}{oM:Yt}{tX:Yt}(Kd:∅ 7 wJ qH Th (qC K))(z6:∅ 7 Bg yw uB (yD K))(zA:gW K mg "greatest_yes" Bg yw uB)(pP:∅ 7 nM lL bx (lw K mg))(lO:∅ 7 jZ ju bx (jy K mg))(pO:∅ 7 qd oM Xw (oN K mg))(pN:Binds K oM Xw [])(wz:∅ 7 vZ tX V9 (tV K mg))(vO:Binds K tX V9 [])(dW:bU K bN "has_enough" qd)(fQ:bU K bN "made_by" vZ)
include eV Kd fW z6 zA pP jq lO iz pO pN wz vO aH aL cW dW fQ cD in
theorem Ht(F:bW K "propose" "Change.propose" mU f fd):∅ 8 f fd Vt (sU K mg):=by
 refine F.oj kO ?_;rintro _ A _ s H _ Q E hr _ _ _ ⟨p,dd,f',rfl,h⟩;refine⟨_,(ak (cF (PW.pt (Ka (Bh (cT K rfl (bM (cH.cons aH.cl cW pP jq cH.nil) (pv 0) hr))) (Fz (Bh (cT K rfl (bD (cH.cons aH.cl dW pO pN cH.nil) (pv 0) hr (aj (pv 1) ao))))))) (aq (aR qQ)) bG)
   (ak (ab9 (aV (i:=3) kO.nd rfl (Or.inl rfl) (bh z6 zA hr (aj (cu ["kept"] [Yb] rfl rfl (by kernel_rfl) (ahc (au (K:=K) rfl (pv 0) rfl)) (λ_ _ _ _ _ nd=>aW (i:=0) nd rfl (Or.inl rfl)) (λ_ _ _ _ _=>dB) (λ_ _ _ _ _=>(bf (aN (K:=K) rfl) (pv 0) aC (λ_ _=>rfl)))) ao))))
   (ak (aV (i:=4) kO.nd rfl (Or.inl rfl) (oJ (aX j8 (pv 3) bV (bc _)) (bD (cH.cons aH.cl fQ wz vO cH.nil) (pv 0) hr (aj (pv 2) ao)) (bf (aN (K:=K) rfl) (pv 3) aC (λ_ _=>rfl))))
   (ak (aQ (K:=K) rfl (pv 0) (eY (aj (au (K:=K) rfl (pv 0) rfl) (aj (pv 4) ao))) rfl)
   (ak (aQ (K:=K) rfl (pv 0) (bh Kd fW hr (aj (au (K:=K) rfl (pv 0) rfl) ao)) rfl)
   (ak (bT (bM (cH.cons aH.cl cD lO iz cH.nil) (pv 0) hr))
   (aq (aR qQ)))))))),?_⟩
 refine xl7 ?_;intro _ _ _ _ _;obtain⟨me,hd,⟨b,y,vo,ag,rp⟩,d,wi,q',S,F',N',wf,d0,kk⟩:=h;have S:yF K mg H p me hd b y vo ag d rp:=S;have wf:WfR rp:=wf;obtain⟨⟨C,dx,ba,ye,av,eC,hp,hb,hy,ha⟩,⟨kvs,hd',hr,nd⟩,m0,m1,z0,z1,sm,sv,vy⟩:=id S;rw[aL]at eC;cases eC;obtain⟨cl,n1,n2,n3,n4,n5,n6,n7⟩:=id aH;have fk:=G9 nd hr.rg;have kk0:kZ me hd dd ⟨b,y,vo,ag,rp⟩=false->∀H',aO H H'->Q (.bl false) H':=λe H' s=>by
  have e1:JH me hd dd wi ⟨b,y,vo,ag,rp⟩=⟨b,y,vo,ag,rp⟩:=by unfold JH;rw[e];rfl
  rw[e1]at kk;exact kk false H' (λb o _ e=>s _ _ e) (S.same s)
 refine HN ?_;cbv;refine⟨p,rfl,me,hd,b,y,vo,ag,d,rp,S,?_⟩;cbv;refine d9 (λh1=>?_) λh1=>?_
 ·have h1:Lz b y me=false:=by cases z:Lz b y me<;>simp_all
  cbv;exact kk0 (by unfold kZ;rw[h1];rfl) H (.refl _)
 have hr2:Lz b y me=true:=by cases z:Lz b y me<;>simp_all
 obtain⟨q,rfl⟩:∃q,b=Ya q:=by
  cases b with
  |none=>cases hr2
  |some q=>exact⟨q,rfl⟩
 obtain⟨u,rfl,gu⟩:=id hb;cbv;refine⟨p,dd,rfl,me,hd,_,y,vo,ag,d,rp,S,d0,λH1 s1=>?_⟩;have S1:=S.same s1;have hp1:=s1 _ _ hp;have hd1:=s1 _ _ hd';cbv;refine d9 (λh2=>?_) λh2=>?_
 ·have h2:eno hd dd (rp.map (·.1))=false:=by cases z:eno hd dd (rp.map (·.1))<;>simp_all
  cbv;exact kk0 (by unfold kZ;rw[h2,i9]) H1 s1
 have h2':eno hd dd (rp.map (·.1))=true:=by cases z:eno hd dd (rp.map (·.1))<;>simp_all
 have ef:kZ me hd dd ⟨Ya q,y,vo,ag,rp⟩=true:=by unfold kZ;rw[hr2,h2'];rfl
 have e1:JH me hd dd wi ⟨Ya q,y,vo,ag,rp⟩=⟨Ya q,Ya (q,PL me hd wi ⟨Ya q,y,vo,ag,rp⟩),2^me.toNat,vf ag (Ya (q,PL me hd wi ⟨Ya q,y,vo,ag,rp⟩)) (2^me.toNat) hd,rp⟩:=if_pos ef;rw[e1]at kk;have e3:PL me hd wi ⟨Ya q,y,vo,ag,rp⟩=(match gOf rp with
  |none=>plR me hd rp wi
  |some g=>g.2):=rfl
 generalize PL me hd wi ⟨Ya q,y,vo,ag,rp⟩=pd at kk e3
 try dsimp only at kk
 clear e1 ef;refine agl (d:=d) hd1 ?_;cbv;refine ala hd1 λo A hA sA=>?_;intro D hD;have nDd:D≠d:=λz=>by rw[z,hA]at hD;cases hD
 have lr:kvs.length=rp.length:=bS hr;refine adz (λi σ B=>E2 λv ys=>A5 (σ=[v]) (aO A B) (B D=Ya (.lst ys)) (ys.length=i) (d3 (λx y=>T5 B x y) ys ((rp.take i).map (·.2.2)))) ⟨Yb,[],rfl,aF hD,aB,rfl,.nil⟩ ?_ ?_ ?_
 ·rintro i σ B _ ⟨_,_,_,z,_⟩;exact z _ _ hA
 ·rintro i ky v σ B hkv ⟨v1,ys,rfl,sB,hDx,ly,hys⟩;obtain⟨e,he,rfl,rfl⟩:=afX hkv;have hi:=(Yp.mp he).1;obtain⟨r,hri,_,_,t,rv,yv,q1,q2,q3,q4⟩:=gR hr he;have kt:j4 H B:=λa xs z=>sB _ _ (sA _ _ (bj z hd' (by intro z;cases z)) (s1 _ _ z));have htB:=kt _ _ q2;have st:=cN.of (K:=K) htB;have a1:lH [rv,yv] 1=Ya yv:=by kernel_rfl
  rw[q1];cbv;have kp:j4 B (upd B D (.lst (ys++[yv]))):=j4.lst hDx;refine⟨_,hDx,aU (by omega),_,ys++[yv],rfl,λb o z=>?_,aB,by rw[YG,ly];rfl,?_⟩
  ·rw[aK (aP z hD)];exact sB b o z
  ·rw[eN hri,YK,YQ,kT];exact sd (d3.mapP hys λ_ _ z=>z.up kp) ((q4.up kt).up kp)
 rintro σ B ⟨v1,ys,rfl,sB,hDx,ly,hys⟩;rw[Jt,lr,Y5]at hys;have sl:=bI.of (K:=K) hDx;refine⟨D,rfl,ys,_,sl,hys,λzy hy2=>?_⟩;cbv;refine⟨⟨o,sB _ _ hA⟩,?_⟩;have tS:aO H1 (upd B d (.dK (dG kvs))):=Rr (λb u n e=>sB _ _ (sA b u n e)) hd1;have hyz:T5 (upd B d (.dK (dG kvs))) zy (gOf rp):=hy2.up λa xs e=>by rw[aK (λz=>by rw[z,sB _ _ hA]at e;cases e)];exact e
 generalize upd B d (.dK (dG kvs))=B1 at tS hyz⊢;have sB1:=s1.trans tS;have S2:=S.same sB1;have hp2:=sB1 _ _ hp
 try dsimp only
 refine rT (λσ' E=>∃pv,A3 (σ'=[Ya (.ref p),Ya (.int dd),Ya (.ref f'),Ya zy,Ya pv]) (aO H E) (Pl E 2 pv (plD pd))) ?_ λN rest=>?_
 rotate_left
 ·cases ey:gOf rp with
  |none=>
   rw[ey]at hyz e3;obtain rfl:zy=.non:=hyz;cbv;rw[show decide (V.non=V.non)=true from decide_eq_true rfl];cbv;refine⟨p,f',rfl,me,hd,_,y,vo,ag,d,rp,wi,q',S2,F'.same sB1,N'.same sB1,wf,λE z sE pz=>?_⟩;exact rest _ _ ⟨z,rfl,sB1.trans sE,by rw[e3];exact aif pz⟩
  |some q2=>
   rw[ey]at hyz e3;obtain⟨t,w',pv,rfl,g1,g2,g3⟩:=id hyz;have st:=cN.of (K:=K) g1;have a1:lH [V.ref w',pv] 1=Ya pv:=by kernel_rfl
   cbv;rw[dH];cbv;exact rest _ _ ⟨pv,rfl,sB1,by rw[e3];exact g3⟩
 rintro σ' E ⟨pv,rfl,sE,pE⟩;have hpE:=sE _ _ hp;cbv;intro t E1 ht s3 g3;have hp3:=s3 _ _ hpE;cbv;intro E2 b2 e2;rw[abK]at e2;cbv;refine⟨me,rfl,m0,by omega,?_⟩;cbv;intro E3 b3 e3;rw[Lp]at e3;have kE:KpP p E E3:=λb' o' n e=>b3.at n (b2.at n (s3 _ _ e));have kp:KpP p H E3:=λb' o' n e=>kE _ _ n (sE _ _ e);have ks:j4 H E3:=λa xs e=>kp _ _ (bj e hp (by intro z;cases z)) e;have ks1:j4 E1 E3:=λa xs e=>b3.at (bj e hp3 (by intro z;cases z)) (b2.at (bj e hp3 (by intro z;cases z)) e);have ndp:d≠p:=bj hd' hp (by intro z;cases z);have S4:yF K mg E3 p me hd (Ya q) (Ya (q,pd)) (2^me.toNat) ag d rp:=⟨⟨_,dx,_,_,av,aL,e3,hb.up ks,⟨t,u,pv,rfl,ks1 _ _ g3,ks _ _ gu,(pE.up (.same s3)).up ks1⟩,ha.up ks⟩,⟨kvs,kp _ _ ndp hd',hr.up ks,nd⟩,m0,m1,z0,z1,sm,sm,(λz=>nomatch z)⟩;cbv;refine⟨p,rfl,me,hd,_,_,_,ag,d,rp,S4,λE4 k4 S5=>?_⟩;cbv;exact kk true E4 (λb' o' n e=>k4 _ _ n (kp _ _ n e)) S5
def T4(mg:Yj->Option Yd)(H:Hp)(a da:Yc)(rs:List (Int×V))(ha:Int):Prop:=(∃C dx,mg "Known"=Ya (.ref C)/\H a=Ya (.ins C dx [("learnt",.ref da)]))/\H da=Ya (.dK (dG rs))/\rs.map (·.1)=GB.hl ha/\(∀q∈rs,EmD H q.2)/\∀q∈rs,q.2≠.ref da
theorem T4.up{da:Yc}{rs:List (Int×V)}(h:T4 mg H a da rs ha)(s1:∀o,H a=Ya o->H' a=Ya o)(s2:∀o,H da=Ya o->H' da=Ya o)(s3:∀q∈rs,∀r,q.2=.ref r->∀o,H r=Ya o->H' r=Ya o):T4 mg H' a da rs ha:=by
 obtain⟨⟨C,dx,e,h1⟩,h2,h3,h4,h5⟩:=h;exact⟨⟨C,dx,e,s1 _ h1⟩,s2 _ h2,h3,λq hq=>let ⟨r,e,g⟩:=h4 q hq;⟨r,e,s3 q hq r e _ g⟩,h5⟩
theorem ahY(m:j4 H H'):∀{xs:List V} {ps:List (Int×V)},aa5 H xs ps->aa5 H' xs ps:=by
 intro a b w
 induction w with
 |nil=>exact .nil
 |cons w _ ih=>
  obtain⟨a,e,h⟩:=w;exact .cons ⟨a,e,m _ _ h⟩ ih
theorem acI:∀{xs:List V} {ps:List (Int×V)} {x:V} {p:Int×V},aa5 H xs ps->(∃a,x=.ref a/\H a=Ya (.tup [.int p.1,p.2]))->aa5 H (xs++[x]) (ps++[p]):=by
 intro x0 x1 x2 x3 w h
 induction w with
 |nil=>exact .cons h .nil
 |cons r _ ih=>exact .cons r ih
theorem aiQ(n:Int):(GB.hl n).Nodup:=by
 unfold GB.hl;refine List.Pairwise.map _ (λa b h=>?_) (GB.zU n.toNat);intro e;have:a<b:=h;omega
def tM(K:Ye):Sp:=λvs H Q _=>E2 fun(p:Yc) (n:Int)=>vs=[.ref p,.int n]/\(E2 λC dx=>A5 (XS K C) (H p=Ya (.ins C dx [])) (0<=n) (n<9223372036854775808) (∀H' d rs,(∀b o,H b=Ya o->b≠p->H' b=Ya o)->H' p=Ya (.ins C dx [("learnt",.ref d)])->H' d=Ya (.dK (dG rs))->rs.map (·.1)=GB.hl n->(∀q∈rs,EmD H' q.2)->(∀q∈rs,q.2≠V.ref d)->H d=Yb->(∀q∈rs,∀r,q.2=V.ref r->H r=Yb)->Q .non H'))
abbrev Dy:List Yj:=["self","hands"]
theorem GP:aD ["self","hands"] Dy (aA lZ):=gF
include eV lY mV iJ in
theorem Hb(F:bW K "__init__" "Known.__init__" lZ f fd):∅ 4 f fd Dy (tM K):=by
 refine F.oj GP ?_;rintro _ _ _ _ H _ _ _ hr _ _ _ ⟨p,n,rfl,h⟩;refine⟨_,(aq (aQ (K:=K) rfl (pv 0) (bZ (XR rfl) (by rfl) iJ gN (aj (cu ["hand"] [Yb] rfl rfl (by kernel_rfl) (bC (K:=K) rfl (bh lY mV hr (aj (pv 1) ao))) (λ_ _ _ _ _ nd=>aW (i:=0) nd rfl (Or.inl rfl)) (λ_ _ _ _ _=>dB) (λ_ _ _ _ _=>(eY (aj (pv 0) (aj sG ao))))) ao)) rfl)),?_⟩;obtain⟨C,dx,⟨cl,n1⟩,hp,h0,h1,k⟩:=h;cbv;refine⟨n,rfl,h0,h1,λH1 l hl s1 g1=>?_⟩;cbv;intro D hD;have ln:=GB.TQ n;refine bO (K:=K) (a:=l) (xs:=(GB.hl n).map V.int) (λi σ H'=>E3 λv ys rs=>A6 (σ=[v]) (aO H1 H') (H' D=Ya (.lst ys)) (aa5 H' ys rs) (rs.map (·.1)=(GB.hl n).take i) (∀q∈rs,EmD H' q.2/\∀r,q.2=V.ref r->H1 r=Yb)) ⟨Yb,[],[],rfl,aF hD,aB,.nil,rfl,λq hq=>nomatch hq⟩ ?_ ?_ ?_
 ·rintro i σ H' _ ⟨_,_,_,_,z,_⟩;exact bI.of (z _ _ g1)
 ·rintro i x σ H' hx ⟨v,ys,rs,rfl,sm,hDx,hpr,hk,hem⟩;obtain⟨h,hh,rfl⟩:=IK hx;have hi:=(Yp.mp hh).1;have ly:ys.length<=i:=by
   rw[bS hpr,←Yi (f:=(·.1)),hk,ae];omega
  cbv;intro r H2 hr s2 g2;cbv;intro t H3 ht s3 g3;have hD3:=s3 _ _ (s2 _ _ hDx);have kD:∀{b o},H3 b=Ya o->o≠.lst ys->(upd H3 D (.lst (ys++[V.ref t]))) b=Ya o:=fun{b o} e n=>by rw[aK (bj e hD3 n)];exact e
  refine⟨ys,hD3,aU (by omega),Ya (.int h),_,rs++[(h,.ref r)],rfl,λb o z=>?_,aB,?_,?_,λq hq=>?_⟩
  ·rw[aK (aP z hD)];exact s3 _ _ (s2 _ _ (sm b o z))
  ·exact acI (ahY ((j4.same (s2.trans s3)).trans (j4.lst hD3)) hpr) ⟨t,rfl,j4.lst hD3 _ _ g3⟩
  ·rw[YK,hk,eN hh];rfl
  ·rcases ai.mp hq with z|z
   ·obtain⟨⟨d',e,g⟩,fr⟩:=hem q z;exact⟨⟨d',e,kD (s3 _ _ (s2 _ _ g)) (by intro z;cases z)⟩,fr⟩
   ·rw[Yy.mp z];exact⟨⟨r,rfl,kD (s3 _ _ g2) (by intro z;cases z)⟩,λr' e=>by cases e;exact sm.free hr⟩
 rintro σ H2 ⟨v,ys,rs,rfl,s2,hD2,hpr,hk,hem⟩;rw[show(GB.hl n).take ((GB.hl n).map V.int).length=GB.hl n by rw[Yi,Y5]]at hk;refine⟨D,ys,rs,rfl,hD2,hpr,by rw[hk];exact aiQ n,by rw[←Yi (f:=(·.1)),hk];omega,λd hd=>?_⟩;have s3:=aF (o:=.dK (dG rs)) hd;have g3:(upd H2 d (.dK (dG rs))) d=Ya (.dK (dG rs)):=aB;generalize upd H2 d (.dK (dG rs))=H3 at s3 g3⊢;have s4:aO H H3:=s1.trans (s2.trans s3);have hp4:=s4 _ _ hp;cbv;intro H5 b5 g5;refine k H5 d rs (λb o e hb=>b5.at hb (s4 _ _ e)) g5 (b5.of hp4 g3 (by intro z;cases z)) hk (λq hq=>?_) (λq hq z=>?_) ((s1.trans s2).free hd) (λq hq r e=>s1.free ((hem q hq).2 r e))
 ·obtain⟨⟨d',e,g⟩,_⟩:=hem q hq;exact⟨d',e,b5.of hp4 (s3 _ _ g) (by intro z;cases z)⟩
 ·obtain⟨⟨d',e,g⟩,_⟩:=hem q hq;rw[e]at z;cases z;rw[hd]at g;cases g
theorem Xp{k:Int}{v:V}:∀{m:List (Int×V)},k∈m.map (·.1)->(qj m k v).map (·.1)=m.map (·.1)
 |[],h=>nomatch h
 |p::m,h=>by
  show(if p.1=k then(p.1,v)::m else p::qj m k v).map (·.1)=_;by_cases z:p.1=k
  ·rw[if_pos z];rfl
  ·rw[if_neg z,YQ,YQ,Xp ((YC.mp h).resolve_left λw=>z w.symm)]
theorem ai3{m:List (Int×V)}{k:Int}(h:k∈m.map (·.1)):∃v,Vd m k=Ya v/\(k,v)∈m:=ad4 h
def Bl(K:Ye)(mg:Yj->Option Yd):Sp:=λvs H Q _=>E3 fun(p:Yc) (h:Int) (c:Yc)=>vs=[.ref p,.int h,.ref c]/\(E3 λd rs ha=>A4 (T4 mg H p d rs ha) (H c=Ya (.dK [])) (h∈GB.hl ha) (∀H' rs',SmB d H H'->T4 mg H' p d rs' ha->(∀q∈rs',q∈rs∨∃r,q.2=.ref r/\H r=Yb)->Q .non H'))
abbrev We:List Yj:=["self","hand","counts"]
theorem Nm:aD ["self","hand","counts"] We (aA uZ):=gF
variable{fG:Yc}(bJ:XS K fG)(bR:mg "Known"=Ya (.ref fG))
include eV vR v9 bJ bR in
theorem OD(F:bW K "learn" "Known.learn" uZ f fd):∅ 3 f fd We (Bl K mg):=by
 refine F.oj Nm ?_;rintro _ _ _ _ _ _ _ _ hr _ _ hu ⟨p,x,c,rfl,h⟩;refine⟨_,(aq (cF (akj (aj4 hu (pv 1) (au (K:=K) rfl (pv 0) rfl))) (aq (ab7 hu (au (K:=K) rfl (pv 0) rfl) (pv 1) (bh vR v9 hr (aj (abj hu (au (K:=K) rfl (pv 0) rfl) (pv 1) (λ_ _=>rfl)) (aj (pv 2) ao))) rfl)) bG)),?_⟩;obtain⟨d,rs,ha,S,hc,hm,k⟩:=h;obtain⟨⟨C,dx,eC,hp⟩,hd,hk,hem,hap⟩:=id S;rw[bR]at eC;cases eC;obtain⟨cl,n1⟩:=id bJ;rw[←hk]at hm;obtain⟨v,e1,mem⟩:=ai3 hm;obtain⟨r,rfl,e3⟩:=hem _ mem;have nd:(rs.map (·.1)).Nodup:=by rw[hk];exact aiQ ha
 have lrs:rs.length<YB:=aU (by
  have:=GB.TQ ha;rw[←hk,Yi]at this;omega)
 have hd':=hd;cbv;rw[e1];refine d9 (λ_=>?_) λz=>absurd rfl z;cbv;refine⟨r,c,rfl,e3,hc,λH1 q s1 hq g1=>?_⟩;have hp1:=s1 _ _ hp;have hd1:=s1 _ _ hd;cbv;intro H2 b2 g2;have nq:q≠d:=λz=>by rw[z]at hq;rw[hq]at hd;cases hd
 refine k H2 _ (λb o n e=>b2.at n (s1 _ _ e)) ⟨⟨_,dx,bR,b2.of hd1 hp1 (by intro z;cases z)⟩,g2,?_,λw hw=>?_,λw hw=>?_⟩ λw hw=>?_
 ·rw[Xp hm];exact hk
 ·rcases Ca _ _ _ _ hw with z|z
  ·exact⟨q,by rw[z],b2.at nq g1⟩
  ·obtain⟨d',e,g⟩:=hem w z;exact⟨d',e,b2.at (λy=>hap w z (by rw[e,y])) (s1 _ _ g)⟩
 ·rcases Ca _ _ _ _ hw with z|z
  ·rw[z];intro w;cases w;exact nq rfl
  ·exact hap w z
 ·rcases Ca _ _ _ _ hw with z|z
  ·rw[z];exact .inr ⟨q,rfl,hq⟩
  ·exact .inl z
def rR(K:Ye)(mg:Yj->Option Yd):Sp:=λvs H Q _=>∃(p:Yc),vs=[.ref p]/\(E3 λd rs ha=>T4 mg H p d rs ha/\∀H' q,aO H H'->H q=Yb->H' q=Ya (.dK [])->Q (.ref q) H')
theorem O1:aD ["self"] bx (aA uC):=gF
variable{Vb:Yc}{Q3:Yt}(Wg:∅ 2 Vb Q3 uB (RC K))(Xl:gW K mg "common" Vb Q3 uB)
include eV Wg Xl fK bJ bR in
theorem Oe(F:bW K "floor" "Known.floor" uC f fd):∅ 3 f fd bx (rR K mg):=by
 refine F.oj O1 ?_;rintro _ _ _ _ H _ _ _ hr _ _ _ ⟨p,rfl,h⟩;refine⟨_,(aq (aR (bh Wg Xl hr (aj (bZ (aar rfl) (by rfl) fK d6 (aj (RQ gi fA lj aaL (au (K:=K) rfl (pv 0) rfl)) ao)) ao)))),?_⟩;obtain⟨d,rs,ha,S,k⟩:=h;obtain⟨⟨C,dx,eC,hp⟩,hd,hk,hem,hap⟩:=id S;rw[bR]at eC;cases eC;obtain⟨cl,n1⟩:=id bJ;have lrs:rs.length<=63:=by
  have:=GB.TQ ha;rw[←hk,Yi]at this;omega
 cbv;refine⟨d,_,rfl,rfl,hd,λv hv=>?_⟩;have s1:=aF (o:=Ur v d) hv;have g1:(upd H v (Ur v d)) v=Ya (Ur v d):=aB;generalize upd H v (Ur v d)=H1 at s1 g1⊢;cbv;refine⟨v,d,_,rfl,g1,.inl (s1 _ _ hd),by rw[Jt];omega,λl hl=>?_⟩;have s2:=aF (o:=.lst ((dG rs).map (·.2))) hl;have g2:(upd H1 l (.lst ((dG rs).map (·.2)))) l=Ya (.lst ((dG rs).map (·.2))):=aB;generalize upd H1 l (.lst ((dG rs).map (·.2)))=H2 at s2 g2⊢;cbv;refine⟨l,rfl,_,bI.of g2,λx hx=>?_,λH3 q s3 hq g3=>k H3 q (s1.trans (s2.trans s3)) (s1.free (s2.free hq)) g3⟩;obtain⟨e,he,rfl⟩:=YF.mp hx;unfold dG at he;obtain⟨q,hq,rfl⟩:=YF.mp he;exact(hem q hq).same (s1.trans s2)
def Dh(K:Ye):Sp:=λvs H Q _=>E2 fun(x:V) (b:Yc)=>vs=[x,.ref b]/\(bI K H b []/\Q (.int 0) H)
abbrev V6:List Yj:=["self","places"]
theorem uE:aD ["self","places","so_many","name"] V6 (aA wQ):=gF
include eV in
theorem Pq(F:bW K "sure" "Known.sure" wQ f fd):∅ 1 f fd V6 (Dh K):=by
 refine F.oj uE ?_;rintro _ A _ _ H _ _ _ _ _ _ _ ⟨x,b,rfl,h⟩;refine⟨_,(ak (aV (i:=2) uE.nd rfl (Or.inl rfl) aC)
   (ak (jc Y8 rfl (bC (K:=K) rfl (pv 1)) (aW (i:=3) uE.nd rfl (Or.inl rfl))
   (ak cz
   (aq cz)))
   (aq (aR (pv 2))))),?_⟩
 refine XM ?_;intro _;obtain⟨hS,kk⟩:=h;cbv;refine gf (K:=K) (a:=b) (xs:=[]) (λi σ A=>H=A/\σ=[Ya x,Ya (.ref b),Ya (.int 0),Yb]) ⟨rfl,rfl⟩ (λi σ A _ z=>by rw[←z.1];exact hS) (λi x σ A hx=>by simp at hx) ?_;rintro σ _ ⟨rfl,rfl⟩;cbv;exact kk
def Br(K:Ye):Sp:=λvs H Q _=>E2 fun(x:V) (b:Yc)=>vs=[x,.ref b]/\(cN K H b []/\Q .non H)
abbrev Xy:List Yj:=["self","listed"]
theorem rP:aD ["self","listed","hand","row"] Xy (aA uv):=gF
include eV in
theorem Od(F:bW K "merge" "Known.merge" uv f fd):∅ 1 f fd Xy (Br K):=by
 refine F.oj rP ?_;rintro _ A _ _ H _ _ _ _ _ _ _ ⟨x,b,rfl,h⟩;refine⟨_,(aq (jc Y8 rfl (Cm (K:=K) rfl (pv 1)) (Hj (K:=K) (n:=2) rfl rfl (jK (aW (i:=2) rP.nd rfl (Or.inl rfl)) (jK (aW (i:=3) rP.nd rfl (Or.inl rfl)) Hk)))
   (aq cz))),?_⟩
 obtain⟨hS,kk⟩:=h;cbv;refine Sd (K:=K) (a:=b) (xs:=[]) (λi σ A=>H=A/\σ=[Ya x,Ya (.ref b),Yb,Yb]) ⟨rfl,rfl⟩ (λi σ A _ z=>by rw[←z.1];exact hS) (λi x σ A hx=>by simp at hx) ?_;rintro σ _ ⟨rfl,rfl⟩;exact kk
def yu(K:Ye)(mg:Yj->Option Yd):Sp:=λvs H Q _=>∃(p:Yc),vs=[.ref p]/\(E3 λd rs ha=>T4 mg H p d rs ha/\∀H' t,aO H H'->H t=Yb->H' t=Ya (.tup [])->Q (.ref t) H')
theorem La:aD ["self"] bx (aA q8):=gF
include eV dw bJ bR in
theorem KN(F:bW K "listed" "Known.listed" q8 f fd):∅ 1 f fd bx (yu K mg):=by
 refine F.oj La ?_;rintro _ A _ _ H _ _ _ _ _ hu0 _ ⟨p,rfl,h⟩;refine⟨_,(aq (ab9 (aR (bZ (fj (K:=K) rfl) (by rfl) dw bE (aj (cu ["hand","row"] [Yb,Yb] rfl rfl (by kernel_rfl) (afo (au (K:=K) rfl (pv 0) rfl)) (λ_ _ _ _ _ nd=>Hj (K:=K) (n:=2) rfl rfl (jK (aW (i:=0) nd rfl (Or.inl rfl)) (jK (aW (i:=1) nd rfl (Or.inl rfl)) Hk))) (λ_ _ _ _ _=>(jL (aX (akx hu0) (pv 1) sG (bc _)))) (λ_ _ _ _ _=>fJ)) ao))))),?_⟩;obtain⟨d,rs,ha,S,k⟩:=h;obtain⟨⟨C,dx,eC,hp⟩,hd,hk,hem,hap⟩:=id S;rw[bR]at eC;cases eC;obtain⟨cl,n1⟩:=id bJ;have lrs:rs.length<=63:=by
  have:=GB.TQ ha;rw[←hk,Yi]at this;omega
 refine agl (d:=d) hd ?_;cbv;refine ala hd λo A hA sA=>?_;intro D hD;have nDd:D≠d:=λz=>by rw[z,hA]at hD;cases hD
 refine abh (λi σ H'=>E2 λv1 v2=>A3 (σ=[v1,v2]) (aO A H') (H' D=Ya (.lst []))) ⟨Yb,Yb,rfl,aF hD,aB⟩ ?_ ?_ ?_
 ·rintro i σ H' _ ⟨_,_,_,z,_⟩;exact z _ _ hA
 ·rintro i ky v t σ H0 H' hkv ⟨v1,v2,rfl,sm0,hD0⟩ ht0 s0 ht;obtain⟨q,hq,rfl,rfl⟩:=afX hkv;obtain⟨r,e2,e3⟩:=hem q (YE hq);have nrd:r≠d:=λz=>hap q (YE hq) (by rw[e2,z]);have sm:=sm0.trans s0;have hr':=sm _ _ (sA _ _ nrd e3);have hDx:=s0 _ _ hD0;rw[e2]at ht;have ht:=cN.of (K:=K) ht;cbv;intro l H1 hl s1 g1;have hr1:Rd H1 r (.dK (dI [])):=.inl (s1 _ _ hr');have gl1:Rd H1 l (.dK []):=.inl g1;cbv;refine d9 (λh1=>?_) λh1=>?_
  ·cases h1
  ·exact⟨_,_,rfl,sm.trans s1,s1 _ _ hDx⟩
 rintro σ H' ⟨v1,v2,rfl,sm,hDx⟩;have gD:bI K H' D []:=bI.of hDx;cbv;intro t H3 ht s3 g3;have kd:=s3 _ _ (sm _ _ hA);have ntd:t≠d:=λz=>by rw[z,sm _ _ hA]at ht;cases ht
 refine⟨⟨o,kd⟩,?_⟩;have tS:aO H (upd H3 d (.dK (dG rs))):=Rr (λb u n e=>s3 _ _ (sm _ _ (sA b u n e))) hd;have ht0:H t=none:=by
  cases z:H t with
  |none=>rfl
  |some u=>rw[sm _ _ (sA t u ntd z)]at ht;cases ht
 exact k _ t tS ht0 (by rw[aK ntd];exact g3)
structure Off(F:Yc->Prop)(H H':Hp):Prop where
 of:∀b o,H b=Ya o->¬ F b->H' b=Ya o
 tp:j4 H H'
 ex:∀b φ,H b=Ya (.ext φ)->H' b=Ya (.ext φ)
def Gw(F:Yc->Prop)(H H':Hp):Yc->Prop:=λa=>(F a∨H a=Yb)/\H' a≠Yb
theorem Off.refl(F:Yc->Prop)(H:Hp):Off F H H:=⟨λ_ _ e _=>e,λ_ _ e=>e,λ_ _ e=>e⟩
theorem Off.sm{F:Yc->Prop}(s:aO H H'):Off F H H':=⟨λ_ _ e _=>s _ _ e,.same s,λ_ _ e=>s _ _ e⟩
theorem Off.trans{F:Yc->Prop}{B C:Hp}(x:Off F A B)(y:Off F B C):Off F A C:=⟨λb o e n=>y.of b o (x.of b o e n) n,λa xs e=>y.tp _ _ (x.tp _ _ e),λa φ e=>y.ex _ _ (x.ex _ _ e)⟩
theorem Off.mono{F:Yc->Prop}(x:Off F H H')(h:∀a,F a->G a):Off G H H':=⟨λb o e n=>x.of b o e λz=>n (h b z),x.tp,x.ex⟩
theorem Off.none{F:Yc->Prop}(x:Off F H H')(h:H' a=Yb):F a∨H a=none:=by
 by_cases f:F a
 ·exact .inl f
 ·cases e:H a with
  |none=>exact .inr rfl
  |some o=>rw[x.of a o e f]at h;cases h
theorem Off.but{F:Yc->Prop}(b:But a H H')(e:H a=Ya u)(f:F a)(n1:∀xs,u≠.tup xs)(n2:∀φ,u≠.ext φ):Off F H H':=
 ⟨λc o g n=>b.at (λz=>n (z▸f)) g,λc xs g=>b.at (λz=>by rw[z,e]at g;cases g;exact n1 _ rfl) g,λc φ g=>b.at (λz=>by rw[z,e]at g;cases g;exact n2 _ rfl) g⟩
theorem Off.smb{F:Yc->Prop}(b:SmB a H H')(e:H a=Ya u)(f:F a)(n1:∀xs,u≠.tup xs)(n2:∀φ,u≠.ext φ):Off F H H':=
 ⟨λc o g n=>b c o (λz=>n (z▸f)) g,λc xs g=>b c _ (λz=>by rw[z,e]at g;cases g;exact n1 _ rfl) g,λc φ g=>b c _ (λz=>by rw[z,e]at g;cases g;exact n2 _ rfl) g⟩
structure PgX where
 d:Yc
 t:Yc
 k:Yc
 o:Yc
 ta:Yc
 da:Yc
 ab:Yc
 db:Yc
 ra:List (Int×V)
 rb:List (Int×V)
variable{t:Yc}{o k:Nat}
structure yX(K:Ye)(mg:Yj->Option Yd)(H:Hp)(F:Yc->Prop)(p:Yc)(me nu ha ro:Int)(x:PgX):Prop where
 ob:∃C dx,mg "Page"=Ya (.ref C)/\Rv K C/\H p=Ya (.ins C dx (Ji (.int me) (.int nu) (.int ha) (.int ro) (.int 0) (.ref x.d) (.ref x.t) (.ref x.k) (.ref x.o) (.ref x.ta) (.ref x.ab)))
 hd:H x.d=Ya (.dK [])
 ht:H x.t=Ya (.lst [])
 hk:H x.k=Ya (.dT [])
 ho:H x.o=Ya (.lst [])
 ta:T4 mg H x.ta x.da x.ra ha
 ab:T4 mg H x.ab x.db x.rb ha
 nd:x.d≠x.da/\x.d≠x.db/\x.da≠x.db
 na:∀q∈x.ra,q.2≠.ref x.db
 nb:∀q∈x.rb,q.2≠.ref x.da
 fp:F p
 fa:F x.d/\F x.t/\F x.k/\F x.o/\F x.ta/\F x.da/\F x.ab/\F x.db
 fr:∀q∈x.ra++x.rb,∀r,q.2=.ref r->F r
 dm:∀a,F a->H a≠Yb
 me:me∈GB.hl ha
 h0:0<=ha
 h1:ha<9223372036854775808
section
variable{F:Yc->Prop}{p:Yc}{me nu ro:Int}{x:PgX}
theorem yX.off(h:yX K mg H F p me nu ha ro x)(o:Off G H H')(n:∀a,F a->¬ G a):yX K mg H' F p me nu ha ro x:=by
 obtain⟨C,dx,e1,e2,hp⟩:=h.ob;obtain⟨f1,f2,f3,f4,f5,f6,f7,f8⟩:=h.fa;refine⟨⟨C,dx,e1,e2,o.of _ _ hp (n _ h.fp)⟩,o.of _ _ h.hd (n _ f1),o.of _ _ h.ht (n _ f2),o.of _ _ h.hk (n _ f3),o.of _ _ h.ho (n _ f4),h.ta.up (λ_ e=>o.of _ _ e (n _ f5)) (λ_ e=>o.of _ _ e (n _ f6)) (λq hq r e _ g=>o.of _ _ g (n _ (h.fr q (fN _ hq) r e))),h.ab.up (λ_ e=>o.of _ _ e (n _ f7)) (λ_ e=>o.of _ _ e (n _ f8)) (λq hq r e _ g=>o.of _ _ g (n _ (h.fr q (YW _ hq) r e))),h.nd,h.na,h.nb,h.fp,h.fa,h.fr,λa fa=>?_,h.me,h.h0,h.h1⟩;cases e:H a with
 |none=>exact absurd e (h.dm a fa)
 |some u=>rw[o.of a u e (n a fa)];intro z;cases z
theorem yX.same(h:yX K mg H F p me nu ha ro x)(s:aO H H'):yX K mg H' F p me nu ha ro x:=h.off (G:=λ_=>False) (.sm s) λ_ _ z=>z
theorem yX.mono(h:yX K mg H F p me nu ha ro x)(m:∀a,F a->G a)(d:∀a,G a->H a≠Yb):yX K mg H G p me nu ha ro x:=by
 obtain⟨f1,f2,f3,f4,f5,f6,f7,f8⟩:=h.fa;exact⟨h.ob,h.hd,h.ht,h.hk,h.ho,h.ta,h.ab,h.nd,h.na,h.nb,m _ h.fp,⟨m _ f1,m _ f2,m _ f3,m _ f4,m _ f5,m _ f6,m _ f7,m _ f8⟩,λq hq r e=>m _ (h.fr q hq r e),d,h.me,h.h0,h.h1⟩
end
def vH(K:Ye)(mg:Yj->Option Yd):Sp:=λvs H Q _=>E5 fun(p:Yc) (me nu ha ro:Int)=>vs=[.ref p,.int me,.int nu,.int ha,.int ro]/\(E2 λC dx=>A7 (mg "Page"=Ya (.ref C)) (Rv K C) (H p=Ya (.ins C dx [])) (0<=ha) (ha<9223372036854775808) (me∈GB.hl ha) (∀H' x,(∀b o,H b=Ya o->b≠p->H' b=Ya o)->yX K mg H' (Gw (λa=>a=p) H H') p me nu ha ro x->Q .non H'))
abbrev Vy:List Yj:=["self","me","number","hands","room"]
theorem Jk:aD ["self","me","number","hands","room"] Vy (aA oW):=gF
variable{vz:Yc}{tL:Yt}(mG:∅ 4 vz tL Dy (tM K))(mW:Binds K tL Dy [])(Cr:Mk K fG vz)
include eV mG mW bJ bR Cr in
theorem JL(F:bW K "__init__" "Page.__init__" oW f fd):∅ 6 f fd Vy (vH K mg):=by
 refine F.oj Jk ?_;rintro _ A _ _ H _ _ _ hr _ _ _ ⟨p,me,nu,ha,ro,rfl,h⟩;refine⟨_,(ak (aQ (K:=K) rfl (pv 0) (pv 1) rfl)
   (ak (aQ (K:=K) rfl (pv 0) (pv 2) rfl)
   (ak (aQ (K:=K) rfl (pv 0) (pv 3) rfl)
   (ak (aQ (K:=K) rfl (pv 0) (pv 4) rfl)
   (ak (aQ (K:=K) rfl (pv 0) aC rfl)
   (ak (aQ (K:=K) rfl (pv 0) sG rfl)
   (ak (aQ (K:=K) rfl (pv 0) (eU ao) rfl)
   (ak (aQ (K:=K) rfl (pv 0) WY rfl)
   (ak (aQ (K:=K) rfl (pv 0) (eU ao) rfl)
   (ak (aQ (K:=K) rfl (pv 0) (Hd Cr mG hr rfl bR mW .nil qZ (aj (pv 3) ao)) rfl)
   (aq (aQ (K:=K) rfl (pv 0) (Hd Cr mG hr rfl bR mW .nil qZ (aj (pv 3) ao)) rfl)))))))))))),?_⟩
 refine am8 ?_;intro _ _ _ _ _ _ _ _ _;obtain⟨C,dx,mP,T,hp,h0,h1,hme,kk⟩:=h;obtain⟨cl,n1,n2,n3,n4,n5,n6,n7,n8,n9,n10,n11⟩:=id T;cbv;intro H1 b1 g1;cbv;intro H2 b2 g2;cbv;intro H3 b3 g3;cbv;intro H4 b4 g4;cbv;intro H5 b5 g5;have k5:∀b o,H b=Ya o->b≠p->H5 b=Ya o:=λb o e n=>b5.at n (b4.at n (b3.at n (b2.at n (b1.at n e))));cbv;intro d A1 hd s1 gd;have g5':=s1 _ _ g5;cbv;intro H6 b6 g6;cbv;intro t A2 ht s2 gt;have g6':=s2 _ _ g6;cbv;intro H7 b7 g7;cbv;intro k hk;have s3:=aF (o:=.dT []) hk;have gk:(upd H7 k (.dT [])) k=Ya (.dT []):=aB;generalize upd H7 k (.dT [])=A3 at s3 gk⊢;have g7':=s3 _ _ g7;cbv;intro H8 b8 g8;cbv;intro o A4 ho s4 go;have g8':=s4 _ _ g8;cbv;intro H9 b9 g9;have k9:∀b u,H b=Ya u->b≠p->H9 b=Ya u:=λb u e n=>b9.at n (s4 _ _ (b8.at n (s3 _ _ (b7.at n (s2 _ _ (b6.at n (s1 _ _ (k5 b u e n))))))));have np:∀{a:Yc} {A:Hp} {u:HO},A p=Ya u->A a=Yb->a≠p:=λe n z=>by rw[z]at n;rw[n]at e;cases e
 have ndp:=np g5 hd;have ntp:=np g6 ht;have nkp:=np g7 hk;have nop:=np g8 ho;have gd9:H9 d=Ya (.dK []):=b9.at ndp (s4 _ _ (b8.at ndp (s3 _ _ (b7.at ndp (s2 _ _ (b6.at ndp gd))))));have gt9:H9 t=Ya (.lst []):=b9.at ntp (s4 _ _ (b8.at ntp (s3 _ _ (b7.at ntp gt))));have gk9:H9 k=Ya (.dT []):=b9.at nkp (s4 _ _ (b8.at nkp gk));have go9:H9 o=Ya (.lst []):=b9.at nop go;have fr:∀{a:Yc} {A:Hp},(∀b u,H b=Ya u->b≠p->A b=Ya u)->a≠p->A a=Yb->H a=none:=fun{a A} kA n e=>by
  cases z:H a with
  |none=>rfl
  |some u=>rw[kA a u z n]at e;cases e
 have k6:∀b u,H b=Ya u->b≠p->H6 b=Ya u:=λb u e n=>b6.at n (s1 _ _ (k5 b u e n));have k7:∀b u,H b=Ya u->b≠p->H7 b=Ya u:=λb u e n=>b7.at n (s2 _ _ (k6 b u e n));have k8:∀b u,H b=Ya u->b≠p->H8 b=Ya u:=λb u e n=>b8.at n (s3 _ _ (k7 b u e n));have fd:=fr k5 ndp hd;have ft:=fr k6 ntp ht;have fk:=fr k7 nkp hk;have fo:=fr k8 nop ho;cbv;intro q1 e1 A5 hq1 s5 gq1;have g9':=s5 _ _ g9;refine⟨q1,ha,rfl,_,e1,bJ,gq1,h0,h1,λA6 da ra k6' gq gda hka hra apa fda fra=>⟨rfl,?_⟩⟩;have nq1:q1≠p:=np g9 hq1;have g9'':=k6' _ _ g9' (Ne.symm nq1);cbv;intro H10 b10 g10;have k10:∀b u,H9 b=Ya u->b≠p->b≠q1->H10 b=Ya u:=λb u e n1 n2=>b10.at n1 (k6' _ _ (s5 _ _ e) n2);cbv;intro q2 e2 A7 hq2 s7 gq2;have g10':=s7 _ _ g10;refine⟨q2,ha,rfl,_,e2,bJ,gq2,h0,h1,λA8 db rb k8' gq' gdb hkb hrb apb fdb frb=>⟨rfl,?_⟩⟩;have nq2:q2≠p:=np g10 hq2;have g10'':=k8' _ _ g10' (Ne.symm nq2);cbv;intro H11 b11 g11;rw[ahq]at g11;have k11:∀b u,H10 b=Ya u->b≠p->b≠q2->H11 b=Ya u:=λb u e n1 n2=>b11.at n1 (k8' _ _ (s7 _ _ e) n2);have nn1:∀{a u},H9 a=Ya u->a≠q1:=λe z=>by rw[z,hq1]at e;cases e
 have nn2:∀{a u},H10 a=Ya u->a≠q2:=λe z=>by rw[z,hq2]at e;cases e
 have up:∀{a u},H9 a=Ya u->a≠p->H11 a=Ya u:=fun{a u} e n=>by
  have e10:=k10 _ _ e n (nn1 e);exact k11 _ _ e10 n (nn2 e10)
 have nda:da≠p:=λz=>by rw[z,g9']at fda;cases fda
 have ndb:db≠p:=λz=>by rw[z,g10']at fdb;cases fdb
 have gq10:H10 q1=Ya (.ins _ _ [("learnt",.ref da)]):=b10.at nq1 gq;have gq11:=k11 _ _ gq10 nq1 (nn2 gq10);have gda10:H10 da=Ya (.dK (dG ra)):=b10.at nda gda;have gda11:=k11 _ _ gda10 nda (nn2 gda10);have em10:∀q∈ra,EmD H10 q.2:=λq hq=>let ⟨r,e,g⟩:=hra q hq;⟨r,e,b10.at (λz=>by rw[z,g9'']at g;cases g) g⟩;have em11:∀q∈ra,EmD H11 q.2:=λq hq=>let ⟨r,e,g⟩:=em10 q hq;⟨r,e,k11 _ _ g (λz=>by rw[z,g10]at g;cases g) (nn2 g)⟩;have em12:∀q∈rb,EmD H11 q.2:=λq hq=>let ⟨r,e,g⟩:=hrb q hq;⟨r,e,b11.at (λz=>by rw[z,g10'']at g;cases g) g⟩;have gdb11:H11 db=Ya (.dK (dG rb)):=b11.at ndb gdb;have gqb11:=b11.at nq2 gq';have kA:T4 mg H11 q1 da ra ha:=⟨⟨_,_,bR,gq11⟩,gda11,hka,em11,apa⟩;have kB:T4 mg H11 q2 db rb ha:=⟨⟨_,_,bR,gqb11⟩,gdb11,hkb,em12,apb⟩;have h10n:∀{a:Yc},a≠p->H10 a=Yb->H a=none:=fun{a} n e=>by
  cases z:H a with
  |none=>rfl
  |some u=>
   have e9:=k9 a u z n;rw[k10 _ _ e9 n (nn1 e9)]at e;cases e
 have gw:∀{a u},H11 a=Ya u->(a=p∨H a=Yb)->Gw (λa=>a=p) H H11 a:=λe h=>⟨h,by rw[e];intro z;cases z⟩;have h9n:∀{a:Yc},a≠p->H9 a=Yb->H a=none:=λn e=>fr k9 n e;refine kk H11 ⟨d,t,k,o,q1,da,q2,db,ra,rb⟩ (λb u e n=>up (k9 b u e n) n) ⟨⟨C,dx,mP,T,g11⟩,up gd9 ndp,up gt9 ntp,up gk9 nkp,up go9 nop,kA,kB,⟨?_,?_,?_⟩,λq hq w=>?_,λq hq w=>?_,gw g11 (.inl rfl),⟨gw (up gd9 ndp) (.inr fd),gw (up gt9 ntp) (.inr ft),gw (up gk9 nkp) (.inr fk),gw (up go9 nop) (.inr fo),gw gq11 (.inr (h9n nq1 hq1)),gw gda11 (.inr (h9n nda (s5.free fda))),gw gqb11 (.inr (h10n nq2 hq2)),gw gdb11 (.inr (h10n ndb (s7.free fdb)))⟩,λq hq r e=>?_,λa f=>f.2,hme,h0,h1⟩
 ·intro z;have z:d=da:=z;rw[←z,s5 _ _ gd9]at fda;cases fda
 ·intro z;have z:d=db:=z;rw[←z,s7 _ _ (k10 _ _ gd9 ndp (nn1 gd9))]at fdb;cases fdb
 ·intro z;have z:da=db:=z;rw[←z,s7 _ _ gda10]at fdb;cases fdb
 ·obtain⟨r,e,g⟩:=em10 q hq;have w:q.2=.ref db:=w;rw[e]at w;cases w;rw[s7 _ _ g]at fdb;cases fdb
 ·have n:=frb q hq _ w;rw[s7 _ _ gda10]at n;cases n
 ·rcases ai.mp hq with z|z
  ·have n:=fra q z _ e;obtain⟨r',e',g⟩:=em11 q z;rw[e]at e';cases e';exact gw g (.inr (h9n (λw=>by rw[w,g9']at n;cases n) (s5.free n)))
  ·have n:=frb q z _ e;obtain⟨r',e',g⟩:=em12 q z;rw[e]at e';cases e';exact gw g (.inr (h10n (λw=>by rw[w,g10']at n;cases n) (s7.free n)))
def rQ(K:Ye)(mg:Yj->Option Yd):Sp:=λvs H Q _=>∃(p:Yc),vs=[.ref p]/\(E6 λF me nu ha ro x=>yX K mg H F p me nu ha ro x/\∀H' l,aO H H'->H l=Yb->H' l=Ya (.lst [])->Q (.ref l) H')
theorem Fw:aD ["self"] bx (aA lB):=gF
variable{Ro:Yc}{dY:Yc}{M4:Yt}(Cw:∅ 3 Ro M4 ["calls"] (MJ K))(Cu:gW K mg "by_rank" Ro M4 ["calls"])(aZ:Rv K dY)(bA:mg "Page"=Ya (.ref dY))
include eV Cw Cu fK aZ bA in
theorem Ft(F:bW K "kept_calls" "Page.kept_calls" lB f fd):∅ 4 f fd bx (rQ K mg):=by
 refine F.oj Fw ?_;rintro _ _ _ _ H _ _ _ hr _ _ _ ⟨p,rfl,h⟩;refine⟨_,(aq (aR (bh Cw Cu hr (aj (bZ (Km rfl) (by rfl) fK d6 (aj (RQ gi fA lj Wy (au (K:=K) rfl (pv 0) rfl)) ao)) ao)))),?_⟩;obtain⟨F',me,nu,ha,ro,x,PA,kk⟩:=h;obtain⟨C,dx,mP,T,hp⟩:=PA.ob;obtain⟨cl,n1,n2,n3,n4,n5,n6,n7,n8,n9,n10,n11⟩:=id T;have gk:=PA.hk;cbv;refine⟨.inr (.inr (.inl ⟨rfl,.inr ⟨_,gk⟩⟩)),x.k,_,rfl,rfl,gk,λv hv=>?_⟩;have s1:=aF (o:=Ur v x.k) hv;have g1:(upd H v (Ur v x.k)) v=Ya (Ur v x.k):=aB;generalize upd H v (Ur v x.k)=H1 at s1 g1⊢;cbv;refine⟨v,x.k,_,rfl,g1,.inl (s1 _ _ gk),YZ _,λl hl'=>?_⟩;have s2:=aF (o:=.lst (([]:List (List dC×V)).map (·.2))) hl';have g2:(upd H1 l (.lst (([]:List (List dC×V)).map (·.2)))) l=Ya (.lst []):=aB;generalize upd H1 l (.lst (([]:List (List dC×V)).map (·.2)))=H2 at s2 g2⊢;cbv;exact⟨l,rfl,bI.of g2,λH3 D s3 hD g3=>kk H3 D (s1.trans (s2.trans s3)) (s1.free (s2.free hD)) g3⟩
def Ah(K:Ye)(mg:Yj->Option Yd):Sp:=λvs H Q _=>∃(p:Yc),vs=[.ref p]/\(E6 λF me nu ha ro x=>yX K mg H F p me nu ha ro x/\∀H' x',Off F H H'->yX K mg H' (Gw F H H') p me nu ha ro x'->Q .non H')
theorem yX.newk{F:Yc->Prop}{p:Yc}{me nu ro:Int}{x:PgX}{k':Yc}(h:yX K mg H F p me nu ha ro x)(o:Off (λa=>a=p∨a=x.k) H H')(ob:∃C dx,mg "Page"=Ya (.ref C)/\Rv K C/\H' p=Ya (.ins C dx (Ji (.int me) (.int nu) (.int ha) (.int ro) (.int 0) (.ref x.d) (.ref x.t) (.ref k') (.ref x.o) (.ref x.ta) (.ref x.ab))))(gk:H' k'=Ya (.dT []))(fk:H k'=Yb):yX K mg H' (Gw F H H') p me nu ha ro {x with k:=k'}:=by
 obtain⟨C,dx,e1,e2,hp⟩:=h.ob;obtain⟨f1,f2,f3,f4,f5,f6,f7,f8⟩:=h.fa;have nk:∀{a u},H a=Ya u->u≠.dT []->(∀C dx fs,u=.ins C dx fs->fs.length≠11)->H' a=Ya u:=fun{a u} e n1 n2=>o.of _ _ e λz=>by
  rcases z with z|z
  ·rw[z,hp]at e;cases e;exact n2 _ _ _ rfl rfl
  ·rw[z,h.hk]at e;cases e;exact n1 rfl
 have g:∀{a u},F a->H' a=Ya u->Gw F H H' a:=λf e=>⟨.inl f,by rw[e];intro z;cases z⟩;have kn:∀{a da:Yc} {rs:List (Int×V)},T4 mg H a da rs ha->T4 mg H' a da rs ha:=fun{a da rs} k=>by
  obtain⟨⟨C1,dx1,q1,q2⟩,q3,q4,q5,q6⟩:=k;exact⟨⟨C1,dx1,q1,nk q2 (by intro z;cases z) (by intro _ _ _ z;cases z;show(1:Nat)≠11;decide)⟩,nk q3 (by intro z;cases z) (by intro _ _ _ z;cases z),q4,λq hq=>let ⟨r,e,w⟩:=q5 q hq;⟨r,e,nk w (by intro z;cases z) (by intro _ _ _ z;cases z)⟩,q6⟩
 have kA:=kn h.ta;have kB:=kn h.ab;obtain⟨⟨_,_,_,a1⟩,a2,_,a4,_⟩:=id kA;obtain⟨⟨_,_,_,b1⟩,b2,_,b4,_⟩:=id kB;obtain⟨C',dx',o1,o2,o3⟩:=id ob;have hd:=nk h.hd (by intro z;cases z) (by intro _ _ _ z;cases z);have ht:=nk h.ht (by intro z;cases z) (by intro _ _ _ z;cases z);have ho:=nk h.ho (by intro z;cases z) (by intro _ _ _ z;cases z);refine⟨ob,hd,ht,gk,ho,kA,kB,h.nd,h.na,h.nb,g h.fp o3,⟨g f1 hd,g f2 ht,⟨.inr fk,by rw[gk];intro z;cases z⟩,g f4 ho,g f5 a1,g f6 a2,g f7 b1,g f8 b2⟩,λq hq r e=>?_,λa f=>f.2,h.me,h.h0,h.h1⟩;rcases ai.mp hq with z|z
 ·obtain⟨r',e',w⟩:=a4 q z;rw[e]at e';cases e';exact g (h.fr q hq _ e) w
 ·obtain⟨r',e',w⟩:=b4 q z;rw[e]at e';cases e';exact g (h.fr q hq _ e) w
theorem Be:aD ["self","floor"] bx (aA u0):=gF
variable{uQ:Yc}{qO:Yt}(CZ:∅ 3 uQ qO bx (rR K mg))(oh:Binds K qO bx [])(dZ:bU K fG "floor" uQ)
include eV CZ oh iJ bJ aZ bR bA dZ in
theorem O2(F:bW K "let_go" "Page.let_go" u0 f fd):∅ 4 f fd bx (Ah K mg):=by
 refine F.oj Be ?_;rintro _ A _ _ H _ _ _ hr hu64 _ _ ⟨p,rfl,h⟩;refine⟨_,(ak (aV (i:=1) Be.nd rfl (Or.inr rfl) (bM (cH.cons bJ.cl dZ CZ oh cH.nil) (au (K:=K) rfl (pv 0) rfl) hr))
   (aq (aQ (K:=K) rfl (pv 0) (bZ (zc rfl (hV (lP (by decide) _) hu64)) (by rfl) iJ gN (aj (cu ["floor","name","call"] [Ya 1,Yb,Yb] rfl rfl (by kernel_rfl) (acV (au (K:=K) rfl (pv 0) rfl)) (λ_ _ _ _ _ nd=>Hj (K:=K) (n:=2) rfl rfl (jK (aW (i:=1) nd rfl (Or.inl rfl)) (jK (aW (i:=2) nd rfl (Or.inl rfl)) Hk))) (λ_ _ _ _ _=>(jL By)) (λ_ _ _ _ _=>fJ)) ao)) rfl))),?_⟩
 obtain⟨F',me,nu,ha,ro,x,PA,kk⟩:=h;obtain⟨C,dx,mP,T,hp⟩:=PA.ob;obtain⟨cl,n1,n2,n3,n4,n5,n6,n7,n8,n9,n10,n11⟩:=id T;obtain⟨⟨C1,dx1,e1,h1⟩,_⟩:=id PA.ta;rw[bR]at e1;cases e1;have tK:=bJ.cl;have nL:=bJ.n1;cbv;refine⟨x.ta,rfl,x.da,x.ra,ha,PA.ta,λH1 fl s1 nJ g1=>?_⟩;have hp1:=s1 _ _ hp;have P1:=PA.same s1;have gk1:=P1.hk;cbv;refine ai1 gk1 λo A hA sA=>?_;intro D hD;refine Vs (λi σ B=>aO A B/\B D=Ya (.lst [])) ⟨aF hD,aB⟩ (λi σ B _ z=>z.1 _ _ hA) (λi k v t b σ B B1 hkv=>by simp at hkv) ?_;rintro σ B ⟨sB,gD⟩;refine⟨D,[],[],rfl,gD,.nil,YZ _,λk' hk'=>?_⟩;have s3:=aF (o:=.dT (uy [])) hk';have g3:(upd B k' (.dT (uy []))) k'=Ya (.dT []):=aB;generalize upd B k' (.dT (uy []))=H3 at s3 g3⊢;have npk:p≠x.k:=bj hp1 gk1 (by intro z;cases z);have hp3:=s3 _ _ (sB _ _ (sA _ _ npk hp1));cbv;intro H4 b4 g4;rw[aah]at g4;have off4:∀b u,H b=Ya u->b≠p->b≠x.k->H4 b=Ya u:=λb u e m1 m2=>b4.at m1 (s3 _ _ (sB _ _ (sA _ _ m2 (s1 _ _ e))));have fk:H k'=none:=by
  cases z:H k' with
  |none=>rfl
  |some u=>
   by_cases w:k'=x.k
   ·rw[w,sB _ _ hA]at hk';cases hk'
   ·rw[sB _ _ (sA _ _ w (s1 _ _ z))]at hk';cases hk'
 have nkp:k'≠p:=λz=>by rw[z,hp]at fk;cases fk
 have o4:Off (λa=>a=p∨a=x.k) H H4:=⟨λb u e n=>off4 b u e (λz=>n (.inl z)) λz=>n (.inr z),λa xs e=>off4 _ _ e (bj e hp (by intro z;cases z)) (bj e PA.hk (by intro z;cases z)),λa φ e=>off4 _ _ e (bj e hp (by intro z;cases z)) (bj e PA.hk (by intro z;cases z))⟩;exact kk H4 _ (o4.mono λa z=>z.elim (λw=>w▸PA.fp) λw=>w▸PA.fa.2.2.1) (PA.newk o4 ⟨C,dx,mP,T,g4⟩ (b4.at nkp g3) fk)
def Gr(F:Yc->Prop)(H0:Hp)(G:Yc->Prop):Prop:=∀a,G a->F a∨H0 a=Yb
theorem Off.run{F:Yc->Prop}(s:Off F H0 H)(g:Gr F H0 G)(o:Off G H H'):Off F H0 H':=
 ⟨λb u e n=>o.of b u (s.of b u e n) (λz=>(g b z).elim n λw=>by rw[e]at w;cases w),λa xs e=>o.tp _ _ (s.tp _ _ e),λa φ e=>o.ex _ _ (s.ex _ _ e)⟩
theorem Gr.run{F:Yc->Prop}(s:Off F H0 H)(g:Gr F H0 G)(g':Gr G H G'):Gr F H0 G':=λa z=>(g' a z).elim (g a) λw=>s.none w
theorem Gr.gw{F:Yc->Prop}:Gr F H (Gw F H H'):=λ_ z=>z.1
theorem Gr.self{F:Yc->Prop}:Gr F H F:=λ_ z=>.inl z
noncomputable def aeo(n:Int):V:=match GB.hl n with|[]=>.non|a::_=>.int a
def WM(K:Ye):Sp:=λvs H Q _=>∃n:Int,vs=[.int n]/\0<=n/\n<9223372036854775808/\∀H',aO H H'->Q (aeo n) H'
theorem age:aD ["hands"] Fl (aA RV):=gF
include eV lY mV abO in
theorem agf(F:bW K "least" "least" RV f fd):∅ 4 f fd Fl (WM K):=by
 refine F.oj age ?_;rintro _ _ _ _ _ _ _ _ hr _ _ _ ⟨n,rfl,h⟩;refine⟨_,(aq (aR (acA (adu rfl) (by rfl) abO A0 (aj (bh lY mV hr (aj (pv 0) ao)) ao) (ahI bV ai9)))),?_⟩;obtain⟨h0,h1,kk⟩:=h;cbv;refine al8 ?_;cbv;refine⟨n,rfl,h0,h1,λH1 l hl s1 g1=>?_⟩;cbv;refine⟨l,GB.hl n,_,rfl,rfl,bI.of g1,λe=>?_,λb hb hm=>?_⟩
 ·have:=kk H1 s1;unfold aeo at this;rw[e]at this;exact this
 ·have:=kk H1 s1;unfold aeo at this;cases e:GB.hl n with
  |nil=>rw[e]at hb;cases hb
  |cons a r=>
   rw[e]at this;have q1:=GB.agi e b hb;have q2:=hm a (by rw[e];exact Yl);have:b=a:=by omega
   subst this;assumption
section
variable{F:Yc->Prop}{p:Yc}{me nu ro:Int}{x:PgX}
theorem yX.newo{o':Yc}(h:yX K mg H F p me nu ha ro x)(b:But p H H')
  (ob:∃C dx,mg "Page"=Ya (.ref C)/\Rv K C/\H' p=Ya (.ins C dx (Ji (.int me) (.int nu) (.int ha) (.int ro) (.int 0) (.ref x.d) (.ref x.t) (.ref x.k) (.ref o') (.ref x.ta) (.ref x.ab)))) (go:H' o'=Ya (.lst [])) (fo:F o'∨H o'=Yb):Off F H H'/\yX K mg H' (Gw F H H') p me nu ha ro {x with o:=o'}:=by
 obtain⟨C,dx,e1,e2,hp⟩:=h.ob;obtain⟨f1,f2,f3,f4,f5,f6,f7,f8⟩:=h.fa;have nk:∀{a u},H a=Ya u->(∀C dx fs,u=.ins C dx fs->fs.length≠11)->H' a=Ya u:=fun{a u} e n2=>b.at (λz=>by rw[z,hp]at e;cases e;exact n2 _ _ _ rfl rfl) e;have g:∀{a u},F a->H' a=Ya u->Gw F H H' a:=λf e=>⟨.inl f,by rw[e];intro z;cases z⟩;have kn:∀{a da:Yc} {rs:List (Int×V)},T4 mg H a da rs ha->T4 mg H' a da rs ha:=fun{a da rs} k=>by
  obtain⟨⟨C1,dx1,q1,q2⟩,q3,q4,q5,q6⟩:=k;exact⟨⟨C1,dx1,q1,nk q2 (by intro _ _ _ z;cases z;show(1:Nat)≠11;decide)⟩,nk q3 (by intro _ _ _ z;cases z),q4,λq hq=>let ⟨r,e,w⟩:=q5 q hq;⟨r,e,nk w (by intro _ _ _ z;cases z)⟩,q6⟩
 have kA:=kn h.ta;have kB:=kn h.ab;obtain⟨⟨_,_,_,a1⟩,a2,_,a4,_⟩:=id kA;obtain⟨⟨_,_,_,b1⟩,b2,_,b4,_⟩:=id kB;obtain⟨C',dx',o1,o2,o3⟩:=id ob;have hd:=nk h.hd (by intro _ _ _ z;cases z);have ht:=nk h.ht (by intro _ _ _ z;cases z);have hk:=nk h.hk (by intro _ _ _ z;cases z);refine⟨.but b hp h.fp (by intro _ z;cases z) (by intro _ z;cases z),ob,hd,ht,hk,go,kA,kB,h.nd,h.na,h.nb,g h.fp o3,⟨g f1 hd,g f2 ht,g f3 hk,⟨fo,by rw[go];intro z;cases z⟩,g f5 a1,g f6 a2,g f7 b1,g f8 b2⟩,λq hq r e=>?_,λa f=>f.2,h.me,h.h0,h.h1⟩;rcases ai.mp hq with z|z
 ·obtain⟨r',e',w⟩:=a4 q z;rw[e]at e';cases e';exact g (h.fr q hq _ e) w
 ·obtain⟨r',e',w⟩:=b4 q z;rw[e]at e';cases e';exact g (h.fr q hq _ e) w
theorem yX.lrb{rb':List (Int×V)}(h:yX K mg H F p me nu ha ro x)(s:SmB x.db H H')(kn:T4 mg H' x.ab x.db rb' ha)(fr:∀q∈rb',q∈x.rb∨∃r,q.2=.ref r/\H r=Yb):Off F H H'/\yX K mg H' (Gw F H H') p me nu ha ro {x with rb:=rb'}:=by
 obtain⟨C,dx,e1,e2,hp⟩:=h.ob;obtain⟨f1,f2,f3,f4,f5,f6,f7,f8⟩:=h.fa;obtain⟨_,hb,_⟩:=id h.ab;have nk:∀{a u},H a=Ya u->(∀m,u≠.dK m)->H' a=Ya u:=fun{a u} e n=>s _ _ (λz=>by rw[z,hb]at e;cases e;exact n _ rfl) e;have g:∀{a u},F a->H' a=Ya u->Gw F H H' a:=λf e=>⟨.inl f,by rw[e];intro z;cases z⟩;have kA:T4 mg H' x.ta x.da x.ra ha:=h.ta.up (λ_ e=>s _ _ (λz=>by obtain⟨⟨_,_,_,q⟩,_⟩:=h.ta;rw[z,hb]at q;cases q) e) (λ_ e=>s _ _ h.nd.2.2 e) λq hq r e _ w=>s _ _ (λz=>h.na q hq (by rw[e,z])) w;obtain⟨⟨_,_,_,a1⟩,a2,_,a4,_⟩:=id kA;obtain⟨⟨_,_,_,b1⟩,b2,_,b4,_⟩:=id kn;have hd:=s _ _ h.nd.2.1 h.hd;have ht:=nk h.ht (by intro _ z;cases z);have hk:=nk h.hk (by intro _ z;cases z);have ho:=nk h.ho (by intro _ z;cases z);have hp':=nk hp (by intro _ z;cases z);refine⟨.smb s hb f8 (by intro _ z;cases z) (by intro _ z;cases z),⟨C,dx,e1,e2,hp'⟩,hd,ht,hk,ho,kA,kn,h.nd,h.na,λq hq w=>?_,g h.fp hp',⟨g f1 hd,g f2 ht,g f3 hk,g f4 ho,g f5 a1,g f6 a2,g f7 b1,g f8 b2⟩,λq hq r e=>?_,λa f=>f.2,h.me,h.h0,h.h1⟩
 ·have w:q.2=.ref x.da:=w;rcases fr q hq with z|⟨r,e,z⟩
  ·exact h.nb q z w
  ·rw[w]at e;cases e;obtain⟨_,q2,_⟩:=h.ta;rw[q2]at z;cases z
 ·rcases ai.mp hq with z|z
  ·obtain⟨r',e',w⟩:=a4 q z;rw[e]at e';cases e';exact g (h.fr q (fN _ z) _ e) w
  ·obtain⟨r',e',w⟩:=b4 q z;rw[e]at e';cases e';rcases fr q z with y|⟨r2,e2,y⟩
   ·exact g (h.fr q (YW _ y) _ e) w
   ·rw[e]at e2;cases e2;exact⟨.inr y,by rw[w];intro z;cases z⟩
theorem yX.lra{ra':List (Int×V)}(h:yX K mg H F p me nu ha ro x)(s:SmB x.da H H')(kn:T4 mg H' x.ta x.da ra' ha)(fr:∀q∈ra',q∈x.ra∨∃r,q.2=.ref r/\H r=Yb):Off F H H'/\yX K mg H' (Gw F H H') p me nu ha ro {x with ra:=ra'}:=by
 obtain⟨C,dx,e1,e2,hp⟩:=h.ob;obtain⟨f1,f2,f3,f4,f5,f6,f7,f8⟩:=h.fa;obtain⟨_,hb,_⟩:=id h.ta;have nk:∀{a u},H a=Ya u->(∀m,u≠.dK m)->H' a=Ya u:=fun{a u} e n=>s _ _ (λz=>by rw[z,hb]at e;cases e;exact n _ rfl) e;have g:∀{a u},F a->H' a=Ya u->Gw F H H' a:=λf e=>⟨.inl f,by rw[e];intro z;cases z⟩;have kB:T4 mg H' x.ab x.db x.rb ha:=h.ab.up (λ_ e=>s _ _ (λz=>by obtain⟨⟨_,_,_,q⟩,_⟩:=h.ab;rw[z,hb]at q;cases q) e) (λ_ e=>s _ _ h.nd.2.2.symm e) λq hq r e _ w=>s _ _ (λz=>h.nb q hq (by rw[e,z])) w;obtain⟨⟨_,_,_,a1⟩,a2,_,a4,_⟩:=id kn;obtain⟨⟨_,_,_,b1⟩,b2,_,b4,_⟩:=id kB;have hd:=s _ _ h.nd.1 h.hd;have ht:=nk h.ht (by intro _ z;cases z);have hk:=nk h.hk (by intro _ z;cases z);have ho:=nk h.ho (by intro _ z;cases z);have hp':=nk hp (by intro _ z;cases z);refine⟨.smb s hb f6 (by intro _ z;cases z) (by intro _ z;cases z),⟨C,dx,e1,e2,hp'⟩,hd,ht,hk,ho,kn,kB,h.nd,λq hq w=>?_,h.nb,g h.fp hp',⟨g f1 hd,g f2 ht,g f3 hk,g f4 ho,g f5 a1,g f6 a2,g f7 b1,g f8 b2⟩,λq hq r e=>?_,λa f=>f.2,h.me,h.h0,h.h1⟩
 ·have w:q.2=.ref x.db:=w;rcases fr q hq with z|⟨r,e,z⟩
  ·exact h.na q z w
  ·rw[w]at e;cases e;obtain⟨_,q2,_⟩:=h.ab;rw[q2]at z;cases z
 ·rcases ai.mp hq with z|z
  ·obtain⟨r',e',w⟩:=a4 q z;rw[e]at e';cases e';rcases fr q z with y|⟨r2,e2,y⟩
   ·exact g (h.fr q (fN _ y) _ e) w
   ·rw[e]at e2;cases e2;exact⟨.inr y,by rw[w];intro z;cases z⟩
  ·obtain⟨r',e',w⟩:=b4 q z;rw[e]at e';cases e';exact g (h.fr q (YW _ z) _ e) w
end
def Jb(K:Ye)(mg:Yj->Option Yd):Sp:=λvs H Q _=>∃(p:Yc),vs=[.ref p]/\(E6 λF me nu ha ro x=>yX K mg H F p me nu ha ro x/\∀H' G x' l,Off F H H'->yX K mg H' G p me nu ha ro x'->Gr F H G->H' l=Ya (.lst [])->Q (.ref l) H')
theorem lE:aD ["self","calls","sure_places","row","call"] bx (aA Bc):=gF
variable{Ej:Yc}{Iw:Yc}{sI:Yc}{De:Yc}{abU:Yc}{zM:Yt}{Ea:Yt}{rE:Yt}{Bj:Yt}{Vm:Yt}(Mm:∅ 4 ae3 aaW Bm (aa6 K))(uN:∅ 4 Ej zM We (Bl K mg))(uG:Binds K zM We [])(Ir:∅ 4 Iw Ea V6 (Dh K))(GQ:Binds K Ea V6 [])(d8:∅ 4 sI rE bx (rQ K mg))(d7:Binds K rE bx [])(DP:∅ 4 De Bj bx (Ah K mg))(Ef:Binds K Bj bx [])(aca:∅ 4 abU Vm Fl (WM K))(abQ:gW K mg "least" abU Vm Fl)(gH:bU K fG "learn" Ej)(jF:bU K fG "sure" Iw)(bQ:bU K dY "kept_calls" sI)(jd:bU K dY "let_go" De)
include eV Mm VN Ii GF uN uG Ir GQ d8 d7 DP Ef aca abQ bJ aZ bR bA gH jF bQ jd in
theorem R0(F:bW K "step" "Page.step" Bc f fd):∅ 5 f fd bx (Jb K mg):=by
 refine F.oj lE ?_;rintro _ A _ _ H _ _ E hr _ _ _ ⟨p,rfl,h⟩;refine⟨_,(ak (aV (i:=1) lE.nd rfl (Or.inl rfl) (bM (cH.cons aZ.cl bQ d8 d7 cH.nil) (pv 0) hr))
   (ak (cF (aX yP (au (K:=K) rfl (pv 0) rfl) (bh aca abQ hr (aj (au (K:=K) rfl (pv 0) rfl) ao)) (bc _)) (aq (aQ (K:=K) rfl (pv 0) (bf (aN (K:=K) rfl) (bh Ii GF hr (aj (au (K:=K) rfl (pv 0) rfl) (aj (pv 1) (aj (au (K:=K) rfl (pv 0) rfl) ao)))) aC (λ_ _=>rfl)) rfl)) bG)
   (ak (bT (bD (cH.cons bJ.cl gH uN uG cH.nil) (au (K:=K) rfl (pv 0) rfl) hr (aj (au (K:=K) rfl (pv 0) rfl) (aj (bf (aN (K:=K) rfl) (bh Mm VN hr (aj (au (K:=K) rfl (pv 0) rfl) (aj (pv 1) (aj (au (K:=K) rfl (pv 0) rfl) ao)))) aC (λ_ _=>rfl)) ao))))
   (ak (aV (i:=2) lE.nd rfl (Or.inl rfl) (lK (qT (K:=K) rfl) (au (K:=K) rfl (pv 0) rfl) xG (kW (bD (cH.cons bJ.cl jF Ir GQ cH.nil) (au (K:=K) rfl (pv 0) rfl) hr (aj (au (K:=K) rfl (pv 0) rfl) ao)))))
   (ak (aV (i:=3) lE.nd rfl (Or.inl rfl) (bf (aN (K:=K) rfl) (bh Mm VN hr (aj (au (K:=K) rfl (pv 0) rfl) (aj (pv 1) (aj (pv 2) ao)))) aC (λ_ _=>rfl)))
   (ak (jc Y8 rfl (bC (K:=K) rfl (pv 3)) (aW (i:=4) lE.nd rfl (Or.inl rfl))
   (aq cz))
   (ak (bT (bD (cH.cons bJ.cl gH uN uG cH.nil) (au (K:=K) rfl (pv 0) rfl) hr (aj (au (K:=K) rfl (pv 0) rfl) (aj (au (K:=K) rfl (pv 0) rfl) ao))))
   (ak (bT (bM (cH.cons aZ.cl jd DP Ef cH.nil) (pv 0) hr))
   (aq (aR (cu ["call"] [Yb] rfl rfl (by kernel_rfl) (bC (K:=K) rfl (pv 3)) (λ_ _ _ _ _ nd=>aW (i:=0) nd rfl (Or.inl rfl)) (λ_ _ _ _ _=>dB) (λ_ _ _ _ _=>fJ)))))))))))),?_⟩
 obtain⟨F',me,nu,ha,ro,x,PA,kk⟩:=h;obtain⟨C,dx,mP,T,hp⟩:=PA.ob;have eC:=mP;rw[bA]at eC;cases eC;obtain⟨cl,n1,n2,n3,n4,n5,n6,n7,n8,n9,n10,n11⟩:=id T;have tK:=bJ.cl;have nL:=bJ.n1;cbv;refine⟨p,rfl,F',me,nu,ha,ro,x,PA,λH1 D s1 hD g1=>?_⟩;have P1:=PA.same s1;have hp1:=s1 _ _ hp;have sD:bI K H1 D []:=bI.of g1;obtain⟨a0,ea⟩:∃a,aeo ha=.int a:=by
  unfold aeo;cases e:GB.hl ha with
  |nil=>have:=PA.me;rw[e]at this;cases this
  |cons a r=>exact⟨a,rfl⟩
 refine rT (λσ A=>A4 (σ=[Ya (.ref p),Ya (.ref D),Yb,Yb,Yb]) (Off F' H A) (A D=Ya (.lst [])) (E2 λG x'=>yX K mg A G p me nu ha ro x'/\Gr F' H G)) ?_ λN rest=>?_
 ·rintro σ A ⟨rfl,oA,gD,G,y,PB,gr⟩;obtain⟨C',dx',mP',_,hpA⟩:=PB.ob;rw[bA]at mP';cases mP';have gdA:=PB.hd;have goA:=PB.ho;have sDA:bI K A D []:=bI.of gD;have soA:bI K A y.o []:=bI.of goA;obtain⟨⟨Ck1,dk1,ek1,hk1⟩,_⟩:=id PB.ab;rw[bR]at ek1;cases ek1;cbv;refine⟨y.d,D,y.o,rfl,gdA,sDA,.inl soA,λH2 t l r s2 hl hr gt gl gr2=>?_⟩;have gts:cN K H2 t [.ref l,.ref r]:=cN.of gt;have P2:=PB.same s2;cbv;refine⟨y.ab,me,r,rfl,y.db,y.rb,ha,P2.ab,gr2,PB.me,λH3 rb' sm3 kn3 fr3=>?_⟩;obtain⟨o3,P3⟩:=P2.lrb sm3 kn3 fr3;have oA3:Off F' H H3:=(oA.run gr (.sm s2)).run gr o3;have gr3:Gr F' H (Gw G H2 H3):=Gr.run (oA.run gr (.sm s2)) gr .gw;obtain⟨C3,dx3,mP3,_,hp3⟩:=P3.ob;rw[bA]at mP3;cases mP3;obtain⟨⟨Ck2,dk2,ek2,hk2⟩,_⟩:=id P3.ab;rw[bR]at ek2;cases ek2;have so3:bI K H3 y.o []:=bI.of P3.ho;have gD3:H3 D=Ya (.lst []):=sm3 _ _ (λz=>by obtain⟨_,q,_⟩:=P2.ab;rw[←z,s2 _ _ gD]at q;cases q) (s2 _ _ gD);cbv;refine⟨_,y.o,rfl,so3,?_⟩;cbv;intro sp H5 hsp s5 gsp;rw[show FJ ([]:List V) Yb (Ya 0)=[] by decide]at gsp;have P5:=P3.same s5;obtain⟨C5,dx5,mP5,_,hp5⟩:=P5.ob;rw[bA]at mP5;cases mP5;have gd5:=P5.hd;have sD5:bI K H5 D []:=bI.of (s5 _ _ gD3);cbv;refine⟨y.d,D,sp,rfl,gd5,sD5,.inl (bI.of gsp),λH6 t2 l2 r2 s6 hl2 hr2 gt2 gl2 gr22=>?_⟩;have gts2:cN K H6 t2 [.ref l2,.ref r2]:=cN.of gt2;have P6:=P5.same s6;have sl2:bI K H6 l2 []:=bI.of gl2;cbv;let jJ4:Nat->St->Hp->Prop:=λi σ B=>H6=B/\σ=[Ya (.ref p),Ya (.ref D),Ya (.ref sp),Ya (.ref l2),Yb];refine gf (K:=K) (a:=l2) (xs:=[]) jJ4 ⟨rfl,rfl⟩ (λi σ B _ z=>by rw[←z.1];exact sl2) (λi x σ B hx=>by simp at hx) ?_;rintro σ _ ⟨rfl,rfl⟩;obtain⟨C7,dx7,mP7,_,hp7⟩:=P6.ob;rw[bA]at mP7;cases mP7;obtain⟨⟨Ck3,dk3,ek3,hk3⟩,_⟩:=id P6.ta;rw[bR]at ek3;cases ek3;have gd6:=P6.hd;cbv;refine⟨y.ta,me,y.d,rfl,y.da,y.ra,ha,P6.ta,gd6,PB.me,λH8 ra' sm8 kn8 fr8=>?_⟩;obtain⟨o8,P8⟩:=P6.lra sm8 kn8 fr8;have oA6:Off F' H H6:=oA3.run gr3 (.sm (s5.trans s6));have oA8:=oA6.run gr3 o8;have gr8:Gr F' H (Gw _ H6 H8):=Gr.run oA6 gr3 .gw;obtain⟨C8,dx8,mP8,_,hp8⟩:=P8.ob;rw[bA]at mP8;cases mP8;have gl8:H8 l2=Ya (.lst []):=sm8 _ _ (λz=>by obtain⟨_,q,_⟩:=P6.ta;rw[←z,gl2]at q;cases q) gl2;cbv;refine⟨p,rfl,_,me,nu,ha,ro,_,P8,λH9 x9 o9 P9=>?_⟩;have gl9:H9 l2=Ya (.lst []):=o9.of _ _ gl8 λz=>by
   rcases z.1 with w|w
   ·exact w.2 ((s5.free hl2))
   ·rw[gl2]at w;cases w
  have sl9:bI K H9 l2 []:=bI.of gl9;cbv;intro E hE;refine bO (K:=K) (a:=l2) (xs:=[]) (λi σ B=>aO H9 B/\B E=Ya (.lst [])) ⟨aF hE,aB⟩ (λi σ B _ z=>z.1.seq sl9) (λi x σ B hx=>by simp at hx) ?_;rintro σ B ⟨sB,gE⟩;cbv;have oA9:=oA8.run gr8 o9;have gr9:Gr F' H _:=Gr.run oA8 gr8 (.gw (H':=H9));exact kk B _ _ E (oA9.run gr9 (.sm sB)) (P9.same sB) gr9 gE
 ·cbv;refine⟨ha,rfl,PA.h0,PA.h1,λH2 s2=>?_⟩;have hp2:=s2 _ _ hp1;have P2:=P1.same s2;have gd2:=P2.hd;have go2:=P2.ho;rw[ea];cbv;refine d9 (λz=>?_) λz=>?_
  ·cbv;refine⟨x.d,D,x.o,rfl,gd2,bI.of (s2 _ _ g1),.inl (bI.of go2),λH3 t l g s3 hl' hg gt gl gg=>?_⟩;have hp3:=s3 _ _ hp2;have gts:cN K H3 t [.ref l,.ref g]:=cN.of gt;have P3:=P2.same s3;cbv;intro H4 b4 g4;rw[abg]at g4;have ngp:g≠p:=λw=>by rw[w,hp2]at hg;cases hg
   have s13:=s1.trans (s2.trans s3);obtain⟨o4,P4⟩:=(P3.mono (G:=λa=>F' a∨a=g) (λa z=>.inl z) (λa z=>z.elim (P3.dm a) λw=>by rw[w,gg];intro z;cases z)).newo b4 ⟨_,dx,mP,T,g4⟩ (b4.at ngp gg) (.inl (.inr rfl));refine rest _ _ ⟨rfl,(Off.sm s13).trans (.but b4 hp3 PA.fp (by intro _ z;cases z) (by intro _ z;cases z)),b4.at (bj (s3 _ _ (s2 _ _ g1)) hp3 (by intro z;cases z)) (s3 _ _ (s2 _ _ g1)),_,_,P4,λa z=>?_⟩;rcases z.1 with(w|w)|w
   ·exact .inl w
   ·exact .inr (w▸s1.free (s2.free hg))
   ·exact .inr (s13.free w)
  ·exact rest _ _ ⟨rfl,.sm (s1.trans s2),s2 _ _ g1,F',x,P2,.self⟩
def PcA(H:Hp)(t:Yc)(me:Int):Prop:=∃e1 e2 e3 e4,H t=Ya (.tup [.int me,.ref e1,.ref e2,.ref e3,.ref e4])/\H e1=Ya (.tup [])/\H e2=Ya (.tup [])/\H e3=Ya (.tup [])/\H e4=Ya (.tup [])
theorem PcA.up{me:Int}(h:PcA H t me)(s:j4 H H'):PcA H' t me:=by
 obtain⟨e1,e2,e3,e4,g0,g1,g2,g3,g4⟩:=h;exact⟨e1,e2,e3,e4,s _ _ g0,s _ _ g1,s _ _ g2,s _ _ g3,s _ _ g4⟩
def Dj(K:Ye)(mg:Yj->Option Yd):Sp:=λvs H Q _=>∃(p:Yc),vs=[.ref p,.int 0,.non]/\(E6 λF me nu ha ro x=>yX K mg H F p me nu ha ro x/\∀H' t,aO H H'->PcA H' t me->Q (.ref t) H')
abbrev tY:List Yj:=["self","skip","many"]
theorem uM:aD ["self","skip","many","calls","told"] tY (aA wM):=gF
variable{zO:Yc}{yR:Yt}(rC:∅ 4 zO yR bx (yu K mg))(rF:Binds K yR bx [])(fL:bU K fG "listed" zO)
include eV rC rF d8 d7 dw bJ aZ bR bA fL bQ in
theorem Ph{t0:l7}(F:Jo K "piece" "Page.piece" wM f fd [.int 0 t0,.none]):∅ 5 f fd tY (Dj K mg):=by
 refine F.ok uM (λvs H Q E h=>?_) (λcdv A outer s H vs Q E hr h=>?_)
 ·obtain⟨p,rfl,_⟩:=h;rfl
 obtain⟨p,rfl,h⟩:=h;have hu64:=hr.units;have hu0:=hr.units0;have hu:=Ot hr;refine⟨_,(ak (aV (i:=3) uM.nd rfl (Or.inl rfl) (lK (qT (K:=K) rfl) (bM (cH.cons aZ.cl bQ d8 d7 cH.nil) (pv 0) hr) (kW (pv 1)) xG))
   (ak (cF (aX nQ (pv 2) bV (bc _)) (aq cz) bG)
   (ak (aV (i:=4) uM.nd rfl (Or.inl rfl) (bZ (fj (K:=K) rfl) (by rfl) dw bE (aj (cu ["call"] [Yb] rfl rfl (by kernel_rfl) (bC (K:=K) rfl (pv 3)) (λ_ _ _ _ _ nd=>aW (i:=0) nd rfl (Or.inl rfl)) (λ_ _ _ _ _=>dB) (λ_ _ _ _ _=>fJ)) ao)))
   (aq (aR (eY (aj (au (K:=K) rfl (pv 0) rfl) (aj (bZ (fj (K:=K) rfl) (by rfl) dw bE (aj (au (K:=K) rfl (pv 0) rfl) ao)) (aj (bM (cH.cons bJ.cl fL rC rF cH.nil) (au (K:=K) rfl (pv 0) rfl) hr) (aj (bM (cH.cons bJ.cl fL rC rF cH.nil) (au (K:=K) rfl (pv 0) rfl) hr) (aj (pv 4) ao))))))))))),?_⟩
 refine xl4 ?_;intro _ _;obtain⟨F',me,nu,ha,ro,x,PA,kk⟩:=h;obtain⟨C,dx,mP,T,hp⟩:=PA.ob;have eC:=mP;rw[bA]at eC;cases eC;obtain⟨cl,n1,n2,n3,n4,n5,n6,n7,n8,n9,n10,n11⟩:=id T;have tK:=bJ.cl;have nL:=bJ.n1;cbv;refine⟨p,rfl,F',me,nu,ha,ro,x,PA,λH1 D s1 hD g1=>?_⟩;have hS1:bI K H1 D []:=bI.of g1;cbv;intro c1 H2 hc1 s2 gc1;rw[show FJ ([]:List V) (Ya 0) Yb=[] by decide]at gc1;have sc:bI K H2 c1 []:=bI.of gc1;cbv;rw[show decide (V.non=V.non)=true from decide_eq_true rfl];cbv;intro E hE;refine bO (K:=K) (a:=c1) (xs:=[]) (λi σ B=>aO H2 B/\B E=Ya (.lst [])) ⟨aF hE,aB⟩ (λi σ B _ z=>z.1.seq sc) (λi x σ B hx=>by simp at hx) ?_;rintro σ H3 ⟨s3,gE⟩;have sE:bI K H3 E []:=bI.of gE;have P3:=PA.same (s1.trans (s2.trans s3));refine⟨E,[],rfl,.inl ⟨sE,λtt htt=>?_⟩⟩;have s4:=aF (o:=.tup []) htt;have g4:(upd H3 tt (.tup [])) tt=Ya (.tup []):=aB;generalize upd H3 tt (.tup [])=H4 at s4 g4⊢;have P4:=P3.same s4;obtain⟨C4,dx4,mP4,_,hp4⟩:=P4.ob;rw[bA]at mP4;cases mP4;have so4:bI K H4 x.o []:=bI.of P4.ho;cbv;intro oo H5 hoo s5 g5;have P5:=P4.same s5;obtain⟨C5,dx5,mP5,_,hp5⟩:=P5.ob;rw[bA]at mP5;cases mP5;obtain⟨⟨Ck1,dk1,ek1,hk1⟩,_⟩:=id P5.ta;rw[bR]at ek1;cases ek1;cbv;refine⟨x.ta,rfl,x.da,x.ra,ha,P5.ta,λH6 a1 s6 ha1 ga1=>?_⟩;have P6:=P5.same s6;have hp6:=s6 _ _ hp5;obtain⟨⟨Ck2,dk2,ek2,hk2⟩,_⟩:=id P6.ab;rw[bR]at ek2;cases ek2;cbv;refine⟨x.ab,rfl,x.db,x.rb,ha,P6.ab,λH7 a2 s7 ha2 ga2=>?_⟩;cbv;intro t H8 ht s8 g8;exact kk H8 t (s1.trans (s2.trans (s3.trans (s4.trans (s5.trans (s6.trans (s7.trans s8))))))) ⟨oo,a1,a2,tt,g8,s8 _ _ (s7 _ _ (s6 _ _ g5)),s8 _ _ (s7 _ _ ga1),s8 _ _ ga2,s8 _ _ (s7 _ _ (s6 _ _ (s5 _ _ g4)))⟩
def wC(K:Ye):Sp:=λvs H Q _=>E2 fun(x:V) (tt:Yc)=>vs=[x,.ref tt]/\(cN K H tt []/\Q .non H)
abbrev Xi:List Yj:=["self","calls"]
theorem v4:aD ["self","calls","told","call"] Xi (aA pL):=gF
include eV in
theorem Ju(F:bW K "keep_new" "Page.keep_new" pL f fd):∅ 1 f fd Xi (wC K):=by
 refine F.oj v4 ?_;rintro _ A _ _ H _ _ _ _ _ _ _ ⟨x,tt,rfl,h⟩;refine⟨_,(aq (jc Y8 rfl (Cm (K:=K) rfl (pv 1)) (aW (i:=2) v4.nd rfl (Or.inl rfl))
   (ak cz
   (aq cz)))),?_⟩
 obtain⟨hS,kk⟩:=h;cbv;refine Sd (K:=K) (a:=tt) (xs:=[]) (λi σ A=>H=A/\σ=[Ya x,Ya (.ref tt),Yb,Yb]) ⟨rfl,rfl⟩ (λi σ A _ z=>by rw[←z.1];exact hS) (λi x σ A hx=>by simp at hx) ?_;rintro σ _ ⟨rfl,rfl⟩;exact kk
def Bu(K:Ye)(mg:Yj->Option Yd):Sp:=λvs H Q _=>E2 fun(p t:Yc)=>vs=[.ref p,.ref t]/\(E7 λF me nu ha ro x me'=>A4 (yX K mg H F p me nu ha ro x) (PcA H t me') (me'≠me) (∀H' G x' l,Off F H H'->yX K mg H' G p me nu ha ro x'->Gr F H G->H' l=Ya (.lst [])->Q (.ref l) H'))
abbrev Wo:List Yj:=["self","piece"]
theorem Mj:aD ["self","piece"] Wo (aA uI):=gF
variable{Dn:Yc}{J3:Yc}{xT:Yc}{Bx:Yt}{GC:Yt}{wL:Yt}(uJ:∅ 5 Dn Bx Xy (Br K))(uL:Binds K Bx Xy [])(J4:∅ 5 J3 GC bx (Jb K mg))(Kz:Binds K GC bx [])(yc:∅ 5 xT wL Xi (wC K))(ym:Binds K wL Xi [])(gJ:bU K fG "merge" Dn)(gQ:bU K dY "keep_new" xT)(kI:bU K dY "step" J3)
include eV uJ uL J4 Kz yc ym iD bJ aZ bR bA gJ gQ kI in
theorem Oi(F:bW K "listen" "Page.listen" uI f fd):∅ 6 f fd Wo (Bu K mg):=by
 refine F.oj Mj ?_;rintro _ _ _ _ H _ _ _ hr _ _ _ ⟨p,t,rfl,h⟩;refine⟨_,(ak (cF (aX yP (bf (aN (K:=K) rfl) (pv 1) aC (λ_ _=>rfl)) (au (K:=K) rfl (pv 0) rfl) (bc _)) (aq cz) bG)
   (ak (bT (bD (cH.cons aZ.cl gQ yc ym cH.nil) (pv 0) hr (aj (bf (aN (K:=K) rfl) (pv 1) aC (λ_ _=>rfl)) ao)))
   (ak (cF (aX Qp (cj (fB (K:=K) rfl) (by rfl) iD dP (aj (bf (aN (K:=K) rfl) (pv 1) aC (λ_ _=>rfl)) ao)) (cj (fB (K:=K) rfl) (by rfl) iD dP (aj (au (K:=K) rfl (pv 0) rfl) ao)) (bc _)) (aq cz) bG)
   (ak (bT (bD (cH.cons bJ.cl gJ uJ uL cH.nil) (au (K:=K) rfl (pv 0) rfl) hr (aj (bf (aN (K:=K) rfl) (pv 1) aC (λ_ _=>rfl)) ao)))
   (ak (bT (bD (cH.cons bJ.cl gJ uJ uL cH.nil) (au (K:=K) rfl (pv 0) rfl) hr (aj (bf (aN (K:=K) rfl) (pv 1) aC (λ_ _=>rfl)) ao)))
   (aq (aR (bM (cH.cons aZ.cl kI J4 Kz cH.nil) (pv 0) hr)))))))),?_⟩
 refine xl6 ?_;intro _ _ _ _;obtain⟨F',me,nu,ha,ro,x,me',PA,⟨e1,e2,e3,e4,g0,q1,q2,q3,q4⟩,ne,kk⟩:=h;obtain⟨C,dx,mP,T,hp⟩:=PA.ob;have eC:=mP;rw[bA]at eC;cases eC;obtain⟨cl,n1,n2,n3,n4,n5,n6,n7,n8,n9,n10,n11⟩:=id T;have tK:=bJ.cl;have nL:=bJ.n1;have st:=cN.of (K:=K) g0;have a0:lH [V.int me',.ref e1,.ref e2,.ref e3,.ref e4] 0=Ya (.int me'):=by kernel_rfl
 have a1:lH [V.int me',.ref e1,.ref e2,.ref e3,.ref e4] 1=Ya (.ref e1):=by kernel_rfl
 have a2:lH [V.int me',.ref e1,.ref e2,.ref e3,.ref e4] 2=Ya (.ref e2):=by kernel_rfl
 have a3:lH [V.int me',.ref e1,.ref e2,.ref e3,.ref e4] 3=Ya (.ref e3):=by kernel_rfl
 have a4:lH [V.int me',.ref e1,.ref e2,.ref e3,.ref e4] 4=Ya (.ref e4):=by kernel_rfl
 have so:bI K H x.o []:=bI.of PA.ho;have s1:=cN.of (K:=K) q1;obtain⟨⟨Ck1,dk1,ek1,hk1⟩,_⟩:=id PA.ta;rw[bR]at ek1;cases ek1;obtain⟨⟨Ck2,dk2,ek2,hk2⟩,_⟩:=id PA.ab;rw[bR]at ek2;cases ek2;cbv;refine d9 (λz=>absurd (of_decide_eq_true z) ne) λ_=>?_;cbv;refine⟨_,e4,rfl,cN.of q4,?_⟩;cbv;refine d9 (λz=>absurd (of_decide_eq_true z) (by decide)) λ_=>?_;cbv;refine⟨_,e2,rfl,cN.of q2,?_⟩;cbv;refine⟨_,e3,rfl,cN.of q3,?_⟩;cbv;exact⟨p,rfl,F',me,nu,ha,ro,x,PA,kk⟩
def qX(K:Ye)(mg:Yj->Option Yd):Sp:=λvs H Q _=>E2 fun(p:Yc) (lv:Bool)=>vs=[.ref p,.bl lv]/\(E6 λF me nu ha ro x=>yX K mg H F p me nu ha ro x/\∀H' v,aO H H'->RtA H' v (me,lv)->Q v H')
abbrev Rg:List Yj:=["self","leaves"]
theorem zR:aD ["self","leaves","calls"] Rg (aA uO):=gF
variable{Wz:Yc}{Rb:Yt}(UJ:∅ 4 Wz Rb V1 (Ry K))(Xa:gW K mg "packed" Wz Rb V1)(vP:∅ 4 uQ qO bx (rR K mg))
include eV UJ Xa vP oh d8 d7 dw bJ aZ bR bA dZ bQ in
theorem N7(F:bW K "report" "Page.report" uO f fd):∅ 5 f fd Rg (qX K mg):=by
 refine F.oj zR ?_;rintro _ _ _ _ _ _ _ E hr _ _ _ ⟨p,lv,rfl,h⟩;refine⟨_,(ak (aV (i:=2) zR.nd rfl (Or.inl rfl) (bZ (fj (K:=K) rfl) (by rfl) dw bE (aj (cu ["call"] [Yb] rfl rfl (by kernel_rfl) (bC (K:=K) rfl (bM (cH.cons aZ.cl bQ d8 d7 cH.nil) (pv 0) hr)) (λ_ _ _ _ _ nd=>aW (i:=0) nd rfl (Or.inl rfl)) (λ_ _ _ _ _=>dB) (λ_ _ _ _ _=>fJ)) ao)))
   (aq (aR (eY (aj (au (K:=K) rfl (pv 0) rfl) (aj (bh UJ Xa hr (aj (bM (cH.cons bJ.cl dZ vP oh cH.nil) (au (K:=K) rfl (pv 0) rfl) hr) ao)) (aj (pv 2) (aj (bZ (fj (K:=K) rfl) (by rfl) dw bE (aj (au (K:=K) rfl (pv 0) rfl) ao)) (aj (pv 1) ao))))))))),?_⟩
 obtain⟨F',me,nu,ha,ro,x,PA,kk⟩:=h;obtain⟨C,dx,mP,T,hp⟩:=PA.ob;have eC:=mP;rw[bA]at eC;cases eC;obtain⟨cl,n1,n2,n3,n4,n5,n6,n7,n8,n9,n10,n11⟩:=id T;have tK:=bJ.cl;have nL:=bJ.n1;cbv;refine⟨p,rfl,F',me,nu,ha,ro,x,PA,λH1 D s1 hD g1=>?_⟩;have sc:bI K H1 D []:=bI.of g1;cbv;intro E hE;refine bO (K:=K) (a:=D) (xs:=[]) (λi σ B=>aO H1 B/\B E=Ya (.lst [])) ⟨aF hE,aB⟩ (λi σ B _ z=>z.1.seq sc) (λi x σ B hx=>by simp at hx) ?_;rintro σ H3 ⟨s3,gE⟩;have sE:bI K H3 E []:=bI.of gE;have P3:=PA.same (s1.trans s3);refine⟨E,[],rfl,.inl ⟨sE,λtt htt=>?_⟩⟩;have s4:=aF (o:=.tup []) htt;have g4:(upd H3 tt (.tup [])) tt=Ya (.tup []):=aB;generalize upd H3 tt (.tup [])=H4 at s4 g4⊢;have P4:=P3.same s4;obtain⟨C4,dx4,mP4,_,hp4⟩:=P4.ob;rw[bA]at mP4;cases mP4;obtain⟨⟨Ck1,dk1,ek1,hk1⟩,_⟩:=id P4.ta;rw[bR]at ek1;cases ek1;cbv;refine⟨x.ta,rfl,x.da,x.ra,ha,P4.ta,λH5 fl s5 nJ g5=>?_⟩;cbv;refine⟨fl,rfl,g5,λH6 t6 s6 ht6 g6=>?_⟩;have P6:=P4.same (s5.trans s6);have hp6:=s6 _ _ (s5 _ _ hp4);have so6:bI K H6 x.o []:=bI.of P6.ho;cbv;intro oo H7 hoo s7 g7;cbv;intro u H8 hu' s8 g8;exact kk H8 (.ref u) (s1.trans (s3.trans (s4.trans (s5.trans (s6.trans (s7.trans s8)))))) ⟨u,t6,tt,oo,rfl,g8,s8 _ _ (s7 _ _ g6),s8 _ _ (s7 _ _ (s6 _ _ (s5 _ _ g4))),s8 _ _ g7⟩
def Bo(K:Ye):Sp:=λvs H Q _=>E2 fun(x:V) (t:Yc)=>vs=[x,.ref t]/\(cN K H t []/\∀H' l,aO H H'->H l=Yb->H' l=Ya (.lst [])->Q (.ref l) H')
abbrev Vv:List Yj:=["self","row"]
theorem rO:aD ["self","row","cut","call"] Vv (aA uW):=gF
include eV in
theorem N6(F:bW K "finish" "Page.finish" uW f fd):∅ 1 f fd Vv (Bo K):=by
 refine F.oj rO ?_;rintro _ A _ _ _ _ _ _ _ _ _ _ ⟨x,t,rfl,h⟩;refine⟨_,(ak (aV (i:=2) rO.nd rfl (Or.inl rfl) (eU ao))
   (ak (jc Y8 rfl (bC (K:=K) rfl (cu ["told"] [Yb] rfl rfl (by kernel_rfl) (Cm (K:=K) rfl (pv 1)) (λ_ _ _ _ _ nd=>aW (i:=0) nd rfl (Or.inl rfl)) (λ_ _ _ _ _=>dB) (λ_ _ _ _ _=>fJ))) (aW (i:=3) rO.nd rfl (Or.inl rfl))
   (aq cz))
   (aq (aR (pv 2))))),?_⟩
 refine XM ?_;intro _;obtain⟨hS,kk⟩:=h;cbv;intro l H1 hl s1 g1;have hS1:=Bs s1 hS;cbv;intro D hD;refine Ij (K:=K) (a:=t) (xs:=[]) (λi σ B=>aO H1 B/\B D=Ya (.lst [])) ⟨aF hD,aB⟩ (λi σ B _ z=>Bs z.1 hS1) (λi x σ B hx=>by simp at hx) ?_;rintro σ H2 ⟨s2,g2⟩;have s2':bI K H2 D []:=bI.of g2;refine⟨D,rfl,⟨_,s2'⟩,?_⟩;refine gf (K:=K) (a:=D) (xs:=[]) (λi σ A=>H2=A/\σ=[Ya x,Ya (.ref t),Ya (.ref l),Yb]) ⟨rfl,rfl⟩ (λi σ A _ z=>by rw[←z.1];exact s2') (λi x σ A hx=>by simp at hx) ?_;rintro σ _ ⟨rfl,rfl⟩;cbv;exact kk H2 l (s1.trans s2) hl (s2 _ _ g1)
def Jd(K:Ye)(mg:Yj->Option Yd):Sp:=λvs H Q _=>∃(p:Yc),vs=[.ref p]/\(E6 λF me nu ha ro x=>yX K mg H F p me nu ha ro x/\∀H' l,aO H H'->H l=Yb->H' l=Ya (.lst [])->Q (.ref l) H')
theorem w6:aD ["self","ones","others"] bx (aA zQ):=gF
include eV Cw Cu aZ bA in
theorem SN(F:bW K "rows" "Page.rows" zQ f fd):∅ 4 f fd bx (Jd K mg):=by
 refine F.oj w6 ?_;rintro _ _ _ _ H _ _ E hr _ _ _ ⟨p,rfl,h⟩;refine⟨_,(ak (Ln (i:=1) ["call"] [Yb] w6.nd rfl (Or.inl rfl) rfl rfl (by kernel_rfl) (bC (K:=K) rfl (au (K:=K) rfl (pv 0) rfl)) (λ_ _ _ _ _ nd=>aW (i:=0) nd rfl (Or.inl rfl)) (λ_ _ _ _ _=>(jL By)) (λ_ _ _ _ _=>fJ))
   (ak (Ln (i:=2) ["call"] [Yb] w6.nd rfl (Or.inl rfl) rfl rfl (by kernel_rfl) (bC (K:=K) rfl (au (K:=K) rfl (pv 0) rfl)) (λ_ _ _ _ _ nd=>aW (i:=0) nd rfl (Or.inl rfl)) (λ_ _ _ _ _=>(jL By)) (λ_ _ _ _ _=>fJ))
   (aq (aR (cu ["call"] [Yb] rfl rfl (by kernel_rfl) (bC (K:=K) rfl (bL Ms (pv 1) (bh Cw Cu hr (aj (pv 2) ao)))) (λ_ _ _ _ _ nd=>aW (i:=0) nd rfl (Or.inl rfl)) (λ_ _ _ _ _=>dB) (λ_ _ _ _ _=>fJ)))))),?_⟩
 refine XM ?_;intro _;obtain⟨F',me,nu,ha,ro,x,PA,kk⟩:=h;obtain⟨C,dx,mP,T,hp⟩:=PA.ob;obtain⟨cl,n1,n2,n3,n4,n5,n6,n7,n8,n9,n10,n11⟩:=id T;have sk:bI K H x.t []:=bI.of PA.ht;cbv;intro E hE;refine bO (K:=K) (a:=x.t) (xs:=[]) (λi σ B=>aO H B/\B E=Ya (.lst [])) ⟨aF hE,aB⟩ (λi σ B _ z=>z.1.seq sk) (λi x σ B hx=>by simp at hx) ?_;rintro σ H1 ⟨s1,g1⟩;have hp1:=s1 _ _ hp;have sk1:=s1.seq sk;cbv;intro E2 hE2;refine bO (K:=K) (a:=x.t) (xs:=[]) (λi σ B=>aO H1 B/\B E2=Ya (.lst [])) ⟨aF hE2,aB⟩ (λi σ B _ z=>z.1.seq sk1) (λi x σ B hx=>by simp at hx) ?_;rintro σ H2 ⟨s2,g2⟩;cbv;refine⟨E2,rfl,bI.of g2,λH3 l s3 hl g3=>?_⟩;refine⟨E,l,[],[],rfl,rfl,s3 _ _ (s2 _ _ g1),g3,YZ _,λc hc=>?_⟩;have s4:=aF (o:=.lst ([]++[])) hc;have g4:(upd H3 c (.lst ([]++[]))) c=Ya (.lst []):=aB;generalize upd H3 c (.lst ([]++[]))=H4 at s4 g4⊢;have s4':bI K H4 c []:=bI.of g4;refine⟨c,rfl,⟨_,s4'⟩,?_⟩;intro D hD;refine bO (K:=K) (a:=c) (xs:=[]) (λi σ B=>aO H4 B/\B D=Ya (.lst [])) ⟨aF hD,aB⟩ (λi σ B _ z=>z.1.seq s4') (λi x σ B hx=>by simp at hx) ?_;rintro σ H5 ⟨s5,g5⟩;have s14:=s1.trans (s2.trans (s3.trans s4));exact kk H5 D (s14.trans s5) (s14.free hD) g5
inductive Ev where
 |lst (n h o w:Int)
 |out (n:Int) deriving DecidableEq
variable{es:List Ev}
def EvA(H:Hp)(v:V):Ev->Prop
 | .lst n h o w=>∃t,v=.ref t/\H t=Ya (.tup [.str "list",.int n,.int h,.int o,.int w])
 | .out n=>∃t,v=.ref t/\H t=Ya (.tup [.str "out",.int n])
theorem EvA.up(s:j4 H H'){v:V}{e:Ev}(h:EvA H v e):EvA H' v e:=by
 cases e with
 |lst n h o w=>obtain⟨t,e,g⟩:=h;exact⟨t,e,s _ _ g⟩
 |out n=>obtain⟨t,e,g⟩:=h;exact⟨t,e,s _ _ g⟩
abbrev J1(H:Hp):List V->List Ev->Prop:=d3 (EvA H)
theorem sH(s:j4 H H'){xs:List V}(h:J1 H xs es):J1 H' xs es:=d3.mapP h λ_ _ z=>z.up s
def WbV(H:Hp)(v:V):Option (Pn×Int)->Prop
 |none=>v=.non
 |some q=>∃t pv,v=.ref t/\H t=Ya (.tup [pv,.int q.2])/\Uq H pv q.1
theorem WbV.up(s:j4 H H'){v:V}{w:Option (Pn×Int)}(h:WbV H v w):WbV H' v w:=by
 cases w with
 |none=>exact h
 |some q=>obtain⟨t,pv,e,g1,g2⟩:=h;exact⟨t,pv,e,s _ _ g1,g2.up s⟩
def O6(p:Pn):Prop:=(0<=p.1/\p.1<9223372036854775808)/\(0<=p.2.1/\p.2.1<9223372036854775808)/\(0<=p.2.2/\p.2.2<9223372036854775808)/\∀i,p.2.2.toNat.testBit i=true->p.2.1.toNat.testBit i=true
structure WfC(c:Cg):Prop where
 y:∀q,c.y=Ya q->O6 q.2
 ag:∀q,c.ag=Ya q->O6 q
 rp:∀e∈c.rp,e.2.1.1=e.1/\(0<=e.1/\e.1<63)/\∀q,e.2.2=Ya q->O6 q.2
variable{ag:Option Pn}
theorem WfC.r(w:WfC c):WfR c.rp:=λe he=>(w.rp e he).1
variable{r:Nat}
structure Hs where
 me:Int
 ro:Int
 nw:Int
 st:Option (Int×Int×Cg×Pn)
 wb:Option (Pn×Int)
 lg:List Ev
 db:Int
 nt:Int
 wo:Bool
 wi:Bool
variable{wi db:Int}{S':Hs}{stt:Nat->Hs}
def StA(K:Ye)(mg:Yj->Option Yd)(H:Hp)(F Fp:Yc->Prop)(me ro:Int)(pv cv cb:V):Option (Int×Int×Cg×Pn)->Prop
 |none=>pv=.non/\cv=.non/\cb=.non
 |some q=>∃pg x ch rd,pv=.ref pg/\cv=.ref ch/\yX K mg H Fp pg me q.1 q.2.1 ro x/\ChG K mg H ch me q.2.1 q.2.2.1 rd/\Uq H cb q.2.2.2/\WfC q.2.2.1/\O6 q.2.2.2/\(∀a,Fp a->F a)/\F ch/\F rd/\¬ Fp ch/\¬ Fp rd
structure Lj where
 C:Yc
 dx:Yc
 pv:V
 cv:V
 cb:V
 wb:V
 pa:Yc
 lg:Yc
 lo:Yc
 xs:List V
 Fp:Yc->Prop
variable{C:Yc}
structure jA(K:Ye)(mg:Yj->Option Yd)(H:Hp)(F:Yc->Prop)(p:Yc)(S:Hs)(x:Lj):Prop where
 mH:mg "Hand"=Ya (.ref x.C)
 T:Qn K x.C
 ob:H p=Ya (.ins x.C x.dx (nJ (.int S.me) (.int S.ro) (.int S.nw) x.pv x.cv x.cb x.wb (.ref x.pa) (.ref x.lg) (.ref x.lo) (.int S.db) (.int S.nt) (.bl S.wo) (.bl S.wi)))
 pa:H x.pa=Ya (.tup [])
 lg:H x.lg=Ya (.lst x.xs)
 ev:J1 H x.xs S.lg
 lo:H x.lo=Ya (.lst [])
 nl:x.lg≠x.lo
 wb:WbV H x.wb S.wb
 wp:∀q,S.wb=Ya q->O6 q.1
 st:StA K mg H F x.Fp S.me S.ro x.pv x.cv x.cb S.st
 fp:F p
 fl:F x.lg
 fo:F x.lo
 np:¬ x.Fp p/\¬ x.Fp x.lg/\¬ x.Fp x.lo
 dm:∀a,F a->H a≠Yb
 m0:0<=S.me
 m1:S.me<63
 d0:0<=S.db
 t0:0<=S.nt/\S.nt<9223372036854775808
variable{t0:l7}
section
variable{F:Yc->Prop}{p:Yc}{S:Hs}{x:Lj}
theorem yF.off{p d:Yc}{me hd vo:Int}{b:Option (Int×Int)}{y:qb}{rp:List (Int×Rt×qb)}(h:yF K mg H p me hd b y vo ag d rp)(o:Off G H H')(n1:¬ G p)(n2:¬ G d):yF K mg H' p me hd b y vo ag d rp:=h.up (λ_ e=>o.of _ _ e n1) (λ_ e=>o.of _ _ e n2) o.tp
theorem StA.off{Fp:Yc->Prop}{me ro:Int}{pv cv cb:V}{st:Option (Int×Int×Cg×Pn)}(h:StA K mg H F Fp me ro pv cv cb st)(o:Off G H H')(n:∀a,F a->¬ G a):StA K mg H' F Fp me ro pv cv cb st:=by
 cases st with
 |none=>exact h
 |some q=>
  obtain⟨pg,x,ch,rd,e1,e2,P,C,c,w,wp,f1,f2,f3,f4,f5⟩:=h;exact⟨pg,x,ch,rd,e1,e2,P.off o λa f=>n a (f1 a f),yF.off C o (n _ f2) (n _ f3),c.up o.tp,w,wp,f1,f2,f3,f4,f5⟩
theorem jA.off(h:jA K mg H F p S x)(o:Off G H H')(n:∀a,F a->¬ G a):jA K mg H' F p S x:=by
 refine⟨h.mH,h.T,o.of _ _ h.ob (n _ h.fp),o.tp _ _ h.pa,o.of _ _ h.lg (n _ h.fl),sH o.tp h.ev,o.of _ _ h.lo (n _ h.fo),h.nl,h.wb.up o.tp,h.wp,h.st.off o n,h.fp,h.fl,h.fo,h.np,λa f=>?_,h.m0,h.m1,h.d0,h.t0⟩;cases e:H a with
 |none=>exact absurd e (h.dm a f)
 |some u=>rw[o.of a u e (n a f)];intro z;cases z
theorem jA.same(h:jA K mg H F p S x)(s:aO H H'):jA K mg H' F p S x:=h.off (G:=λ_=>False) (.sm s) λ_ _ z=>z
end
theorem TF(n0:0<=n)(m0:0<=m)(n1:n<9223372036854775808):0<=Yz n (Yw m)/\Yz n (Yw m)<9223372036854775808:=by
 rw[M5 n0 m0];omega
def Ab(K:Ye)(mg:Yj->Option Yd):Sp:=λvs H Q _=>∃(p:Yc),vs=[.ref p]/\(E3 λF S x=>jA K mg H F p S x/\∀H' l,aO H H'->H l=Yb->H' l=Ya (.lst x.xs)->Q (.ref l) H')
theorem MF:aD ["self"] bx (aA uX):=gF
variable{bB:Yc}(aJ:Qn K bB)(aY:mg "Hand"=Ya (.ref bB))
include eV fK aJ aY in
theorem MK(F:bW K "events" "Hand.events" uX f fd):∅ 1 f fd bx (Ab K mg):=by
 refine F.oj MF ?_;rintro _ _ _ _ H _ _ _ _ _ _ _ ⟨p,rfl,h⟩;refine⟨_,(aq (aR (bZ (Nk (K:=K) rfl) (by rfl) fK d6 (aj (au (K:=K) rfl (pv 0) rfl) ao)))),?_⟩;obtain⟨F',S,x,A1,kk⟩:=h;have hp:=A1.ob;obtain⟨cl,n1,n2,n3,n4,n5,n6,n7,n8,n9,n10,n11,n12,n13,n14⟩:=id A1.T;have sl:bI K H x.lg x.xs:=bI.of A1.lg;cbv;intro l H1 hl s1 g1;exact kk H1 l s1 hl g1
def jQ(K:Ye)(mg:Yj->Option Yd):Sp:=λvs H Q _=>∃(p:Yc),vs=[.ref p]/\(E3 λF S x=>jA K mg H F p S x/\∀v,Vh H v (S.st.bind λq=>q.2.2.1.b)->Q v H)
theorem Ld:aD ["self"] bx (aA qI):=gF
include eV aH aJ aL aY in
theorem K4(F:bW K "stopped" "Hand.stopped" qI f fd):∅ 1 f fd bx (jQ K mg):=by
 refine F.oj Ld ?_;rintro _ _ _ _ _ _ _ _ _ _ _ _ ⟨p,rfl,h⟩;refine⟨_,(aq (aR (oJ (aX j8 (au (K:=K) rfl (pv 0) rfl) bV (bc _)) bV (au (K:=K) rfl (au (K:=K) rfl (pv 0) rfl) rfl)))),?_⟩;obtain⟨F',S,x,A1,kk⟩:=h;have hp:=A1.ob;obtain⟨cl,n1,n2,n3,n4,n5,n6,n7,n8,n9,n10,n11,n12,n13,n14⟩:=id A1.T;have T7:=aH.n3;have Tc:=aH.cl;have st:=A1.st;cases e:S.st with
 |none=>
  rw[e]at st kk;obtain⟨q1,q2,q3⟩:=st;rw[q1,q2,q3]at hp;cbv;rw[show decide (V.non=V.non)=true from decide_eq_true rfl];cbv;exact kk _ rfl
 |some q=>
  rw[e]at st kk;obtain⟨pg,y,ch,rd,e1,e2,P,⟨⟨C,dx,ba,ye,av,eC,hc,hb,_⟩,_⟩,_⟩:=st;rw[aL]at eC;cases eC;rw[e1,e2]at hp;cbv;rw[dH];cbv;exact kk _ hb
def lM(K:Ye)(mg:Yj->Option Yd):Sp:=λvs H Q _=>E2 fun(p:Yc) (n:Int)=>vs=[.ref p,.int n]/\(E3 λF S x=>jA K mg H F p S x/\Q (.bl (match S.st with|none=>false|some q=>decide (q.1=n))) H)
abbrev Qw:List Yj:=["self","number"]
theorem Ha:aD ["self","number"] Qw (aA my):=gF
include eV aJ aZ aY bA in
theorem HF(F:bW K "stands_in" "Hand.stands_in" my f fd):∅ 1 f fd Qw (lM K mg):=by
 refine F.oj Ha ?_;rintro _ _ _ _ _ _ _ _ _ _ _ _ ⟨p,n,rfl,h⟩;refine⟨_,(aq (aR (xF (jo nQ (au (K:=K) rfl (pv 0) rfl) bV (bc _)) (xN (jo yP (au (K:=K) rfl (au (K:=K) rfl (pv 0) rfl) rfl) (pv 1) (bc _)))))),?_⟩;obtain⟨F',S,x,A1,kk⟩:=h;have hp:=A1.ob;obtain⟨cl,n1,n2,n3,n4,n5,n6,n7,n8,n9,n10,n11,n12,n13,n14⟩:=id A1.T;have T2:=aZ.n2;have Tc:=aZ.cl;have st:=A1.st;cases e:S.st with
 |none=>
  rw[e]at st kk;obtain⟨q1,q2,q3⟩:=st;rw[q1,q2,q3]at hp;cbv;exact kk
 |some q=>
  rw[e]at st kk;obtain⟨pg,y,ch,rd,e1,e2,P,_⟩:=st;obtain⟨C,dx,mP,_,hg⟩:=P.ob;rw[bA]at mP;cases mP;rw[e1,e2]at hp;cbv;rw[dH];cbv;exact kk
def mD(K:Ye)(mg:Yj->Option Yd):Sp:=λvs H Q _=>∃(p:Yc),vs=[.ref p]/\(E3 λF S x=>A3 (jA K mg H F p S x) ((S.st=Yb->Q .non H)) (∀q,S.st=Ya q->∀H' t,aO H H'->H' t=Ya (.tup [.int q.1,.int q.2.1])->Q (.ref t) H'))
theorem JS:aD ["self"] bx (aA oY):=gF
include eV aJ aZ aY bA in
theorem Jy(F:bW K "standing" "Hand.standing" oY f fd):∅ 1 f fd bx (mD K mg):=by
 refine F.oj JS ?_;rintro _ _ _ _ _ _ _ _ _ _ _ _ ⟨p,rfl,h⟩;refine⟨_,(aq (aR (oJ (aX j8 (au (K:=K) rfl (pv 0) rfl) bV (bc _)) bV (eY (aj (au (K:=K) rfl (au (K:=K) rfl (pv 0) rfl) rfl) (aj (au (K:=K) rfl (au (K:=K) rfl (pv 0) rfl) rfl) ao)))))),?_⟩;obtain⟨F',S,x,A1,k1,k2⟩:=h;have hp:=A1.ob;obtain⟨cl,n1,n2,n3,n4,n5,n6,n7,n8,n9,n10,n11,n12,n13,n14⟩:=id A1.T;have T2:=aZ.n2;have T3:=aZ.n3;have Tc:=aZ.cl;have st:=A1.st;cases e:S.st with
 |none=>
  rw[e]at st;obtain⟨q1,q2,q3⟩:=st;rw[q1,q2,q3]at hp;cbv;rw[show decide (V.non=V.non)=true from decide_eq_true rfl];cbv;exact k1 e
 |some q=>
  rw[e]at st;obtain⟨pg,y,ch,rd,e1,e2,P,_⟩:=st;obtain⟨C,dx,mP,_,hg⟩:=P.ob;rw[bA]at mP;cases mP;rw[e1,e2]at hp;cbv;rw[dH];cbv;intro t H1 ht s1 g1;exact k2 q e H1 t s1 g1
def jR(K:Ye)(mg:Yj->Option Yd):Sp:=λvs H Q _=>E2 fun(p l:Yc)=>vs=[.ref p,.ref l]/\(E3 λF S x=>A4 (jA K mg H F p S x) (bI K H l []) (S.lg.length<=900) (∀H',aO H H'->Q .non H'))
abbrev QF:List Yj:=["self","taken"]
theorem FN:aD ["self","taken"] QF (aA lJ):=gF
include eV aJ aY in
theorem FQ(F:bW K "note_taken" "Hand.note_taken" lJ f fd):∅ 1 f fd QF (jR K mg):=by
 refine F.oj FN ?_;rintro _ _ _ _ H _ _ _ _ _ _ _ ⟨p,l,rfl,h⟩;refine⟨_,(aq (bT (Vx i4 y0 y3 QX (au (K:=K) rfl (pv 0) rfl) (aj (cu ["told","why"] [Yb,Yb] rfl rfl (by kernel_rfl) (bC (K:=K) rfl (pv 1)) (λ_ _ _ _ _ nd=>Hj (K:=K) (n:=2) rfl rfl (jK (aW (i:=0) nd rfl (Or.inl rfl)) (jK (aW (i:=1) nd rfl (Or.inl rfl)) Hk))) (λ_ _ _ _ _=>dB) (λ_ _ _ _ _=>fJ)) ao)))),?_⟩;obtain⟨F',S,x,A1,sl,ll,kk⟩:=h;have hp:=A1.ob;obtain⟨cl,n1,n2,n3,n4,n5,n6,n7,n8,n9,n10,n11,n12,n13,n14⟩:=id A1.T;have gl:=A1.lg;have lx:x.xs.length=S.lg.length:=bS A1.ev;cbv;intro D hD;refine bO (K:=K) (a:=l) (xs:=[]) (λi σ B=>aO H B/\B D=Ya (.lst [])) ⟨aF hD,aB⟩ (λi σ B _ z=>z.1.seq sl) (λi x σ B hx=>by simp at hx) ?_;rintro σ B ⟨sB,gD⟩;refine⟨x.lg,D,x.xs,[],rfl,rfl,sB _ _ gl,gD,Y7 (aU (by rw[eJ];omega)),kk _ λb o e=>?_⟩;by_cases z:b=x.lg
 ·rw[z,aB,cy,←gl,←z,e]
 ·rw[aK z];exact sB _ _ e
noncomputable def RK:Cg:=⟨Yb,Yb,0,Yb,[]⟩
noncomputable def gU(n h:Int):Bool:=n.toNat.testBit h.toNat
theorem ajr(h0:0<=h)(h1:h<63)(e:gU n h=true):h∈GB.hl n:=by
 have:=GB.Up (n:=n) (h:=h.toNat);rw[i6 h0]at this;exact this.mpr ⟨by omega,e⟩
noncomputable def mxI(a b:Int):Int:=if b>a then b else a
noncomputable def Pb(S:Hs)(n:Int)(pl:Pn):Hs:={S with nw:=mxI S.nw n,st:=Ya (n,pl.2.1,RK,pl),wb:=Yb,nt:=Yz S.nt (Yw pl.2.1),wi:=false,lg:=S.lg++[.lst n pl.2.1 pl.1 pl.2.2]}
def Dc(K:Ye)(mg:Yj->Option Yd):Sp:=λvs H Q _=>E3 fun(p:Yc) (n:Int) (v:V)=>vs=[.ref p,.int n,v]/\(E4 λF S x pl=>A6 (jA K mg H F p S x) (Uq H v pl) (O6 pl) (gU pl.2.1 S.me=true) (S.lg.length<=900) (∀H' G x',Off F H H'->jA K mg H' G p (Pb S n pl) x'->Gr F H G->Q .non H'))
abbrev XJ:List Yj:=["self","number","plan"]
theorem Qd:aD ["self","number","plan"] XJ (aA xn):=gF
variable{sO:Yc}{yp:Yc}{rN:Yt}{wg:Yt}(ul:∅ 6 sO rN afA (qM K))(sY:Binds K rN afA [])(yx:∅ 6 yp wg Vy (vH K mg))(yO:Binds K wg Vy [])(zr:Mk K bN sO)(Mg:Mk K dY yp)
include eV ul sY yx yO Qz aH aJ aZ aL aY bA zr Mg in
theorem Qj(F:bW K "enter" "Hand.enter" xn f fd):∅ 8 f fd XJ (Dc K mg):=by
 refine F.oj Qd ?_;rintro _ _ _ _ H _ _ _ hr _ _ _ ⟨p,n,v,rfl,h⟩;refine⟨_,(ak (aQ (K:=K) rfl (pv 0) (Hd Mg yx hr rfl bA yO .nil qZ (aj (au (K:=K) rfl (pv 0) rfl) (aj (pv 1) (aj (bf (aN (K:=K) rfl) (pv 2) aC (λ_ _=>rfl)) (aj (au (K:=K) rfl (pv 0) rfl) ao))))) rfl)
   (ak (aQ (K:=K) rfl (pv 0) (Hd zr ul hr rfl aL sY .nil qZ (aj (au (K:=K) rfl (pv 0) rfl) (aj (bf (aN (K:=K) rfl) (pv 2) aC (λ_ _=>rfl)) ao))) rfl)
   (ak (aQ (K:=K) rfl (pv 0) (pv 2) rfl)
   (ak (aQ (K:=K) rfl (pv 0) bV rfl)
   (ak (aQ (K:=K) rfl (pv 0) (cj (QQ rfl) (by rfl) Qz sT (aj (au (K:=K) rfl (pv 0) rfl) (aj (pv 1) ao))) rfl)
   (ak (aQ (K:=K) rfl (pv 0) (bL Ay (au (K:=K) rfl (pv 0) rfl) (Ri JK (bf (aN (K:=K) rfl) (pv 2) aC (λ_ _=>rfl)))) rfl)
   (ak (aQ (K:=K) rfl (pv 0) qQ rfl)
   (aq (bT (M9 (K:=K) rfl (Vx i4 y4 y6 Jg (au (K:=K) rfl (pv 0) rfl) (aj (eY (aj Fe (aj (pv 1) (aj (bf (aN (K:=K) rfl) (pv 2) aC (λ_ _=>rfl)) (aj (bf (aN (K:=K) rfl) (pv 2) aC (λ_ _=>rfl)) (aj (bf (aN (K:=K) rfl) (pv 2) aC (λ_ _=>rfl)) ao)))))) ao)))))))))))),?_⟩
 refine xl8 ?_;intro _ _ _ _ _ _;obtain⟨F',S,x,pl,HA,⟨tp,te,rfl,gp0,gp1⟩,wp,hs,ll,kk⟩:=h;have hp:=HA.ob;obtain⟨cl,n1,n2,n3,n4,n5,n6,n7,n8,n9,n10,n11,n12,n13,n14⟩:=id HA.T;have eC:=HA.mH;rw[aY]at eC;have eC:=YL eC;have hme:=ajr HA.m0 HA.m1 hs;have lx:x.xs.length=S.lg.length:=bS HA.ev;have stp:=cN.of (K:=K) gp0;have a0:lH [V.int pl.1,.int pl.2.1,.int pl.2.2,.ref te] 0=Ya (.int pl.1):=by kernel_rfl
 have a1:lH [V.int pl.1,.int pl.2.1,.int pl.2.2,.ref te] 1=Ya (.int pl.2.1):=by kernel_rfl
 have a2:lH [V.int pl.1,.int pl.2.1,.int pl.2.2,.ref te] 2=Ya (.int pl.2.2):=by kernel_rfl
 cbv;intro q dq A1 hq s1 g1;refine⟨q,S.me,n,pl.2.1,S.ro,rfl,_,dq,bA,aZ,g1,wp.2.1.1,wp.2.1.2,hme,λA2 xq k2 P2=>⟨rfl,?_⟩⟩;have nq:∀{a u},H a=Ya u->a≠q:=λe z=>by rw[z,hq]at e;cases e
 have sA2:aO H A2:=λb u e=>k2 _ _ (s1 _ _ e) (nq e);have hpA:=sA2 _ _ hp;cbv;intro B1 b1 e1;rw[abu]at e1;have gtB:B1 tp=Ya (.tup [.int pl.1,.int pl.2.1,.int pl.2.2,.ref te]):=b1.at (bj (sA2 _ _ gp0) hpA (by intro z;cases z)) (sA2 _ _ gp0);have stp1:=cN.of (K:=K) gtB;cbv;intro c dc A3 hc s3 g3;refine⟨c,S.me,pl.2.1,rfl,_,dc,aH,g3,λA4 rd k4 hrd grd gch=>⟨rfl,?_⟩⟩;have nc:∀{a u},B1 a=Ya u->a≠c:=λe z=>by rw[z,hc]at e;cases e
 have sA4:aO B1 A4:=λb u e=>k4 _ _ (s3 _ _ e) (nc e);have e1A:=sA4 _ _ e1;cbv;intro B2 b2 e2;rw[acs]at e2;cbv;intro B3 b3 e3;rw[abN]at e3;cbv;intro B4 b4 e4;rw[abt]at e4;cbv;refine⟨S.nw,n,rfl,?_⟩;cbv;intro B5 b5 e5;rw[ab1]at e5;have kB15:∀b u,B1 b=Ya u->b≠p->B5 b=Ya u:=λb u e n=>b5.at n (b4.at n (b3.at n (b2.at n (sA4 _ _ e))));have ntp:tp≠p:=bj gp0 hp (by intro z;cases z);have stp5:=cN.of (K:=K) (kB15 _ _ gtB ntp);cbv;intro B6 b6 e6;rw[acb]at e6;cbv;intro B7 b7 e7;rw[ag6]at e7;have kB17:∀b u,B1 b=Ya u->b≠p->B7 b=Ya u:=λb u e n=>b7.at n (b6.at n (kB15 b u e n));have k07:∀b u,H b=Ya u->b≠p->B7 b=Ya u:=λb u e n=>kB17 _ _ (b1.at n (sA2 _ _ e)) n;have nlp:x.lg≠p:=bj HA.lg hp (by intro z;cases z);have glg:=k07 _ _ HA.lg nlp;have stp7:=cN.of (K:=K) (kB17 _ _ gtB ntp);cbv;intro t B8 ht s8 g8;have glg8:=s8 _ _ glg;have ls:x.xs.length<YB:=aU (by omega);cbv;intro B9 b9 g9;have ntl:t≠x.lg:=bj g8 glg8 (by intro z;cases z);have k79:∀b u,B7 b=Ya u->b≠x.lg->B9 b=Ya u:=λb u e n=>b9.at n (s8 _ _ e);have k09:∀b u,H b=Ya u->b≠p->b≠x.lg->B9 b=Ya u:=λb u e m1 m2=>k79 _ _ (k07 _ _ e m1) m2;have tpk:j4 H B9:=λa xs e=>k09 _ _ e (bj e hp (by intro z;cases z)) (bj e HA.lg (by intro z;cases z));have o9:Off F' H B9:=⟨λb u e m=>k09 b u e (λz=>m (z▸HA.fp)) λz=>m (z▸HA.fl),tpk,λa φ e=>k09 _ _ e (bj e hp (by intro z;cases z)) (bj e HA.lg (by intro z;cases z))⟩;have gp9:=k79 _ _ e7 (bj e7 glg (by intro z;cases z));have nlo:x.lo≠p:=bj HA.lo hp (by intro z;cases z);have glo9:=k09 _ _ HA.lo nlo HA.nl.symm
 -- the page
 have fq:∀{a},Gw (λa=>a=q) A1 A2 a->H a=none:=fun{a} z=>z.1.elim (λw=>w▸hq) λw=>s1.free w;have nf:∀{a u},H a=Ya u->¬ Gw (λa=>a=q) A1 A2 a:=λe z=>by rw[fq z]at e;cases e
 have o29:Off (λa=>a=p∨a=x.lg) A2 B9:=⟨λb u e m=>k79 _ _ (kB17 _ _ (b1.at (λz=>m (.inl z)) e) λz=>m (.inl z)) λz=>m (.inr z),λa xs e=>k79 _ _ (kB17 _ _ (b1.at (bj e hpA (by intro z;cases z)) e) (bj e hpA (by intro z;cases z))) (bj e (sA2 _ _ HA.lg) (by intro z;cases z)),λa φ e=>k79 _ _ (kB17 _ _ (b1.at (bj e hpA (by intro z;cases z)) e) (bj e hpA (by intro z;cases z))) (bj e (sA2 _ _ HA.lg) (by intro z;cases z))⟩;have P9:=P2.off o29 λa z w=>w.elim (λy=>nf hp (y▸z)) λy=>nf HA.lg (y▸z)
 -- the change
 have k49:∀b u,A4 b=Ya u->b≠p->b≠x.lg->B9 b=Ya u:=λb u e m1 m2=>k79 _ _ (b7.at m1 (b6.at m1 (b5.at m1 (b4.at m1 (b3.at m1 (b2.at m1 e)))))) m2;have ncp:c≠p:=λz=>by rw[z,e1]at hc;cases hc
 have gB1l:B1 x.lg=Ya (.lst x.xs):=b1.at nlp (sA2 _ _ HA.lg);have ncl:c≠x.lg:=λz=>by rw[z,gB1l]at hc;cases hc
 have hrd1:B1 rd=none:=s3.free hrd;have nrp:rd≠p:=λz=>by rw[z,e1]at hrd1;cases hrd1
 have nrl:rd≠x.lg:=λz=>by rw[z,gB1l]at hrd1;cases hrd1
 have gch9:=k49 _ _ gch ncp ncl;have grd9:=k49 _ _ grd nrp nrl;have fresh:∀{a},a≠p->B1 a=Yb->H a=Yb/\¬ Gw (λa=>a=q) A1 A2 a:=fun{a} m e=>by
  have e2:A2 a=none:=by
   cases z:A2 a with
   |none=>rfl
   |some u=>rw[b1.at m z]at e;cases e
  exact⟨sA2.free e2,λz=>z.2 e2⟩
 obtain⟨hcH,ncF⟩:=fresh ncp hc;obtain⟨hrH,nrF⟩:=fresh nrp hrd1;have C9:yF K mg B9 c S.me pl.2.1 Yb Yb 0 Yb rd []:=⟨⟨_,dc,.non,.non,.non,aL,gch9,rfl,rfl,.non⟩,⟨[],grd9,.nil,.nil⟩,HA.m0,HA.m1,wp.2.1.1,wp.2.1.2,⟨iw _,trivial⟩,⟨fF _,trivial⟩,λ_=>rfl⟩;refine kk B9 (λa=>a=p∨a=x.lg∨a=x.lo∨Gw (λa=>a=q) A1 A2 a∨a=c∨a=rd) {x with pv:=.ref q,cv:=.ref c,cb:=.ref tp,wb:=.non,xs:=x.xs++[.ref t],Fp:=Gw (λa=>a=q) A1 A2} o9 ?_ λa z=>?_
 ·refine⟨HA.mH,HA.T,gp9,tpk _ _ HA.pa,g9,sd (sH tpk HA.ev) ⟨t,rfl,b9.at ntl g8⟩,glo9,HA.nl,rfl,(λq z=>nomatch z),⟨q,xq,c,rd,rfl,rfl,P9,C9,⟨tp,te,rfl,tpk _ _ gp0,tpk _ _ gp1⟩,⟨(λq z=>nomatch z),(λq z=>nomatch z),(λe z=>nomatch z)⟩,wp,λa z=>.inr (.inr (.inr (.inl z))),.inr (.inr (.inr (.inr (.inl rfl)))),.inr (.inr (.inr (.inr (.inr rfl)))),ncF,nrF⟩,.inl rfl,.inr (.inl rfl),.inr (.inr (.inl rfl)),⟨nf hp,nf HA.lg,nf HA.lo⟩,λa z=>?_,HA.m0,HA.m1,HA.d0,TF HA.t0.1 wp.2.1.1 HA.t0.2⟩;rcases z with rfl|rfl|rfl|z|rfl|rfl
  ·rw[gp9];intro z;cases z
  ·rw[g9];intro z;cases z
  ·rw[glo9];intro z;cases z
  ·exact P9.dm a z
  ·rw[gch9];intro z;cases z
  ·rw[grd9];intro z;cases z
 ·rcases z with rfl|rfl|rfl|z|rfl|rfl
  ·exact .inl HA.fp
  ·exact .inl HA.fl
  ·exact .inl HA.fo
  ·exact .inr (fq z)
  ·exact .inr hcH
  ·exact .inr hrH
noncomputable def Pg(S:Hs)(n:Int):Hs:={S with st:=Yb,wo:=false,lg:=S.lg++[.out n]}
def j7(K:Ye)(mg:Yj->Option Yd):Sp:=λvs H Q _=>∃(p:Yc),vs=[.ref p]/\(E4 λF S x q=>A4 (jA K mg H F p S x) (S.st=Ya q) (S.lg.length<=900) (∀H' x',Off F H H'->jA K mg H' F p (Pg S q.1) x'->Q .non H'))
theorem N5:aD ["self"] bx (aA uA):=gF
include eV aJ aZ aY bA in
theorem Mq(F:bW K "go_out" "Hand.go_out" uA f fd):∅ 1 f fd bx (j7 K mg):=by
 refine F.oj N5 ?_;rintro _ _ _ _ H _ _ _ _ _ _ _ ⟨p,rfl,h⟩;refine⟨_,(ak (bT (M9 (K:=K) rfl (Vx i4 y4 y6 Jg (au (K:=K) rfl (pv 0) rfl) (aj (eY (aj Fe (aj (au (K:=K) rfl (au (K:=K) rfl (pv 0) rfl) rfl) ao))) ao))))
   (ak (aQ (K:=K) rfl (pv 0) bV rfl)
   (ak (aQ (K:=K) rfl (pv 0) bV rfl)
   (ak (aQ (K:=K) rfl (pv 0) bV rfl)
   (aq (aQ (K:=K) rfl (pv 0) qQ rfl)))))),?_⟩
 refine xl5 ?_;intro _ _ _;obtain⟨F',S,x,q,HA,es,ll,kk⟩:=h;have hp:=HA.ob;obtain⟨cl,n1,n2,n3,n4,n5,n6,n7,n8,n9,n10,n11,n12,n13,n14⟩:=id HA.T;have T2:=aZ.n2;have Tc:=aZ.cl;have st:=HA.st;rw[es]at st;obtain⟨pg,y,ch,rd,q1,q2,P,_⟩:=st;obtain⟨C,dx,mP,_,hg⟩:=P.ob;rw[bA]at mP;cases mP;rw[q1,q2]at hp;have lx:x.xs.length=S.lg.length:=bS HA.ev;have ls:x.xs.length<YB:=aU (by omega);have glg:=HA.lg;cbv;intro t H1 ht s1 g1;have glg1:=s1 _ _ glg;have hp1:=s1 _ _ hp;cbv;intro H2 b2 g2;have nlp:p≠x.lg:=bj hp glg (by intro z;cases z);have hp2:=b2.at nlp hp1;cbv;intro H3 b3 g3;rw[abu]at g3;cbv;intro H4 b4 g4;rw[acs]at g4;cbv;intro H5 b5 g5;rw[abN]at g5;cbv;intro H6 b6 g6;rw[ag5]at g6;have k26:∀b u,H2 b=Ya u->b≠p->H6 b=Ya u:=λb u e n=>b6.at n (b5.at n (b4.at n (b3.at n e)));have k06:∀b u,H b=Ya u->b≠p->b≠x.lg->H6 b=Ya u:=λb u e m1 m2=>k26 _ _ (b2.at m2 (s1 _ _ e)) m1;have tpk:j4 H H6:=λa xs e=>k06 _ _ e (bj e hp (by intro z;cases z)) (bj e glg (by intro z;cases z));have o6:Off F' H H6:=⟨λb u e m=>k06 b u e (λz=>m (z▸HA.fp)) λz=>m (z▸HA.fl),tpk,λa φ e=>k06 _ _ e (bj e hp (by intro z;cases z)) (bj e glg (by intro z;cases z))⟩;have glg6:=k26 _ _ g2 nlp.symm;refine kk H6 {x with pv:=.non,cv:=.non,cb:=.non,xs:=x.xs++[.ref t],Fp:=λ_=>False} o6 ⟨HA.mH,HA.T,g6,tpk _ _ HA.pa,glg6,sd (sH tpk HA.ev) ⟨t,rfl,k26 _ _ (b2.at (bj g1 glg1 (by intro z;cases z)) g1) (bj g1 hp1 (by intro z;cases z))⟩,k06 _ _ HA.lo (bj HA.lo hp (by intro z;cases z)) HA.nl.symm,HA.nl,HA.wb.up tpk,HA.wp,⟨rfl,rfl,rfl⟩,HA.fp,HA.fl,HA.fo,⟨λz=>z,λz=>z,λz=>z⟩,λa f=>?_,HA.m0,HA.m1,HA.d0,HA.t0⟩;by_cases z1:a=p
 ·rw[z1,g6];intro z;cases z
 by_cases z2:a=x.lg
 ·rw[z2,glg6];intro z;cases z
 cases e:H a with
 |none=>exact absurd e (HA.dm a f)
 |some u=>rw[k06 a u e z1 z2];intro z;cases z
section
variable{F:Yc->Prop}{p:Yc}{S:Hs}{x:Lj}
theorem jA.fld{x':Lj}(h:jA K mg H F p S x)(b:But p H H')(e:H' p=Ya (.ins x.C x.dx (nJ (.int S'.me) (.int S'.ro) (.int S'.nw) x'.pv x'.cv x'.cb x'.wb (.ref x'.pa) (.ref x'.lg) (.ref x'.lo) (.int S'.db) (.int S'.nt) (.bl S'.wo) (.bl S'.wi))))(ex:x'.C=x.C/\x'.dx=x.dx/\x'.pv=x.pv/\x'.cv=x.cv/\x'.cb=x.cb/\x'.lg=x.lg/\x'.lo=x.lo/\x'.xs=x.xs/\x'.Fp=x.Fp)(es:S'.me=S.me/\S'.ro=S.ro/\S'.st=S.st/\S'.lg=S.lg)(pa:H' x'.pa=Ya (.tup []))(wb:WbV H' x'.wb S'.wb)(wp:∀q,S'.wb=Ya q->O6 q.1)(d0:0<=S'.db)(t0:0<=S'.nt/\S'.nt<9223372036854775808):Off F H H'/\jA K mg H' F p S' x':=by
 obtain⟨x1,x2,x3,x4,x5,x6,x7,x8,x9⟩:=ex;obtain⟨s1,s2,s3,s4⟩:=es;have hp:=h.ob;have o:Off F H H':=.but b hp h.fp (by intro _ z;cases z) (by intro _ z;cases z);have nlp:x.lg≠p:=bj h.lg hp (by intro z;cases z);have nop:x.lo≠p:=bj h.lo hp (by intro z;cases z);have st:StA K mg H' F x.Fp S.me S.ro x.pv x.cv x.cb S.st:=by
  have st:=h.st;cases es:S.st with
  |none=>rw[es]at st;exact st
  |some q=>
   rw[es]at st;obtain⟨pg,y,ch,rd,e1,e2,P,C,c,w,wp,f1,f2,f3,f4,f5⟩:=st;have oS:Off (λa=>a=p) H H':=.but b hp rfl (by intro _ z;cases z) (by intro _ z;cases z);have hc:∃C dx fs,H ch=Ya (.ins C dx fs)/\fs.length=7:=by
    obtain⟨⟨C,dx,ba,ye,av,_,g,_⟩,_⟩:=C;exact⟨C,dx,_,g,rfl⟩
   have hr:∃m,H rd=Ya (.dK m):=by
    obtain⟨_,⟨m,g,_⟩,_⟩:=C;exact⟨_,g⟩
   refine⟨pg,y,ch,rd,e1,e2,P.off oS (λa f z=>h.np.1 (z▸f)),yF.off C oS (λz=>?_) (λz=>?_),c.up oS.tp,w,wp,f1,f2,f3,f4,f5⟩
   ·obtain⟨C',dx',fs,g,l⟩:=hc;have z:ch=p:=z;rw[z,hp]at g;cases g;have l:(14:Nat)=7:=l;cases l
   ·obtain⟨m,g⟩:=hr;have z:rd=p:=z;rw[z,hp]at g;cases g
 refine⟨o,by rw[x1];exact h.mH,by rw[x1];exact h.T,by rw[x1,x2];exact e,pa,by rw[x6,x8];exact b.at nlp h.lg,by rw[x8,s4];exact sH o.tp h.ev,by rw[x7];exact b.at nop h.lo,by rw[x6,x7];exact h.nl,wb,wp,by rw[x3,x4,x5,x9,s1,s2,s3];exact st,h.fp,by rw[x6];exact h.fl,by rw[x7];exact h.fo,by rw[x6,x7,x9];exact h.np,λa f=>?_,by rw[s1];exact h.m0,by rw[s1];exact h.m1,d0,t0⟩;by_cases z:a=p
 ·rw[z,e];intro z;cases z
 ·cases g:H a with
  |none=>exact absurd g (h.dm a f)
  |some u=>rw[b.at z g];intro z;cases z
end
noncomputable def O8(S:Hs)(n:Int)(pl:Pn):Hs:=if(gU pl.1 S.me&&gU pl.2.1 S.me)=true then Pb S (n+ 1) pl else{Pg S n with wb:=Ya (pl,n)}
def uw(K:Ye)(mg:Yj->Option Yd):Sp:=λvs H Q _=>E2 fun(p:Yc) (v:V)=>vs=[.ref p,v]/\(E5 λF S x q pl=>A6 (jA K mg H F p S x) (S.st=Ya q) (Uq H v pl) (O6 pl) (S.lg.length<=900) (∀H' G x',Off F H H'->jA K mg H' G p (O8 S q.1 pl) x'->Gr F H G->Q .non H'))
abbrev QZ:List Yj:=["self","plan"]
theorem uK:aD ["self","plan","number","goes_on"] QZ (aA xx):=gF
variable{En:Yc}{J8:Yc}{j5:Yc}{Jf:Yc}{uR:Yc}{Ba:Yt}{Jc:Yt}{jX:Yt}{Ec:Yt}{rH:Yt}(rm:∅ 8 aci SX aaC (Tt K))(El:∅ 8 En Ba Vv (Bo K))(Ek:Binds K Ba Vv [])(KH:∅ 8 J8 Jc bx (Jd K mg))(J6:Binds K Jc bx [])(um:∅ 8 j5 jX QF (jR K mg))(iQ:Binds K jX QF [])(jk:∅ 8 Jf Ec XJ (Dc K mg))(ji:Binds K Ec XJ [])(Dt:∅ 8 uR rH bx (j7 K mg))(nY:Binds K rH bx [])(cY:bU K bB "enter" Jf)(dX:bU K bB "go_out" uR)(cL:bU K bB "note_taken" j5)(iW:bU K dY "finish" En)(j6:bU K dY "rows" J8)
include eV rm z9 El Ek KH J6 um iQ jk ji Dt nY dw aJ aZ aY bA cY dX cL iW j6 in
theorem Qh(F:bW K "go_by" "Hand.go_by" xx f fd):∅ 9 f fd QZ (uw K mg):=by
 refine F.oj uK ?_;rintro _ A _ _ H _ Q _ hr _ _ _ ⟨p,v,rfl,h⟩;refine⟨_,(ak (aV (i:=2) uK.nd rfl (Or.inl rfl) (au (K:=K) rfl (au (K:=K) rfl (pv 0) rfl) rfl))
   (ak (aV (i:=3) uK.nd rfl (Or.inl rfl) (bh rm z9 hr (aj (bf (aN (K:=K) rfl) (pv 1) aC (λ_ _=>rfl)) (aj (au (K:=K) rfl (pv 0) rfl) ao))))
   (ak (cF (Xu (K:=K) rfl (pv 3)) (ak (bT (bD (cH.cons aJ.cl cL um iQ cH.nil) (pv 0) hr (aj (bD (cH.cons aZ.cl iW El Ek cH.nil) (au (K:=K) rfl (pv 0) rfl) hr (aj (bf (aN (K:=K) rfl) (pv 1) aC (λ_ _=>rfl)) ao)) ao)))
   (aq (aQ (K:=K) rfl (pv 0) (bL (ad3 (K:=K) rfl) (au (K:=K) rfl (pv 0) rfl) (bZ (fj (K:=K) rfl) (by rfl) dw bE (aj (bM (cH.cons aZ.cl j6 KH J6 cH.nil) (au (K:=K) rfl (pv 0) rfl) hr) ao))) rfl))) bG)
   (aq (cF (PW.pt (pK (Xu (K:=K) rfl (pv 3)) (kJ (cT K rfl (bh rm z9 hr (aj (bf (aN (K:=K) rfl) (pv 1) aC (λ_ _=>rfl)) (aj (au (K:=K) rfl (pv 0) rfl) ao))))))) (aq (bT (bD (cH.cons aJ.cl cY jk ji cH.nil) (pv 0) hr (aj (bL mJ (pv 2) aC) (aj (pv 1) ao))))) (ak (bT (bM (cH.cons aJ.cl dX Dt nY cH.nil) (pv 0) hr))
   (aq (aQ (K:=K) rfl (pv 0) (eY (aj (pv 1) (aj (pv 2) ao))) rfl)))))))),?_⟩
 refine xl4 ?_;intro _ _;obtain⟨F',S,x,q,pl,HA,es,⟨tp,te,rfl,gp0,gp1⟩,wp,ll,kk⟩:=h;obtain⟨cl,n1,n2,n3,n4,n5,n6,n7,n8,n9,n10,n11,n12,n13,n14⟩:=id aJ;have hob:∀{A:Hp} {x1:Lj} {S1:Hs} {F1:Yc->Prop},jA K mg A F1 p S1 x1->x1.C=bB:=λh=>by have:=h.mH;rw[aY]at this;cases this;rfl
 have hp:=HA.ob;rw[hob HA]at hp;have T2:=aZ.n2;have Tc:=aZ.cl;have st:=HA.st;rw[es]at st;obtain⟨pg,y,ch,rd,q1,q2,P,_⟩:=st;obtain⟨C,dx,mP,_,hg⟩:=P.ob;rw[bA]at mP;cases mP;rw[q1,q2]at hp;have stp:=cN.of (K:=K) gp0;have ste:=cN.of (K:=K) gp1;have a0:lH [V.int pl.1,.int pl.2.1,.int pl.2.2,.ref te] 0=Ya (.int pl.1):=by kernel_rfl
 have a1:lH [V.int pl.1,.int pl.2.1,.int pl.2.2,.ref te] 1=Ya (.int pl.2.1):=by kernel_rfl
 have a3:lH [V.int pl.1,.int pl.2.1,.int pl.2.2,.ref te] 3=Ya (.ref te):=by kernel_rfl
 have m1:=HA.m1;cbv;refine⟨pl.1,S.me,rfl,wp.1.1,HA.m0,by omega,?_⟩;cbv;refine rT (λσ A=>A3 (σ=[Ya (.ref p),Ya (.ref tp),Ya (.int q.1),Ya (.bl (gU pl.1 S.me))]) (Off F' H A) (∃x1,jA K mg A F' p S x1)) ?_ λN rest=>?_
 ·rintro σ A ⟨rfl,oA,x1,HB⟩;have hpA:=HB.ob;rw[hob HB]at hpA;have stpA:=cN.of (K:=K) (oA.tp _ _ gp0);have out:(gU pl.1 S.me&&gU pl.2.1 S.me)=false->aM (ab6 (Um [(bB,j7 K mg)] "go_out" (Tv 0) K7)) (adM K (Tv 0) (akW (Iz (Tv 1) (Iz (Tv 2) K7))) "went_by") {nx:=λx H'=>Q V.non H',rt:=Q} [Ya (V.ref p),Ya (V.ref tp),Ya (V.int q.1),Ya (V.bl (gU pl.1 S.me))] A:=λhf=>by
   cbv;refine⟨p,rfl,F',S,x1,q,HB,es,ll,λH2 x2 o2 H2A=>?_⟩;have hp2:=H2A.ob;rw[hob H2A]at hp2;cbv;intro t H3 ht s3 g3;have H3A:=H2A.same s3;have hp3:=s3 _ _ hp2;cbv;intro H4 b4 g4;rw[abt]at g4;have k34:j4 H3 H4:=λa xs e=>b4.at (bj e hp3 (by intro z;cases z)) e;have pn4:Uq H4 (.ref tp) pl:=Uq.up (λa xs e=>k34 _ _ (s3 _ _ (o2.tp _ _ (oA.tp _ _ e)))) ⟨tp,te,rfl,gp0,gp1⟩;have pa2:=H3A.pa;obtain⟨o4,H4A⟩:=H3A.fld (S':={Pg S q.1 with wb:=Ya (pl,q.1)}) (x':={x2 with wb:=.ref t}) b4 (by rw[hob H2A];exact g4) ⟨rfl,rfl,rfl,rfl,rfl,rfl,rfl,rfl,rfl⟩ ⟨rfl,rfl,rfl,rfl⟩ (k34 _ _ pa2) ⟨t,_,rfl,k34 _ _ g3,pn4⟩ (λq' z=>by cases z;exact wp) H3A.d0 H3A.t0;have e:O8 S q.1 pl={Pg S q.1 with wb:=Ya (pl,q.1)}:=if_neg (by rw[hf];intro z;cases z);exact kk H4 F' _ (oA.trans (o2.trans ((Off.sm s3).trans o4))) (by rw[e];exact H4A) .self
  cbv;refine d9 (λz=>?_) λz=>?_
  ·cbv;refine⟨pl.2.1,S.me,rfl,wp.2.1.1,HA.m0,by omega,?_⟩;cbv;refine d9 (λw=>?_) λw=>?_
   ·have w:gU pl.2.1 S.me=true:=w;cbv;refine⟨p,_,_,rfl,F',S,x1,pl,HB,Uq.up oA.tp ⟨tp,te,rfl,gp0,gp1⟩,wp,w,ll,λH2 G x2 o2 H2A gr=>?_⟩;have e:O8 S q.1 pl=Pb S (q.1+ 1) pl:=if_pos (by rw[z,w];rfl);exact kk H2 G x2 (oA.trans o2) (by rw[e];exact H2A) λa ga=>(gr a ga).imp id λy=>(oA.none y).elim (λf=>absurd y (HB.dm a f)) id
   ·exact out (by have w:gU pl.2.1 S.me=false:=dS.mpr w;rw[w,i9])
  ·exact out (by rw[dS.mpr z];rfl)
 ·cbv;refine d9 (λz=>?_) λz=>?_
  ·have z:gU pl.1 S.me=true:=z;cbv;refine⟨_,te,rfl,ste,λH1 l s1 hl g1=>?_⟩;have hp1:=s1 _ _ hp;cbv;refine⟨p,l,rfl,F',S,x,HA.same s1,bI.of g1,ll,λH2 s2=>?_⟩;have s02:=s1.trans s2;have hp2:=s02 _ _ hp;have hg2:=s02 _ _ hg;cbv;refine⟨pg,rfl,_,_,_,_,_,_,P.same s02,λH3 l3 s3 hl3 g3=>?_⟩;have sl3:bI K H3 l3 []:=bI.of g3;cbv;intro t3 H4 ht3 s4 g4;have s04:=s02.trans (s3.trans s4);have HB:=HA.same s04;have hp4:=s04 _ _ hp;cbv;refine⟨x.pa,t3,[],[],rfl,rfl,cN.of HB.pa,cN.of g4,YZ _,λ_=>?_,λz=>absurd rfl z,λz=>absurd rfl z⟩;cbv;intro H5 b5 g5;rw[abn]at g5;have k45:j4 H4 H5:=λa xs e=>b5.at (bj e hp4 (by intro z;cases z)) e;obtain⟨o5,HC⟩:=HB.fld (S':=S) (x':={x with pa:=t3}) b5 (by rw[hob HA,q1,q2];exact g5) ⟨rfl,rfl,rfl,rfl,rfl,rfl,rfl,rfl,rfl⟩ ⟨rfl,rfl,rfl,rfl⟩ (k45 _ _ g4) (HB.wb.up k45) HB.wp HB.d0 HB.t0;exact rest _ _ ⟨rfl,(Off.sm s04).trans o5,_,HC⟩
  ·have z:gU pl.1 S.me=false:=dS.mpr z;exact rest _ _ ⟨rfl,.refl _ _,x,HA⟩
theorem Ve:∀{ys:List qb} {g q},V3 ys g=Ya q->g=Ya q∨Ya q∈ys
 |[],g,q,h=>.inl h
 |y::ys,g,q,h=>by
  rcases Ve (ys:=ys) h with z|z
  ·split at z
   ·exact .inr (by rw[←z];exact Yl)
   ·exact .inl z
  ·exact .inr (Yk _ z)
theorem agL{rp:List (Int×Rt×qb)}{q:(Int×Int)×Pn}(h:gOf rp=Ya q):∃e∈rp,e.2.2=Ya q:=by
 rcases Ve h with z|z
 ·cases z
 ·obtain⟨e,he,e2⟩:=YF.mp z;exact⟨e,he,e2⟩
theorem Ol(h:∀x∈ns,0<=x/\x<63):0<=Et ns/\Et ns<9223372036854775808:=by
 unfold Et;have:ns.foldl (λn (h:Int)=>n ||| 2^h.toNat) 0<2^63:=xk _ λi hi=>by
  rw[Cy,cE,iX,dS];intro z;obtain⟨x,hx,e⟩:=eR.mp z;have:=h x hx;have:=of_decide_eq_true e;omega
 have p:(2:Nat)^63=9223372036854775808:=by decide
 omega
theorem ajL{me:Int}{rp:List (Int×Rt×qb)}(m0:0<=me)(m1:me<63)(a0:0<=ha)(w:0<=wi/\wi<9223372036854775808)(rg:∀e∈rp,0<=e.1/\e.1<63):O6 (plR me ha rp wi):=by
 have n:=TF w.1 a0 w.2;have r1:=Ol (ns:=rp.map (·.1)) λx hx=>by obtain⟨e,he,rfl⟩:=YF.mp hx;exact rg e he
 have r2:=Ol (ns:=(rp.filter λe=>!e.2.1.2).map (·.1)) λx hx=>by obtain⟨e,he,rfl⟩:=YF.mp hx;exact rg e (cc.mp he).1
 have b:=Ul m0 m1;have o:=WX r2.1 r2.2 b.1 b.2;refine⟨r1,WX o.1 o.2 n.1 n.2,n,λi hi=>?_⟩;show(YD _ _).toNat.testBit i=true;rw[Nx o.1 n.1,YA,rj,show(Yz wi (Yw ha)).toNat.testBit i=true from hi,Bool.or_true]
theorem akv{me hd:Int}(h:WfC c)(m0:0<=me)(m1:me<63)(a0:0<=hd)(w:0<=wi/\wi<9223372036854775808):WfC (JH me hd dd wi c):=by
 unfold JH;split
 ·have wp:O6 (PL me hd wi c):=by
   unfold PL;split
   ·exact ajL m0 m1 a0 w λe he=>(h.rp e he).2.1
   ·next g e=>
    obtain⟨r,hr,e2⟩:=agL e;exact(h.rp r hr).2.2 g e2
  refine⟨λq z=>by cases z;exact wp,λq z=>?_,h.rp⟩;have z:vf c.ag (Ya (c.b.getD (0,0),PL me hd wi c)) (2^me.toNat) hd=Ya q:=z;unfold vf at z;split at z
  ·split at z
   ·cases z;exact wp
   ·cases z
  ·next p e=>exact h.ag q (by rw[e];exact z)
 ·exact h
noncomputable def yW(S:Hs):Hs:=match S.st with
 |none=>S
 |some q=>match(JH S.me q.2.1 S.db (Yz S.nt (Yw S.db)) q.2.2.1).ag with
  |none=>{S with st:=Ya (q.1,q.2.1,JH S.me q.2.1 S.db (Yz S.nt (Yw S.db)) q.2.2.1,q.2.2.2)}
  |some pl=>O8 {S with st:=Ya (q.1,q.2.1,JH S.me q.2.1 S.db (Yz S.nt (Yw S.db)) q.2.2.1,q.2.2.2)} q.1 pl
abbrev eX(Pt:Yc)(H:Hp):Prop:=aj7 Pt (aj5 cV) "Hand.settle.<locals>.<lambda>" H
def FT(F:Yc->Prop)(Pt:Yc):Yc->Prop:=λa=>F a∨a=Pt
theorem eX.off{F:Yc->Prop}(t:eX Pt H)(o:Off F H H')(n:¬ F Pt):eX Pt H':=by
 rcases t with t|⟨c,t,u⟩
 ·exact .inl (o.of _ _ t n)
 ·exact .inr ⟨c,o.of _ _ t n,o.ex _ _ u⟩
theorem eX.some(t:eX Pt H):∃ps,H Pt=Ya (.tbl ps):=by
 rcases t with t|⟨c,t,u⟩
 ·exact⟨_,t⟩
 ·exact⟨_,t⟩
theorem jA.chg{F:Yc->Prop}{p:Yc}{S:Hs}{x:Lj}{rd':Yc}{y:PgX}{c':Cg}(h:jA K mg H F p S x)(es:S.st=Ya q)(e1:x.pv=.ref pg)(e2:x.cv=.ref ch)(P:yX K mg H x.Fp pg S.me q.1 q.2.1 S.ro y)(f1:∀a,x.Fp a->F a)(f2:F ch)(f4:¬ x.Fp ch)(f5:¬ x.Fp rd)(f3:F rd)(pn:Uq H x.cb q.2.2.2)(wp:O6 q.2.2.2)(hc:∃C dx fs,H ch=Ya (.ins C dx fs)/\fs.length=7)(hr:∃m,H rd=Ya (.dK m))(nP:¬ F Pt)(o:Off (λa=>a=ch∨a=rd∨a=Pt) H H')(C:ChG K mg H' ch S.me q.2.1 c' rd')(w:WfC c')(fr:rd'=rd∨H rd'=Yb):
  Off (FT F Pt) H H'/\∃G,jA K mg H' G p {S with st:=Ya (q.1,q.2.1,c',q.2.2.2)} x/\Gr F H G:=by
 obtain⟨C1,dx1,fs1,g1,l1⟩:=hc;obtain⟨m1,g2⟩:=hr;have hp:=h.ob;have npc:p≠ch:=λz=>by rw[←z,hp]at g1;cases g1;have l1:(14:Nat)=7:=l1;cases l1
 have npr:p≠rd:=bj hp g2 (by intro z;cases z);have nlc:x.lg≠ch:=bj h.lg g1 (by intro z;cases z);have nlr:x.lg≠rd:=bj h.lg g2 (by intro z;cases z);have noc:x.lo≠ch:=bj h.lo g1 (by intro z;cases z);have nor:x.lo≠rd:=bj h.lo g2 (by intro z;cases z);have nF:∀{a},F a->a≠Pt:=λf z=>nP (z▸f);have k:∀{a u},H a=Ya u->a≠ch->a≠rd->F a->H' a=Ya u:=λe m1 m2 f=>o.of _ _ e λz=>by
  rcases z with z|z|z
  ·exact m1 z
  ·exact m2 z
  ·exact nF f z
 have hrd':∃m,H' rd'=Ya (.dK m):=by obtain⟨_,⟨m,g,_⟩,_⟩:=C;exact⟨_,g⟩
 obtain⟨mr,grd'⟩:=hrd';have hch':∃u,H' ch=Ya u:=by obtain⟨⟨_,_,_,_,_,_,g,_⟩,_⟩:=C;exact⟨_,g⟩
 obtain⟨uc,gch'⟩:=hch';have P':=P.off o λa f z=>by
  rcases z with z|z|z
  ·exact f4 (z▸f)
  ·exact f5 (z▸f)
  ·exact nF (f1 a f) z
 have gp:=k hp npc npr h.fp;have gl:=k h.lg nlc nlr h.fl;have go:=k h.lo noc nor h.fo;refine⟨o.mono λa z=>by
  rcases z with z|z|z
  ·exact .inl (z▸f2)
  ·exact .inl (z▸f3)
  ·exact .inr z,λa=>a=p∨a=x.lg∨a=x.lo∨x.Fp a∨a=ch∨a=rd',⟨h.mH,h.T,gp,o.tp _ _ h.pa,gl,sH o.tp h.ev,go,h.nl,h.wb.up o.tp,h.wp,⟨pg,y,ch,rd',e1,e2,P',C,pn.up o.tp,w,wp,λa z=>.inr (.inr (.inr (.inl z))),.inr (.inr (.inr (.inr (.inl rfl)))),.inr (.inr (.inr (.inr (.inr rfl)))),f4,λz=>?_⟩,.inl rfl,.inr (.inl rfl),.inr (.inr (.inl rfl)),h.np,λa z=>?_,h.m0,h.m1,h.d0,h.t0⟩,λa z=>?_⟩
 ·rcases fr with y|y
  ·exact f5 (y▸z)
  ·exact P.dm _ z y
 ·rcases z with rfl|rfl|rfl|z|rfl|rfl
  ·rw[gp];intro z;cases z
  ·rw[gl];intro z;cases z
  ·rw[go];intro z;cases z
  ·exact P'.dm a z
  ·rw[gch'];intro z;cases z
  ·rw[grd'];intro z;cases z
 ·rcases z with rfl|rfl|rfl|z|rfl|rfl
  ·exact .inl h.fp
  ·exact .inl h.fl
  ·exact .inl h.fo
  ·exact .inl (f1 a z)
  ·exact .inl f2
  ·rcases fr with y|y
   ·exact .inl (by rw[y];exact f3)
   ·exact .inr y
def Bw(K:Ye)(mg:Yj->Option Yd)(P_mk:Yc):Sp:=λvs H Q _=>∃(p:Yc),vs=[.ref p]/\(E3 λF S x=>A5 (jA K mg H F p S x) (S.lg.length<=900) (eX P_mk H) (¬ F P_mk) (∀H' G x',Off (FT F P_mk) H H'->jA K mg H' G p (yW S) x'->Gr F H G->eX P_mk H'->Q .non H'))
theorem lA:aD ["self","hands","wishes","plan"] bx (aA nU):=gF
variable{v8:Yc}{vK:Yc}{wO:Yc}{tG:Yt}{tZ:Yt}{uD:Yt}{aa0:Yc}{P_mk:Yc}(hC:GG base aa0 P_mk)(hB:Ua base mg)(wB:∅ 9 v8 tG bx (sW K mg))(vA:Binds K tG bx [])(vG:∅ 9 vK tZ Vt (sU K mg))(wI:Binds K tZ Vt [])(qw:∅ 9 wO uD QZ (uw K mg))(jm:Binds K uD QZ [])(fU:bU K bN "propose" vK)(gb:bU K bN "settled" v8)(cZ:bU K bB "go_by" wO)
include eV hC hB wB vA vG wI qw jm aH aJ aZ aL aY bA fU gb cZ in
theorem Ma(F:ae6 K "settle" "Hand.settle" nU f fd aa0):∅ 10 f fd bx (Bw K mg P_mk):=by
 refine F.ok lA (λvs H Q E h=>?_) (λA outer s H vs Q E hr h=>?_)
 ·obtain⟨p,rfl,_⟩:=h;rfl
 obtain⟨p,rfl,h⟩:=h;have hu64:=hr.units;have hu0:=hr.units0;have hu:=Ot hr;refine⟨_,(ak (cF (aX j8 (au (K:=K) rfl (pv 0) rfl) bV (bc _)) (aq RL) bG)
   (ak (aV (i:=1) lA.nd rfl (Or.inr rfl) (au (K:=K) rfl (au (K:=K) rfl (pv 0) rfl) rfl))
   (ak (aV (i:=2) lA.nd rfl (Or.inr rfl) (bL Ay (au (K:=K) rfl (pv 0) rfl) (Ri JK (au (K:=K) rfl (pv 0) rfl))))
   (ak (bT (afC (cH.cons aH.cl fU vG wI cH.nil) (au (K:=K) rfl (pv 0) rfl) hr (ana (i1:=2) (i2:=0) (i3:=1) (x1:="wishes") (x2:="self") (x3:="hands") (c1:=s.heap.objs.size+ 1+ 1+ 1) (c2:=s.heap.objs.size+ 1) (c3:=s.heap.objs.size+ 1+ 1) (ae5 _).symm (oz _) (oz _).symm rfl rfl rfl rfl rfl rfl rfl rfl rfl rfl rfl rfl) (aj (au (K:=K) rfl (pv 0) rfl) (aj (ahk (c:=aa0) (Pt:=P_mk) rfl rfl rfl hC hB) ao))))
   (ak (aV (i:=3) lA.nd rfl (Or.inl rfl) (bM (cH.cons aH.cl gb wB vA cH.nil) (au (K:=K) rfl (pv 0) rfl) hr))
   (aq (cF (aX nQ (pv 3) bV (bc _)) (aq (bT (bD (cH.cons aJ.cl cZ qw jm cH.nil) (pv 0) hr (aj (pv 3) ao)))) bG))))))),?_⟩
 refine xl6 ?_;intro _ _ _ _;obtain⟨F',S,x,HA,ll,tb,nP,kk⟩:=h;obtain⟨cl,n1,n2,n3,n4,n5,n6,n7,n8,n9,n10,n11,n12,n13,n14⟩:=id aJ;have hob:∀{A:Hp} {x1:Lj} {S1:Hs} {F1:Yc->Prop},jA K mg A F1 p S1 x1->x1.C=bB:=λh=>by have:=h.mH;rw[aY]at this;cases this;rfl
 have hp:=HA.ob;rw[hob HA]at hp;have st:=HA.st;cases es:S.st with
 |none=>
  rw[es]at st;obtain⟨q1,q2,q3⟩:=st;rw[q1,q2,q3]at hp;have e:yW S=S:=by unfold yW;rw[es]
  rw[e]at kk;refine HN ?_;cbv;exact kk H F' x (.refl _ _) HA .self tb
 |some q=>
  rw[es]at st;obtain⟨pg,y,ch,rd,q1,q2,P,C,pn,w,wp,f1,f2,f3,f4,f5⟩:=st;obtain⟨Cp,dxp,mP,Tp,hg⟩:=P.ob;rw[bA]at mP;cases mP;obtain⟨⟨Cc,dc,ba,ye,av,mC,hc,hbb,_⟩,⟨mr,hrd,_⟩,_⟩:=id C;rw[aL]at mC;cases mC;rw[q1,q2]at hp;have T3:=aZ.n3;have Tc:=aZ.cl;have Td:=aH.cl;refine HN ?_;cbv;rw[dH];cbv;refine ajM tb λf9 c9 ctv H2 hf9 sm2 ef ec eP=>?_;obtain⟨psT,hPT⟩:=eX.some tb;have nt:∀{a o},H a=Ya o->(∀ps,o≠.tbl ps)->a≠P_mk:=λe n z=>by rw[z,hPT]at e;cases e;exact n _ rfl
  have k2:∀a o,H a=Ya o->(∀ps,o≠.tbl ps)->H2 a=Ya o:=λa o e n=>sm2 a o (nt e n) e;have C2:ChG K mg H2 ch S.me q.2.1 q.2.2.1 rd:=yF.up C (λo e=>by rw[hc]at e;cases e;exact k2 _ _ hc (by intro _ z;cases z)) (λo e=>by rw[hrd]at e;cases e;exact k2 _ _ hrd (by intro _ z;cases z)) λa xs e=>k2 _ _ e (by intro _ z;cases z);have hp2:=k2 _ _ hp (by intro _ z;cases z);have hc2:=k2 _ _ hc (by intro _ z;cases z);cbv;obtain⟨wi,ewi⟩:∃wi,wi=Yz S.nt (Yw S.db):=⟨_,rfl⟩;have wrg:0<=wi/\wi<9223372036854775808:=by rw[ewi];exact TF HA.t0.1 HA.d0 HA.t0.2
  refine⟨[.int wi,.ref p,.int q.2.1],rfl,amv (by rw[ewi];rfl) rfl rfl,λL ld=>?_⟩;have sL:=ld.same;have hcL:=sL _ _ hc2;refine⟨ch,S.db,f9,rfl,S.me,q.2.1,q.2.2.1,rd,wi,p,yF.same C2 sL,⟨c9,_,_,_,_,ctv,⟨(ae5 _).symm,oz _,(oz _).symm⟩,sL _ _ ef,sL _ _ ec,ld.all⟩,⟨_,_,_,_,_,_,_,_,_,_,_,_,_,_,_,aJ,sL _ _ hp2⟩,w.r,HA.d0,λr H5 k5 S5=>?_⟩;have fz:∀c∈(PQ (s.heap.objs.size+ 1+ 1+ 1) (s.heap.objs.size+ 1) (s.heap.objs.size+ 1+ 1)).map (·.2),∃o φ,H5 c=Ya (.frz o (.ext φ)):=λc hc'=>by
   obtain⟨o,φ,e⟩:=ld.all.frz c hc';exact⟨o,φ,k5 _ _ (bj e hcL (by intro z;cases z)) e⟩
  show(aeF _ _) _ _;unfold aeF;have un:∀x o,H5 x=Ya o->(∀o' φ,o≠.frz o' (.ext φ))->K8 ((PQ (s.heap.objs.size+ 1+ 1+ 1) (s.heap.objs.size+ 1) (s.heap.objs.size+ 1+ 1)).map (·.2)) H5 x=Ya o:=λx o e n=>abw fz e n;have fr5:∀x o,x≠ch->H2 x=Ya o->K8 ((PQ (s.heap.objs.size+ 1+ 1+ 1) (s.heap.objs.size+ 1) (s.heap.objs.size+ 1+ 1)).map (·.2)) H5 x=Ya o:=λx o m e=>by
   rw[iR λz=>by rw[ld.non x z]at e;cases e];exact k5 _ _ m (sL _ _ e)
  generalize K8 ((PQ (s.heap.objs.size+ 1+ 1+ 1) (s.heap.objs.size+ 1) (s.heap.objs.size+ 1+ 1)).map (·.2)) H5=A5 at un fr5⊢;have S6:ChG K mg A5 ch S.me q.2.1 (JH S.me q.2.1 S.db wi q.2.2.1) rd:=by
   obtain⟨⟨C5,dx5,ba5,ye5,av5,eC5,hp5,_⟩,⟨m5,hd5,_⟩,_⟩:=id S5;exact yF.up S5 (λo e=>by rw[hp5]at e;cases e;exact un _ _ hp5 (by intro _ _ z;cases z)) (λo e=>by rw[hd5]at e;cases e;exact un _ _ hd5 (by intro _ _ z;cases z)) λa xs e=>un _ _ e (by intro _ _ z;cases z)
  have o5:Off (λa=>a=ch∨a=rd∨a=P_mk) H A5:=⟨λb o e m=>fr5 b o (λz=>m (.inl z)) (sm2 b o (λz=>m (.inr (.inr z))) e),λa xs e=>fr5 _ _ (bj e hc (by intro z;cases z)) (k2 _ _ e (by intro _ z;cases z)),λa φ e=>fr5 _ _ (bj e hc (by intro z;cases z)) (k2 _ _ e (by intro _ z;cases z))⟩;have tb5:eX P_mk A5:=.inr ⟨c9,fr5 _ _ (bj eP hc2 (by intro z;cases z)) eP,fr5 _ _ (bj ec hc2 (by intro z;cases z)) ec⟩;have w5:WfC (JH S.me q.2.1 S.db wi q.2.2.1):=akv w HA.m0 HA.m1 P.h0 wrg;obtain⟨oF,G,HB,gr⟩:=HA.chg es q1 q2 P f1 f2 f4 f5 f3 pn wp ⟨_,_,_,hc,rfl⟩ ⟨_,hrd⟩ nP o5 S6 w5 (.inl rfl);have hpB:=HB.ob;rw[hob HA,q1,q2]at hpB;obtain⟨⟨C6,dx6,ba6,ye6,av6,mC6,hc6,_⟩,_⟩:=id S6;rw[aL]at mC6;cases mC6;have nPG:¬ G P_mk:=λz=>(gr _ z).elim nP λy=>by rw[hPT]at y;cases y
  cbv;refine⟨ch,rfl,S.me,q.2.1,_,_,_,_,rd,_,S6,λH6 z s6 pz=>?_⟩;have HC:=HB.same s6;have oC:Off (FT F' P_mk) H H6:=oF.trans (.sm s6);have tb6:eX P_mk H6:=eX.off tb5 (Off.sm (F:=λ_=>False) s6) λz=>z;have hp6:=s6 _ _ hpB;have es0:yW S=match(JH S.me q.2.1 S.db wi q.2.2.1).ag with
   |none=>{S with st:=Ya (q.1,q.2.1,JH S.me q.2.1 S.db wi q.2.2.1,q.2.2.2)}
   |some pl=>O8 {S with st:=Ya (q.1,q.2.1,JH S.me q.2.1 S.db wi q.2.2.1,q.2.2.2)} q.1 pl:=by
   unfold yW;rw[es,ewi]
  cases ea:(JH S.me q.2.1 S.db wi q.2.2.1).ag with
  |none=>
   rw[ea]at pz es0;obtain rfl:z=.non:=by
    have pz:Pl H6 2 z .none:=pz;cases pz;rfl
   cbv;rw[show decide (V.non=V.non)=true from decide_eq_true rfl];cbv;exact kk H6 G x oC (by rw[es0];exact HC) gr tb6
  |some pl=>
   rw[ea]at pz es0;have pnz:=aih (show Pl H6 2 z (plD pl)from pz);obtain⟨tz,_,rfl,_⟩:=id pnz;cbv;rw[dH];cbv;refine⟨p,.ref tz,rfl,G,_,x,_,pl,HC,rfl,pnz,w5.ag pl ea,ll,λH7 G7 x7 o7 H7A gr7=>?_⟩;have gC:Gr F' H G7:=λa ga=>(gr7 a ga).elim (gr a) λy=>(oC.none y).elim (λf=>f.elim .inl λe=>absurd (eX.some tb6) (by rw[←e,y];rintro⟨_,z⟩;cases z)) .inr;refine kk H7 G7 x7 ⟨λb o e m=>o7.of b o (oC.of b o e m) (λg=>(gr b g).elim (λf=>m (.inl f)) λy=>by rw[e]at y;cases y),λa xs e=>o7.tp _ _ (oC.tp _ _ e),λa φ e=>o7.ex _ _ (oC.ex _ _ e)⟩ (by rw[es0];exact H7A) gC (eX.off tb6 o7 nPG)
structure Lt where
 me:Int
 nu:Int
 cb:Pn
 b:Option (Int×Int)
 y:qb
 vo:Int
 rp:Option Bool
variable{b:Int×Int}{nu:Int}
structure WfL(l:Lt):Prop where
 m0:0<=l.me
 m1:l.me<63
 cb:O6 l.cb
 y:∀q,l.y=Ya q->O6 q.2
 vo:0<=l.vo
 rp:l.b≠Yb->l.rp≠Yb
variable{y:qb}{vo:Int}{rp:List (Int×Rt×qb)}
def LtA(H:Hp)(t:Yc)(l:Lt):Prop:=∃cv pa pc ms,H t=Ya (.tup [.str "in",.int l.me,.int l.nu,cv,.ref pa,.ref pc,.ref ms])/\Uq H cv l.cb/\H pa=Ya (.tup [])/\PcA H pc l.me/\WD H ms l.me l.b l.y l.vo (l.rp.map λv=>(l.me,v))
theorem LtA.up{l:Lt}(h:LtA H t l)(s:j4 H H'):LtA H' t l:=by
 obtain⟨cv,pa,pc,ms,g0,g1,g2,g3,g4⟩:=h;exact⟨cv,pa,pc,ms,s _ _ g0,g1.up s,s _ _ g2,g3.up s,g4.up s⟩
def LaA(H:Hp)(t:Yc)(me:Int)(wi:Bool)(wb:Option (Pn×Int)):Prop:=∃wv,H t=Ya (.tup [.str "away",.int me,.bl wi,wv])/\WbV H wv wb
noncomputable def T8(S:Hs)(q:Int×Int×Cg×Pn):Lt:=⟨S.me,q.1,q.2.2.2,q.2.2.1.b,q.2.2.1.y,q.2.2.1.vo,if q.2.2.1.b=Yb then Yb else Ya S.wo⟩
def iV(K:Ye)(mg:Yj->Option Yd):Sp:=λvs H Q _=>∃(p:Yc),vs=[.ref p,.int 0,.non]/\(E3 λF S x=>A3 (jA K mg H F p S x) ((S.st=Yb->∀H' t,aO H H'->LaA H' t S.me S.wi S.wb->Q (.ref t) H')) (∀q,S.st=Ya q->∀H' t,aO H H'->LtA H' t (T8 S q)->WfL (T8 S q)->Q (.ref t) H'))
theorem rZ:aD ["self","skip","many","report","piece"] tY (aA uz):=gF
variable{wF:Yc}{Hy:Yc}{uU:Yc}{lD:Yc}{t7:Yt}{Eh:Yt}{qP:Yt}{jM:Yt}(vg:∅ 6 wF t7 afg (ue K mg))(wj:Binds K t7 afg [])(Gf:∅ 6 Hy Eh tY (Dj K mg))(Gi:Binds K Eh tY [])(DR:∅ 6 uU qP Rg (qX K mg))(nR:Binds K qP Rg [])(An:∅ 6 lD jM bx (jQ K mg))(gM:Binds K jM bx [])(fV:bU K bN "message" wF)(cC:bU K bB "stopped" lD)(jE:bU K dY "piece" Hy)(dR:bU K dY "report" uU)
include eV vg wj Gf Gi DR nR An gM aH aJ aZ aL aY bA fV cC jE dR in
theorem Og(F:Jo K "letter" "Hand.letter" uz f fd [.int 0 t0,.none]):∅ 7 f fd tY (iV K mg):=by
 refine F.ok rZ (λvs H Q E h=>?_) (λcdv A outer s H vs Q E hr h=>?_)
 ·obtain⟨p,rfl,_⟩:=h;rfl
 obtain⟨p,rfl,h⟩:=h;have hu64:=hr.units;have hu0:=hr.units0;have hu:=Ot hr;refine⟨_,(ak (cF (aX j8 (au (K:=K) rfl (pv 0) rfl) bV (bc _)) (aq (aR (eY (aj Fe (aj (au (K:=K) rfl (pv 0) rfl) (aj (au (K:=K) rfl (pv 0) rfl) (aj (au (K:=K) rfl (pv 0) rfl) ao))))))) bG)
   (ak (aV (i:=3) rZ.nd rfl (Or.inl rfl) (oJ (aX j8 (bM (cH.cons aJ.cl cC An gM cH.nil) (pv 0) hr) bV (bc _)) bV (bD (cH.cons aZ.cl dR DR nR cH.nil) (au (K:=K) rfl (pv 0) rfl) hr (aj (au (K:=K) rfl (pv 0) rfl) ao))))
   (ak (aV (i:=4) rZ.nd rfl (Or.inl rfl) (bD (cH.cons aZ.cl jE Gf Gi cH.nil) (au (K:=K) rfl (pv 0) rfl) hr (aj (pv 1) (aj (pv 2) ao))))
   (aq (aR (eY (aj Fe (aj (au (K:=K) rfl (pv 0) rfl) (aj (au (K:=K) rfl (au (K:=K) rfl (pv 0) rfl) rfl) (aj (au (K:=K) rfl (pv 0) rfl) (aj (au (K:=K) rfl (pv 0) rfl) (aj (pv 4) (aj (bD (cH.cons aH.cl fV vg wj cH.nil) (au (K:=K) rfl (pv 0) rfl) hr (aj (pv 3) ao)) ao))))))))))))),?_⟩
 refine xl4 ?_;intro _ _;obtain⟨F',S,x,HA,k1,k2⟩:=h;obtain⟨cl,n1,n2,n3,n4,n5,n6,n7,n8,n9,n10,n11,n12,n13,n14⟩:=id aJ;have hob:∀{A:Hp} {x1:Lj} {S1:Hs} {F1:Yc->Prop},jA K mg A F1 p S1 x1->x1.C=bB:=λh=>by have:=h.mH;rw[aY]at this;cases this;rfl
 have hp:=HA.ob;rw[hob HA]at hp;have st:=HA.st;cases es:S.st with
 |none=>
  rw[es]at st;obtain⟨q1,q2,q3⟩:=st;rw[q1,q2,q3]at hp;refine HN ?_;cbv;rw[show decide (V.non=V.non)=true from decide_eq_true rfl];cbv;intro t H1 ht s1 g1;exact k1 es H1 t s1 ⟨_,g1,HA.wb.up (.same s1)⟩
 |some q=>
  rw[es]at st;obtain⟨pg,y,ch,rd,q1,q2,P,C,pn,w,wp,f1,f2,f3,f4,f5⟩:=st;obtain⟨Cp,dxp,mP,Tp,hg⟩:=P.ob;rw[bA]at mP;cases mP;obtain⟨⟨Cc,dc,ba,ye,av,mC,hc,hbb,_⟩,⟨mr,hrd,_⟩,_,_,_,_,_,sv,_⟩:=id C;rw[aL]at mC;cases mC;rw[q1,q2]at hp;have T2:=aZ.n2;have Tc:=aZ.cl;have Td:=aH.cl;have wl:WfL (T8 S q):=⟨HA.m0,HA.m1,wp,w.y,sv.1,λz=>by unfold T8 at z⊢;dsimp only at z⊢;rw[if_neg z];intro z;cases z⟩;refine HN ?_;cbv;rw[dH];refine d9 (λz=>nomatch z) λ_=>?_;dsimp only;refine rT (λσ A=>σ=[Ya (.ref p),Ya (.int 0),Ya .non,Yb,Yb]/\H=A) ?_ λN rest=>rest _ _ ⟨rfl,rfl⟩;rintro σ _ ⟨rfl,rfl⟩;refine rT (λσ A=>∃rv,A3 (σ=[Ya (.ref p),Ya (.int 0),Ya .non,Ya rv,Yb]) (aO H A) (Pl A 2 rv (roD ((T8 S q).rp.map λv=>(S.me,v))))) ?_ λN rest=>?_
  ·rintro σ A ⟨rv,rfl,sA,pr⟩;have hpA:=sA _ _ hp;have hgA:=sA _ _ hg;cbv;refine⟨pg,rfl,_,_,_,_,_,_,P.same sA,λH2 pc s2 pcA=>?_⟩;have s02:=sA.trans s2;have hp2:=s02 _ _ hp;have hg2:=s02 _ _ hg;have hc2:=s02 _ _ hc;cbv;refine⟨ch,rv,rfl,_,_,_,_,_,_,_,_,_,yF.same C s02,pr.up (.same s2),λH3 ms s3 mx=>?_⟩;cbv;intro t H4 ht s4 g4;have s04:=s02.trans (s3.trans s4);exact k2 q es H4 t s04 ⟨_,_,_,_,g4,pn.up (.same s04),s04 _ _ HA.pa,pcA.up (.same (s3.trans s4)),mx.up (.same s4)⟩ wl
  ·cbv;refine⟨p,rfl,F',S,x,HA,λv hv=>?_⟩;rw[es]at hv;have hv:Vh H v q.2.2.1.b:=hv;cases eb:q.2.2.1.b with
   |none=>
    rw[eb]at hv;obtain rfl:v=.non:=hv;cbv;rw[show decide (V.non=V.non)=true from decide_eq_true rfl];cbv;refine rest _ _ ⟨.non,rfl,.refl _,?_⟩;unfold T8;rw[eb];exact .non
   |some b0=>
    rw[eb]at hv;obtain⟨tv,rfl,gv⟩:=hv;cbv;rw[dH];cbv;refine⟨pg,S.wo,rfl,_,_,_,_,_,_,P,λH1 z s1 rz=>?_⟩;refine rest _ _ ⟨z,rfl,s1,?_⟩;unfold T8;rw[eb];exact aiq rz
def Rs(K:Ye)(mg:Yj->Option Yd)(Pt:Yc)(F:Yc->Prop)(H:Hp)(p:Yc)(S':Hs)(H':Hp):Prop:=Off (FT F Pt) H H'/\eX Pt H'/\∃G x',jA K mg H' G p S' x'/\Gr F H G
section
variable{p:Yc}{F:Yc->Prop}{H1 H2:Hp}{S:Hs}{x:Lj}
theorem ahB(o:Off (FT F Pt) H H1)(t:eX Pt H1)(e:H1 a=Yb):F a∨H a=none:=by
 rcases o.none e with(z|z)|z
 ·exact .inl z
 ·obtain⟨ps,g⟩:=eX.some t;rw[z,g]at e;cases e
 ·exact .inr z
theorem ajk(o:Off (FT F Pt) H H1)(g:Gr F H G)(r:Off (FT G Pt) H1 H2):Off (FT F Pt) H H2:=
 ⟨λb u e m=>r.of b u (o.of b u e m) (λz=>z.elim (λy=>(g b y).elim (λf=>m (.inl f)) λw=>by rw[e]at w;cases w) λy=>m (.inr y)),λa xs e=>r.tp _ _ (o.tp _ _ e),λa φ e=>r.ex _ _ (o.ex _ _ e)⟩
theorem akf(o:Off (FT F Pt) H H1)(t:eX Pt H1)(g:Gr F H G)(g':Gr G H1 G'):Gr F H G':=λa z=>(g' a z).elim (g a) λw=>ahB o t w
theorem xf(o:Off (FT F Pt) H H1)(t:eX Pt H1)(g:Gr F H G)(r:Rs K mg Pt G H1 p S' H2):Rs K mg Pt F H p S' H2:=by
 obtain⟨o2,t2,G',x',h,g2⟩:=r;exact⟨ajk o g o2,t2,G',x',h,akf o t g g2⟩
theorem Rs.end(r:Rs K mg Pt F H p S' H1)(s:aO H1 H2):Rs K mg Pt F H p S' H2:=by
 obtain⟨o2,t2,G',x',h,g2⟩:=r;exact⟨o2.trans (.sm s),eX.off t2 (Off.sm (F:=λ_=>False) s) λz=>z,G',x',h.same s,g2⟩
theorem Mv(h:jA K mg H F p S x)(t:eX Pt H):Rs K mg Pt F H p S H:=⟨.refl _ _,t,F,x,h,.self⟩
theorem Ad(o:Off F H H1):Off (FT F Pt) H H1:=o.mono λ_ z=>.inl z
theorem Qq(t:eX Pt H)(n:¬ F Pt)(g:Gr F H G):¬ G Pt:=λz=>(g _ z).elim n λy=>by obtain⟨ps,e⟩:=eX.some t;rw[e]at y;cases y
end
theorem tU{α β:Type}{F:α->β->Prop}:∀{n:Nat} {l:List α} {m:List β},d3 F l m->d3 F (l.drop n) (m.drop n)
 |0,_,_,h=>h
 |_+ 1,_,_,.nil=>.nil
 |n+ 1,_,_,.cons _ t=>tU (n:=n) t
theorem GK(xs:List V)(k:Int)(h:0<=k):FJ xs (Ya k) Yb=xs.drop k.toNat:=by
 obtain⟨n,rfl⟩:=cw h;unfold FJ;have e1:HT.lN xs.length 0 (Ya (n:Int))=min n xs.length:=by
  show(if(n:Int)<0 then((n:Int)+ (xs.length:Nat)).toNat else min (n:Int).toNat xs.length)=_;rw[if_neg (by omega),YA]
 have e2:HT.lN xs.length xs.length Yb=xs.length:=rfl;rw[e1,e2,YA];rcases ID n xs.length with z|z
 ·rw[FY z,AI (by rw[oy];exact Yn _)]
 ·rw[Fs z,AJ (Yn _),AJ z,List.take_nil]
def vL(K:Ye)(mg:Yj->Option Yd):Sp:=λvs H Q _=>∃(p:Yc),vs=[.ref p]/\(E3 λF S x=>A3 (jA K mg H F p S x) (S.st≠Yb) (Q .non H))
theorem JP:aD ["self"] bx (aA pA):=gF
include eV aJ aY in
theorem JR(F:bW K "check_in" "Hand.check_in" pA f fd):∅ 1 f fd bx (vL K mg):=by
 refine F.oj JP ?_;rintro _ _ _ _ _ _ _ _ _ _ _ _ ⟨p,rfl,h⟩;refine⟨_,(aq (cF (aX j8 (au (K:=K) rfl (pv 0) rfl) bV (bc _)) (aq cz) bG)),?_⟩;obtain⟨F',S,x,HA,ns,kk⟩:=h;obtain⟨cl,n1,n2,n3,n4,n5,n6,n7,n8,n9,n10,n11,n12,n13,n14⟩:=id HA.T;have hp:=HA.ob;have st:=HA.st;cases es:S.st with
 |none=>exact absurd es ns
 |some q=>
  rw[es]at st;obtain⟨pg,y,ch,rd,q1,q2,_⟩:=st;rw[q1,q2]at hp;cbv;rw[dH];cbv;exact kk
noncomputable def ahw(S:Hs)(c:Cg)(m:Int):Cg:=⟨Ya (bl c.b+ m,S.me),c.y,c.vo,c.ag,[(S.me,(S.me,S.wo),c.y)]⟩
noncomputable def Uz(S:Hs)(m:Int):Hs:=match S.st with
 |none=>S
 |some q=>yW {S with st:=Ya (q.1,q.2.1,ahw S q.2.2.1 m,q.2.2.2)}
def Eg(K:Ye)(mg:Yj->Option Yd)(P_mk:Yc):Sp:=λvs H Q _=>E2 fun(p:Yc) (m:Int)=>vs=[.ref p,.int m]/\(E3 λF S x=>A6 (jA K mg H F p S x) (S.st≠Yb) (S.lg.length<=890) (eX P_mk H) (¬ F P_mk) (∀H' l ys,Rs K mg P_mk F H p (Uz S m) H'->H' l=Ya (.lst ys)->J1 H' ys ((Uz S m).lg.drop S.lg.length)->Q (.ref l) H'))
abbrev QJ:List Yj:=["self","more"]
theorem Dg:aD ["self","more","start"] QJ (aA xj):=gF
variable{zF:Yc}{Dq:Yc}{yl:Yc}{xU:Yt}{zG:Yt}{v5:Yt}(z7:∅ 10 zF xU aeH (xQ K mg))(Bq:Binds K xU aeH [])(vV:∅ 10 uU qP Rg (qX K mg))(iH:∅ 10 Dq zG bx (Bw K mg P_mk))(iG:Binds K zG bx [])(yf:∅ 10 yl v5 bx (vL K mg))(xR:Binds K v5 bx [])(iB:bU K bN "begin" zF)(gO:bU K bB "check_in" yl)(cM:bU K bB "settle" Dq)
include eV z7 Bq vV nR iH iG yf xR iD aH aJ aZ aL aY bA iB gO cM dR in
theorem PN(F:Jo K "renew" "Hand.renew" xj f fd [.int 1 t0]):∅ 11 f fd QJ (Eg K mg P_mk):=by
 refine F.ok Dg (λvs H Q E h=>?_) (λcdv A outer s H vs Q E hr h=>?_)
 ·obtain⟨p,m,rfl,_⟩:=h;rfl
 obtain⟨p,m,rfl,h⟩:=h;have hu64:=hr.units;have hu0:=hr.units0;have hu:=Ot hr;refine⟨_,(ak (bT (bM (cH.cons aJ.cl gO yf xR cH.nil) (pv 0) hr))
   (ak (aV (i:=2) Dg.nd rfl (Or.inl rfl) (cj (fB (K:=K) rfl) (by rfl) iD dP (aj (au (K:=K) rfl (pv 0) rfl) ao)))
   (ak (bT (bD (cH.cons aH.cl iB z7 Bq cH.nil) (au (K:=K) rfl (pv 0) rfl) hr (aj (pv 1) (aj (bD (cH.cons aZ.cl dR vV nR cH.nil) (au (K:=K) rfl (pv 0) rfl) hr (aj (au (K:=K) rfl (pv 0) rfl) ao)) ao))))
   (ak (bT (bM (cH.cons aJ.cl cM iH iG cH.nil) (pv 0) hr))
   (aq (aR (lK (qT (K:=K) rfl) (au (K:=K) rfl (pv 0) rfl) (kW (pv 2)) xG))))))),?_⟩
 refine xl5 ?_;intro _ _ _;obtain⟨F',S,x,HA,ns,ll,tb,nP,kk⟩:=h;obtain⟨cl,n1,n2,n3,n4,n5,n6,n7,n8,n9,n10,n11,n12,n13,n14⟩:=id aJ;have hob:∀{A:Hp} {x1:Lj} {S1:Hs} {F1:Yc->Prop},jA K mg A F1 p S1 x1->x1.C=bB:=λh=>by have:=h.mH;rw[aY]at this;cases this;rfl
 have hp:=HA.ob;rw[hob HA]at hp;have st:=HA.st;obtain⟨q,es⟩:=pj.mp ns;rw[es]at st;obtain⟨pg,y,ch,rd,q1,q2,P,C,pn,w,wp,f1,f2,f3,f4,f5⟩:=st;obtain⟨Cp,dxp,mP,Tp,hg⟩:=P.ob;rw[bA]at mP;cases mP;obtain⟨⟨Cc,dc,ba,ye,av,mC,hc,hbb,_⟩,⟨mr,hrd,_⟩,_⟩:=id C;rw[aL]at mC;cases mC;rw[q1,q2]at hp;have Tc:=aZ.cl;have Td:=aH.cl;have lx:x.xs.length=S.lg.length:=bS HA.ev;have sl:bI K H x.lg x.xs:=bI.of HA.lg;cbv;refine⟨p,rfl,F',S,x,HA,ns,?_⟩;cbv;refine⟨pg,S.wo,rfl,_,_,_,_,_,_,P,λH1 v s1 rv=>?_⟩;cbv;refine⟨ch,m,v,rfl,_,_,_,_,_,_,_,_,(S.me,S.wo),yF.same C s1,aiq rv,λH2 rd' k2 C2 hr2=>?_⟩;have hc1:=s1 _ _ hc;have o2:Off (λa=>a=ch∨a=rd∨a=P_mk) H H2:=⟨λb o e n=>k2 _ _ (λz=>n (.inl z)) (s1 _ _ e),λa xs e=>k2 _ _ (bj e hc (by intro z;cases z)) (s1 _ _ e),λa φ e=>k2 _ _ (bj e hc (by intro z;cases z)) (s1 _ _ e)⟩;have w2:WfC (ahw S q.2.2.1 m):=⟨w.y,w.ag,λe he=>by rw[Yy.mp he];exact⟨rfl,⟨HA.m0,HA.m1⟩,λq' z=>w.y q' z⟩⟩;obtain⟨oF,G,HB,gr⟩:=HA.chg (c':=ahw S q.2.2.1 m) es q1 q2 P f1 f2 f4 f5 f3 pn wp ⟨_,_,_,hc,rfl⟩ ⟨_,hrd⟩ nP o2 C2 w2 (.inr (s1.free hr2));have hpB:=HB.ob;rw[hob HA,q1,q2]at hpB;obtain⟨psT,hPT⟩:=eX.some tb;have tb2:eX P_mk H2:=by
  have kk2:∀b o,H b=Ya o->(∀C dx fs,o≠.ins C dx fs)->H2 b=Ya o:=λb o e n=>k2 _ _ (λz=>by rw[z,hc]at e;cases e;exact n _ _ _ rfl) (s1 _ _ e);rcases tb with t|⟨c,t,u⟩
  ·exact .inl (kk2 _ _ t (by intro _ _ _ z;cases z))
  ·exact .inr ⟨c,kk2 _ _ t (by intro _ _ _ z;cases z),kk2 _ _ u (by intro _ _ _ z;cases z)⟩
 have nPG:¬ G P_mk:=Qq tb nP gr;cbv;refine⟨p,rfl,G,_,x,HB,by show S.lg.length<=900;omega,tb2,nPG,λH3 G3 x3 o3 HC gr3 tb3=>?_⟩;have hp3:=HC.ob;rw[hob HC]at hp3;have es2:Uz S m=yW {S with st:=Ya (q.1,q.2.1,ahw S q.2.2.1 m,q.2.2.2)}:=by unfold Uz;rw[es]
 have r3:Rs K mg P_mk F' H p (Uz S m) H3:=by
  rw[es2];exact xf oF tb2 gr ⟨o3,tb3,G3,x3,HC,gr3⟩
 have sl3:bI K H3 x3.lg x3.xs:=bI.of HC.lg;cbv;intro l H4 hl s4 g4;rw[GK _ _ (ml _),YA,lx]at g4;refine kk H4 l _ (r3.end s4) g4 ?_;rw[es2];exact tU (sH (.same s4) HC.ev)
noncomputable def Qg(S:Hs)(h:Int):Hs:=yW {S with db:=Yz h (Yw (2^S.me.toNat))}
def yN(K:Ye)(mg:Yj->Option Yd)(P_mk:Yc):Sp:=λvs H Q _=>E2 fun(p:Yc) (h:Int)=>vs=[.ref p,.int h]/\(E3 λF S x=>A6 (jA K mg H F p S x) (0<=h) (S.lg.length<=890) (eX P_mk H) (¬ F P_mk) (∀H' l ys,Rs K mg P_mk F H p (Qg S h) H'->H' l=Ya (.lst ys)->J1 H' ys ((Qg S h).lg.drop S.lg.length)->Q (.ref l) H'))
theorem yK:aD ["self","hands","start"] Dy (aA qJ):=gF
variable(Kf:∅ 10 wJ qH Th (qC K))
include eV Kf fW iH iG iD aJ aY cM in
theorem Le(F:bW K "suspect" "Hand.suspect" qJ f fd):∅ 11 f fd Dy (yN K mg P_mk):=by
 refine F.oj yK ?_;rintro _ A _ _ H _ _ _ hr _ _ _ ⟨p,h',rfl,h⟩;refine⟨_,(ak (aV (i:=2) yK.nd rfl (Or.inl rfl) (cj (fB (K:=K) rfl) (by rfl) iD dP (aj (au (K:=K) rfl (pv 0) rfl) ao)))
   (ak (aQ (K:=K) rfl (pv 0) (bL Ay (pv 1) (Ri JK (bh Kf fW hr (aj (au (K:=K) rfl (pv 0) rfl) ao)))) rfl)
   (ak (bT (bM (cH.cons aJ.cl cM iH iG cH.nil) (pv 0) hr))
   (aq (aR (lK (qT (K:=K) rfl) (au (K:=K) rfl (pv 0) rfl) (kW (pv 2)) xG)))))),?_⟩
 refine xl4 ?_;intro _ _;obtain⟨F',S,x,HA,h0,ll,tb,nP,kk⟩:=h;obtain⟨cl,n1,n2,n3,n4,n5,n6,n7,n8,n9,n10,n11,n12,n13,n14⟩:=id aJ;have hob:∀{A:Hp} {x1:Lj} {S1:Hs} {F1:Yc->Prop},jA K mg A F1 p S1 x1->x1.C=bB:=λh=>by have:=h.mH;rw[aY]at this;cases this;rfl
 have hp:=HA.ob;rw[hob HA]at hp;have lx:x.xs.length=S.lg.length:=bS HA.ev;have sl:bI K H x.lg x.xs:=bI.of HA.lg;have m1:=HA.m1;cbv;refine⟨S.me,rfl,HA.m0,by omega,?_⟩;cbv;intro H1 b1 g1;rw[ahW]at g1;have k1:j4 H H1:=λa xs e=>b1.at (bj e hp (by intro z;cases z)) e;obtain⟨o1,HB⟩:=HA.fld (S':={S with db:=Yz h' (Yw (2^S.me.toNat))}) (x':=x) b1 (by rw[hob HA];exact g1) ⟨rfl,rfl,rfl,rfl,rfl,rfl,rfl,rfl,rfl⟩ ⟨rfl,rfl,rfl,rfl⟩ (k1 _ _ HA.pa) (HA.wb.up k1) HA.wp (ug h0 (iw _)).1 HA.t0;have tb1:eX P_mk H1:=eX.off tb o1 nP;cbv;refine⟨p,rfl,F',_,x,HB,by show S.lg.length<=900;omega,tb1,nP,λH3 G3 x3 o3 HC gr3 tb3=>?_⟩;have hp3:=HC.ob;rw[hob HC]at hp3;have r3:Rs K mg P_mk F' H p (Qg S h') H3:=xf (Ad o1) tb1 .self ⟨o3,tb3,G3,x3,HC,gr3⟩;have sl3:bI K H3 x3.lg x3.xs:=bI.of HC.lg;cbv;intro l H4 hl s4 g4;rw[GK _ _ (ml _),YA,lx]at g4;exact kk H4 l _ (r3.end s4) g4 (tU (sH (.same s4) HC.ev))
def v6(K:Ye):Sp:=λvs H Q _=>E2 fun(l t:Yc)=>vs=[.ref l,.ref t]/\(E2 λxs es=>A4 (bI K H l xs) (J1 H xs es) (cN K H t []) (∀H' a,aO H H'->H a=Yb->H' a=Ya (.lst [])->Q (.ref a) H'))
abbrev VB:List Yj:=["events","book"]
theorem vQ:aD ["events","book","in_book"] VB (aA pq):=gF
include eV iJ in
theorem JM(F:bW K "names_lacking" "names_lacking" pq f fd):∅ 1 f fd VB (v6 K):=by
 refine F.oj vQ ?_;rintro _ _ _ _ H _ _ E _ hu64 _ _ ⟨l,t,rfl,h⟩;refine⟨_,(ak (aV (i:=2) vQ.nd rfl (Or.inr rfl) (bZ (zc rfl (hV (lP (by decide) _) hu64)) (by rfl) iJ gN (aj (cu ["row"] [Yb] rfl rfl (by kernel_rfl) (Cm (K:=K) rfl (pv 1)) (λ_ _ _ _ _ nd=>aW (i:=0) nd rfl (Or.inl rfl)) (λ_ _ _ _ _=>dB) (λ_ _ _ _ _=>fJ)) ao)))
   (aq (aR (cu ["in_book","event"] [Ya 2,Yb] rfl rfl (by kernel_rfl) (bC (K:=K) rfl (pv 0)) (λ_ _ _ _ _ nd=>aW (i:=1) nd rfl (Or.inl rfl)) (λ_ _ _ _ _=>(jL (PW.pt (pK (aX yP (bf (aN (K:=K) rfl) (pv 1) aC (λ_ _=>rfl)) Fe (bc _)) (kJ By))))) (λ_ _ _ _ _=>fJ))))),?_⟩
 obtain⟨xs,es,hS,he,hT,kk⟩:=h;cbv;intro D hD;refine Ij (K:=K) (a:=t) (xs:=[]) (λi σ B=>aO H B/\B D=Ya (.lst [])) ⟨aF hD,aB⟩ (λi σ B _ z=>Bs z.1 hT) (λi x σ B hx=>by simp at hx) ?_;rintro σ H1 ⟨s1,g1⟩;refine⟨D,[],[],rfl,g1,.nil,YZ _,λd hd=>?_⟩;have s2:=aF (o:=.dT (uy [])) hd;generalize upd H1 d (.dT (uy []))=H2 at s2⊢;have s02:=s1.trans s2;have hS2:=s02.seq hS;have he2:=sH (.same s02) he;cbv;intro E hE;refine bO (K:=K) (a:=l) (xs:=xs) (λi σ B=>∃v,A3 (σ=[Ya (.ref d),v]) (aO H2 B) (B E=Ya (.lst []))) ⟨Yb,rfl,aF hE,aB⟩ (λi σ B _ z=>by obtain⟨_,_,z,_⟩:=z;exact z.seq hS2) ?_ ?_
 ·rintro i x σ B hx ⟨v,rfl,sB,gE⟩;obtain⟨e,_,ev⟩:=gR he2 hx;cases e with
  |lst n h o w=>
   obtain⟨u,rfl,g⟩:=ev;have su:=cN.of (K:=K) (sB _ _ g);have a0:lH [V.str "list",.int n,.int h,.int o,.int w] 0=Ya (.str "list"):=by kernel_rfl
   cbv;refine d9 (λz=>absurd (of_decide_eq_true z) (by decide +kernel)) λ_=>?_;exact⟨_,rfl,sB,gE⟩
  |out n=>
   obtain⟨u,rfl,g⟩:=ev;have su:=cN.of (K:=K) (sB _ _ g);have a0:lH [V.str "out",.int n] 0=Ya (.str "out"):=by kernel_rfl
   cbv;refine d9 (λz=>absurd (of_decide_eq_true z) (by decide +kernel)) λ_=>?_;exact⟨_,rfl,sB,gE⟩
 rintro σ B ⟨v,rfl,sB,gE⟩;cbv;exact kk B E (s02.trans sB) (s02.free hE) gE
noncomputable def Vn(S:Hs)(l:Lt):Hs:=if(decide (l.nu>S.nw)&&gU l.cb.2.2 S.me)=true then Pb S l.nu l.cb else S
def vU(K:Ye)(mg:Yj->Option Yd):Sp:=λvs H Q _=>E2 fun(p t:Yc)=>vs=[.ref p,.ref t]/\(E4 λF S x l=>A6 (jA K mg H F p S x) (LtA H t l) (WfL l) (S.st=Yb) (S.lg.length<=900) (∀H' G x',Off F H H'->jA K mg H' G p (Vn S l) x'->Gr F H G->Q .non H'))
abbrev ie:List Yj:=["self","letter"]
theorem Jm:aD ["self","letter"] ie (aA pC):=gF
variable{yQ:Yc}{vB:Yt}(xW:∅ 8 yQ vB VB (v6 K))(yd:gW K mg "names_lacking" yQ vB VB)
include eV rm z9 jk ji xW yd aJ aY cY in
theorem JZ(F:bW K "come_new" "Hand.come_new" pC f fd):∅ 9 f fd ie (vU K mg):=by
 refine F.oj Jm ?_;rintro _ A _ _ H _ Q _ hr _ _ _ ⟨p,t,rfl,h⟩;refine⟨_,(aq (cF (PW.pt (pK (aX Qp (bf (aN (K:=K) rfl) (pv 1) aC (λ_ _=>rfl)) (au (K:=K) rfl (pv 0) rfl) (bc _)) (kJ (cT K rfl (bh rm z9 hr (aj (bf (aN (K:=K) rfl) (bf (aN (K:=K) rfl) (pv 1) aC (λ_ _=>rfl)) aC (λ_ _=>rfl)) (aj (au (K:=K) rfl (pv 0) rfl) ao))))))) (ak (aQ (K:=K) rfl (pv 0) (bh xW yd hr (aj (au (K:=K) rfl (pv 0) rfl) (aj (bf (aN (K:=K) rfl) (pv 1) aC (λ_ _=>rfl)) ao))) rfl)
   (ak (aQ (K:=K) rfl (pv 0) (bf (aN (K:=K) rfl) (pv 1) aC (λ_ _=>rfl)) rfl)
   (aq (bT (bD (cH.cons aJ.cl cY jk ji cH.nil) (pv 0) hr (aj (bf (aN (K:=K) rfl) (pv 1) aC (λ_ _=>rfl)) (aj (bf (aN (K:=K) rfl) (pv 1) aC (λ_ _=>rfl)) ao))))))) bG)),?_⟩
 obtain⟨F',S,x,l,HA,⟨cv,pa,pc,ms,g0,⟨tp,te,rfl,gp0,gp1⟩,ga,gpc,gms⟩,wl,es,ll,kk⟩:=h;obtain⟨cl,n1,n2,n3,n4,n5,n6,n7,n8,n9,n10,n11,n12,n13,n14⟩:=id aJ;have hob:∀{A:Hp} {x1:Lj} {S1:Hs} {F1:Yc->Prop},jA K mg A F1 p S1 x1->x1.C=bB:=λh=>by have:=h.mH;rw[aY]at this;cases this;rfl
 have hp:=HA.ob;rw[hob HA]at hp;have st:=cN.of (K:=K) g0;have stp:=cN.of (K:=K) gp0;have sta:=cN.of (K:=K) ga;have a2:lH [V.str "in",.int l.me,.int l.nu,.ref tp,.ref pa,.ref pc,.ref ms] 2=Ya (.int l.nu):=by kernel_rfl
 have a3:lH [V.str "in",.int l.me,.int l.nu,.ref tp,.ref pa,.ref pc,.ref ms] 3=Ya (.ref tp):=by kernel_rfl
 have a4:lH [V.str "in",.int l.me,.int l.nu,.ref tp,.ref pa,.ref pc,.ref ms] 4=Ya (.ref pa):=by kernel_rfl
 have b2:lH [V.int l.cb.1,.int l.cb.2.1,.int l.cb.2.2,.ref te] 2=Ya (.int l.cb.2.2):=by kernel_rfl
 have m1:=HA.m1;have no:(decide (l.nu>S.nw)&&gU l.cb.2.2 S.me)=false->Q .non H:=λe=>kk H F' x (.refl _ _) (by unfold Vn;rw[e];exact HA) .self;cbv;refine d9 (λz=>?_) λz=>?_
 ·have z:l.nu>S.nw:=of_decide_eq_true z;cbv;refine⟨l.cb.2.2,S.me,rfl,wl.cb.2.2.1.1,HA.m0,by omega,?_⟩;cbv;refine d9 (λw=>?_) λw=>?_
  ·have w:gU l.cb.2.2 S.me=true:=w;have slg:bI K H x.lg x.xs:=bI.of HA.lg;cbv;refine⟨x.lg,pa,rfl,_,_,slg,HA.ev,sta,λH1 lo s1 hlo g1=>?_⟩;have hp1:=s1 _ _ hp;cbv;intro H2 b2' g2;rw[ahg]at g2;have st2:=cN.of (K:=K) (b2'.at (bj (s1 _ _ g0) hp1 (by intro z;cases z)) (s1 _ _ g0));cbv;intro H3 b3 g3;rw[abn]at g3;have k3:∀b o,H b=Ya o->b≠p->H3 b=Ya o:=λb o e n=>b3.at n (b2'.at n (s1 _ _ e));have tp3:j4 H H3:=λa xs e=>k3 _ _ e (bj e hp (by intro z;cases z));have o3:Off F' H H3:=⟨λb o e n=>k3 b o e λz=>n (z▸HA.fp),tp3,λa φ e=>k3 _ _ e (bj e hp (by intro z;cases z))⟩;have nlp:lo≠p:=λz=>by rw[z,hp]at hlo;cases hlo
   have glo3:=b3.at nlp (b2'.at nlp g1);have nlg:x.lg≠p:=bj HA.lg hp (by intro z;cases z);have stn:=HA.st;rw[es]at stn;have H3A:jA K mg H3 (λa=>a=p∨a=x.lg∨a=lo) p S {x with pa:=pa,lo:=lo,Fp:=λ_=>False}:=by
    refine⟨HA.mH,HA.T,by show H3 p=Ya (.ins x.C _ _);rw[hob HA];exact g3,tp3 _ _ ga,k3 _ _ HA.lg nlg,sH tp3 HA.ev,glo3,(λz=>by have z:x.lg=lo:=z;rw[←z,HA.lg]at hlo;cases hlo),HA.wb.up tp3,HA.wp,by rw[es];exact stn,.inl rfl,.inr (.inl rfl),.inr (.inr rfl),⟨λz=>z,λz=>z,λz=>z⟩,λa z=>?_,HA.m0,HA.m1,HA.d0,HA.t0⟩;rcases z with rfl|rfl|rfl
    ·rw[g3];intro z;cases z
    ·rw[k3 _ _ HA.lg nlg];intro z;cases z
    ·rw[glo3];intro z;cases z
   have gr3:Gr F' H (λa=>a=p∨a=x.lg∨a=lo):=λa z=>by
    rcases z with rfl|rfl|rfl
    ·exact .inl HA.fp
    ·exact .inl HA.fl
    ·exact .inr hlo
   have st3:=cN.of (K:=K) (tp3 _ _ g0);cbv;refine⟨p,_,_,rfl,_,S,_,l.cb,H3A,⟨tp,te,rfl,tp3 _ _ gp0,tp3 _ _ gp1⟩,wl.cb,wl.cb.2.2.2 _ w,ll,λH4 G x4 o4 H4A gr4=>?_⟩;have e:Vn S l=Pb S l.nu l.cb:=if_pos (by rw[decide_eq_true z,w];rfl);exact kk H4 G x4 (o3.run gr3 o4) (by rw[e];exact H4A) (Gr.run o3 gr3 gr4)
  ·have w:gU l.cb.2.2 S.me=false:=dS.mpr w;exact no (by rw[w,i9])
 ·exact no (by rw[dS.mpr z];rfl)
noncomputable def kh(me ha:Int)(c:Cg)(l:Lt):Cg:=⟨pF c.b l.b,(jw (pF c.b l.b) c.y c.vo l.y l.vo me).1,(jw (pF c.b l.b) c.y c.vo l.y l.vo me).2,vf c.ag (jw (pF c.b l.b) c.y c.vo l.y l.vo me).1 (jw (pF c.b l.b) c.y c.vo l.y l.vo me).2 ha,aef c.b l.b (jw (pF c.b l.b) c.y c.vo l.y l.vo me).1 me c.rp l.me (l.rp.map λv=>(l.me,v)) l.y⟩
theorem akI{me:Int}{l:Lt}(w:WfC c)(wl:WfL l):WfC (kh me ha c l):=by
 have wy:∀q,(jw (pF c.b l.b) c.y c.vo l.y l.vo me).1=Ya q->O6 q.2:=λq z=>by
  unfold jw at z;split at z
  ·exact w.y q z
  ·next q' e=>
   split at z
   ·cases z;exact wl.y _ e
   ·split at z<;>exact w.y q z
 refine⟨wy,λq z=>?_,λe he=>?_⟩
 ·have z:vf c.ag (jw (pF c.b l.b) c.y c.vo l.y l.vo me).1 (jw (pF c.b l.b) c.y c.vo l.y l.vo me).2 ha=Ya q:=z;unfold vf at z;split at z
  ·split at z
   ·unfold plY at z;obtain⟨q',e1,e2⟩:=ah.mp z;rw[←e2];exact wy q' e1
   ·cases z
  ·next p e=>exact w.ag q (by rw[e];exact z)
 ·have he:e∈aef c.b l.b (jw (pF c.b l.b) c.y c.vo l.y l.vo me).1 me c.rp l.me (l.rp.map λv=>(l.me,v)) l.y:=he;have old:∀e∈gtR c.b l.b c.rp,e.2.1.1=e.1/\(0<=e.1/\e.1<63)/\∀q,e.2.2=Ya q->O6 q.2:=λe he=>by
   unfold gtR at he;split at he
   ·cases he
   ·exact w.rp e he
  unfold aef at he;split at he
  ·next hg=>
   have put:∀{m:List (Int×Rt×qb)} {k:Int} {v:Rt×qb} {e:Int×Rt×qb},e∈O5 m k v->e=(k,v)∨e∈m:=by
    intro m
    induction m with
    |nil=>intro k v e h;exact .inl (Yy.mp h)
    |cons p m ih=>
     intro k v e h;have h:e∈(if p.1=k then(p.1,v)::m else p::O5 m k v):=h;split at h
     ·next z=>
      rcases YC.mp h with y|y
      ·exact .inl (by rw[y,z])
      ·exact .inr (Yk _ y)
     ·rcases YC.mp h with y|y
      ·exact .inr (by rw[y];exact Yl)
      ·exact(ih y).imp id λz=>Yk _ z
   rcases put he with y|y
   ·have hb:l.b≠none:=λz=>by
     rw[←hg.1,z]at hg;cases hg.2
    obtain⟨v,ev⟩:=pj.mp (wl.rp hb);rw[y,ev];exact⟨rfl,⟨wl.m0,wl.m1⟩,λq z=>wl.y q z⟩
   ·exact old e y
  ·exact old e he
theorem jA.pgs{F:Yc->Prop}{p:Yc}{S:Hs}{x:Lj}{y':PgX}{G1:Yc->Prop}(h:jA K mg H F p S x)(es:S.st=Ya q)(e1:x.pv=.ref pg)(e2:x.cv=.ref ch)(C:ChG K mg H ch S.me q.2.1 q.2.2.1 rd)(pn:Uq H x.cb q.2.2.2)(w:WfC q.2.2.1)(wp:O6 q.2.2.2)(f1:∀a,x.Fp a->F a)(f2:F ch)(f3:F rd)(f4:¬ x.Fp ch)(f5:¬ x.Fp rd)(o:Off x.Fp H H')(P:yX K mg H' G1 pg S.me q.1 q.2.1 S.ro y')(g1:Gr x.Fp H G1):Off F H H'/\∃G,jA K mg H' G p S {x with Fp:=G1}/\Gr F H G:=by
 have nG:∀{a u},H a=Ya u->¬ x.Fp a->¬ G1 a:=λe n z=>(g1 _ z).elim n λy=>by rw[e]at y;cases y
 obtain⟨hc,hr⟩:(∃u,H ch=Ya u)/\∃u,H rd=Ya u:=by
  obtain⟨⟨_,_,_,_,_,_,g,_⟩,⟨_,g',_⟩,_⟩:=C;exact⟨⟨_,g⟩,⟨_,g'⟩⟩
 obtain⟨uc,hc⟩:=hc;obtain⟨ur,hr⟩:=hr;have gp:=o.of _ _ h.ob h.np.1;have gl:=o.of _ _ h.lg h.np.2.1;have go:=o.of _ _ h.lo h.np.2.2;refine⟨o.mono f1,λa=>a=p∨a=x.lg∨a=x.lo∨G1 a∨a=ch∨a=rd,⟨h.mH,h.T,gp,o.tp _ _ h.pa,gl,sH o.tp h.ev,go,h.nl,h.wb.up o.tp,h.wp,?_,.inl rfl,.inr (.inl rfl),.inr (.inr (.inl rfl)),⟨nG h.ob h.np.1,nG h.lg h.np.2.1,nG h.lo h.np.2.2⟩,λa z=>?_,h.m0,h.m1,h.d0,h.t0⟩,λa z=>?_⟩
 ·rw[es];exact⟨pg,y',ch,rd,e1,e2,P,yF.off C o f4 f5,pn.up o.tp,w,wp,λa z=>.inr (.inr (.inr (.inl z))),.inr (.inr (.inr (.inr (.inl rfl)))),.inr (.inr (.inr (.inr (.inr rfl)))),nG hc f4,nG hr f5⟩
 ·rcases z with rfl|rfl|rfl|z|rfl|rfl
  ·rw[gp];intro z;cases z
  ·rw[gl];intro z;cases z
  ·rw[go];intro z;cases z
  ·exact P.dm a z
  ·rw[o.of _ _ hc f4];intro z;cases z
  ·rw[o.of _ _ hr f5];intro z;cases z
 ·rcases z with rfl|rfl|rfl|z|rfl|rfl
  ·exact .inl h.fp
  ·exact .inl h.fl
  ·exact .inl h.fo
  ·exact(g1 a z).imp (f1 a) id
  ·exact .inl f2
  ·exact .inl f3
noncomputable def Xm(S:Hs)(l:Lt):Hs:=match S.st with
 |none=>S
 |some q=>yW {S with st:=Ya (q.1,q.2.1,kh S.me q.2.1 q.2.2.1 l,q.2.2.2)}
def pX(K:Ye)(mg:Yj->Option Yd)(P_mk:Yc):Sp:=λvs H Q _=>E2 fun(p t:Yc)=>vs=[.ref p,.ref t]/\(E4 λF S x l=>A9 (jA K mg H F p S x) (LtA H t l) (WfL l) (l.me≠S.me) (S.st≠Yb) (S.lg.length<=900) (eX P_mk H) (¬ F P_mk) (∀H',Rs K mg P_mk F H p (Xm S l) H'->Q .non H'))
theorem CT:aD ["self","letter"] ie (aA jV):=gF
variable{vY:Yc}{Eo:Yc}{tO:Yt}{zT:Yt}(vC:∅ 10 vY tO Xf (ud K mg))(v7:Binds K tO Xf [])(Em:∅ 10 Eo zT Wo (Bu K mg))(Di:Binds K zT Wo [])(uq:∅ 10 lD jM bx (jQ K mg))(oR:∅ 10 j5 jX QF (jR K mg))(gj:bU K bN "receive" vY)(iY:bU K dY "listen" Eo)
include eV vC v7 Em Di uq gM oR iQ iH iG aH aJ aZ aL aY bA gj cL cM cC iY in
theorem CJ(F:bW K "hear_fellow" "Hand.hear_fellow" jV f fd):∅ 11 f fd ie (pX K mg P_mk):=by
 refine F.oj CT ?_;rintro _ A _ _ H _ _ _ hr _ _ _ ⟨p,t,rfl,h⟩;refine⟨_,(ak (cF (aX j8 (bM (cH.cons aJ.cl cC uq gM cH.nil) (pv 0) hr) bV (bc _)) (aq (bT (bD (cH.cons aJ.cl cL oR iQ cH.nil) (pv 0) hr (aj (bD (cH.cons aZ.cl iY Em Di cH.nil) (au (K:=K) rfl (pv 0) rfl) hr (aj (bf (aN (K:=K) rfl) (pv 1) aC (λ_ _=>rfl)) ao)) ao)))) bG)
   (ak (bT (bD (cH.cons aH.cl gj vC v7 cH.nil) (au (K:=K) rfl (pv 0) rfl) hr (aj (bf (aN (K:=K) rfl) (pv 1) aC (λ_ _=>rfl)) ao)))
   (aq (bT (bM (cH.cons aJ.cl cM iH iG cH.nil) (pv 0) hr))))),?_⟩
 refine XM ?_;intro _;obtain⟨F',S,x,l,HA,⟨cv,pa,pc,ms,g0,pnl,ga,gpc,gms⟩,wl,ne,ns,ll,tb,nP,kk⟩:=h;obtain⟨cl,n1,n2,n3,n4,n5,n6,n7,n8,n9,n10,n11,n12,n13,n14⟩:=id aJ;have hob:∀{A:Hp} {x1:Lj} {S1:Hs} {F1:Yc->Prop},jA K mg A F1 p S1 x1->x1.C=bB:=λh=>by have:=h.mH;rw[aY]at this;cases this;rfl
 obtain⟨q,es⟩:=pj.mp ns;have Tc:=aZ.cl;have Td:=aH.cl;have a5:lH [V.str "in",.int l.me,.int l.nu,cv,.ref pa,.ref pc,.ref ms] 5=Ya (.ref pc):=by kernel_rfl
 have a6:lH [V.str "in",.int l.me,.int l.nu,cv,.ref pa,.ref pc,.ref ms] 6=Ya (.ref ms):=by kernel_rfl
 have hp:=HA.ob;rw[hob HA]at hp;refine rT (λσ A=>A3 (σ=[Ya (.ref p),Ya (.ref t)]) (Off F' H A) (E2 λG x'=>jA K mg A G p S x'/\Gr F' H G)) ?_ λN rest=>?_
 ·rintro σ A ⟨rfl,oA,G,x1,HB,gr⟩;have tbA:eX P_mk A:=eX.off tb oA nP;have nPG:¬ G P_mk:=Qq tb nP gr;have st:=HB.st;rw[es]at st;obtain⟨pg,y,ch,rd,q1,q2,P,C,pn,w,wp,f1,f2,f3,f4,f5⟩:=st;obtain⟨⟨Cc,dc,ba,ye,av,mC,hc,hbb,_⟩,⟨mr,hrd,_⟩,_⟩:=id C;rw[aL]at mC;cases mC;have hpA:=HB.ob;rw[hob HB,q1,q2]at hpA;have stA:=cN.of (K:=K) (oA.tp _ _ g0);cbv;refine⟨ch,ms,rfl,_,_,_,_,_,_,_,_,l.me,l.b,l.y,l.vo,_,C,gms.up oA.tp,λz=>?_,ne,wl.m0,wl.m1,⟨wl.vo,trivial⟩,λH2 rd' k2 C2 fr2=>?_⟩
  ·have:=wl.rp z;cases e:l.rp with
   |none=>exact absurd e this
   |some v=>intro z;cases z
  have o2:Off (λa=>a=ch∨a=rd∨a=P_mk) A H2:=⟨λb o e n=>k2 _ _ (λz=>n (.inl z)) (λz=>n (.inr (.inl z))) e,λa xs e=>k2 _ _ (bj e hc (by intro z;cases z)) (bj e hrd (by intro z;cases z)) e,λa φ e=>k2 _ _ (bj e hc (by intro z;cases z)) (bj e hrd (by intro z;cases z)) e⟩;have w2:WfC (kh S.me q.2.1 q.2.2.1 l):=akI w wl;obtain⟨oF,G2,HC,gr2⟩:=HB.chg (c':=kh S.me q.2.1 q.2.2.1 l) es q1 q2 P f1 f2 f4 f5 f3 pn wp ⟨_,_,_,hc,rfl⟩ ⟨_,hrd⟩ nPG o2 C2 w2 fr2;have tb2:eX P_mk H2:=by
   have kk2:∀b o,A b=Ya o->(∀C dx fs,o≠.ins C dx fs)->(∀m,o≠.dK m)->H2 b=Ya o:=λb o e n m=>k2 _ _ (λz=>by rw[z,hc]at e;cases e;exact n _ _ _ rfl) (λz=>by rw[z,hrd]at e;cases e;exact m _ rfl) e;rcases tbA with t|⟨c,t,u⟩
   ·exact .inl (kk2 _ _ t (by intro _ _ _ z;cases z) (by intro _ z;cases z))
   ·exact .inr ⟨c,kk2 _ _ t (by intro _ _ _ z;cases z) (by intro _ z;cases z),kk2 _ _ u (by intro _ _ _ z;cases z) (by intro _ z;cases z)⟩
  have hpC:=HC.ob;rw[hob HC,q1,q2]at hpC;cbv;refine⟨p,rfl,G2,_,x1,HC,ll,tb2,Qq tbA nPG gr2,λH3 G3 x3 o3 HD gr3 tb3=>?_⟩;have e:Xm S l=yW {S with st:=Ya (q.1,q.2.1,kh S.me q.2.1 q.2.2.1 l,q.2.2.2)}:=by unfold Xm;rw[es]
  refine kk H3 ?_;rw[e];exact xf (Ad oA) tbA gr (xf oF tb2 gr2 ⟨o3,tb3,G3,x3,HD,gr3⟩)
 ·have st:=HA.st;rw[es]at st;obtain⟨pg,y,ch,rd,q1,q2,P,C,pn,w,wp,f1,f2,f3,f4,f5⟩:=st;obtain⟨Cp,dxp,mP,Tp,hg⟩:=P.ob;rw[bA]at mP;cases mP;rw[q1,q2]at hp;have st0:=cN.of (K:=K) g0;cbv;refine⟨p,rfl,F',S,x,HA,λv hv=>?_⟩;rw[es]at hv;have hv:Vh H v q.2.2.1.b:=hv;cases eb:q.2.2.1.b with
  |some b0=>
   rw[eb]at hv;obtain⟨tv,rfl,gv⟩:=hv;cbv;rw[dH];cbv;exact rest _ _ ⟨rfl,.refl _ _,F',x,HA,.self⟩
  |none=>
   rw[eb]at hv;obtain rfl:v=.non:=hv;cbv;rw[show decide (V.non=V.non)=true from decide_eq_true rfl];cbv;refine⟨pg,pc,rfl,_,_,_,_,_,_,l.me,P,gpc,ne,λH1 G1 y1 lr o1 P1 gr1 gl1=>?_⟩;obtain⟨oF,G,HB,gr⟩:=HA.pgs es q1 q2 C pn w wp f1 f2 f3 f4 f5 o1 P1 gr1;have hpB:=HB.ob;rw[hob HA,q1,q2]at hpB;cbv;exact⟨p,lr,rfl,G,S,_,HB,bI.of gl1,ll,λH2 s2=>rest _ _ ⟨rfl,oF.trans (.sm s2),G,_,HB.same s2,gr⟩⟩
noncomputable def h1S(S:Hs)(n:Int):Hs:=match S.st with
 |none=>S
 |some q=>if q.1<n-1 then Pg S q.1 else S
noncomputable def h2S(S:Hs)(l:Lt):Hs:=match S.st with
 |none=>Vn S l
 |some q=>if q.1=l.nu-1 then O8 S q.1 l.cb else S
noncomputable def h3S(S:Hs)(l:Lt):Hs:=match S.st with
 |none=>S
 |some q=>if q.1=l.nu then Xm S l else S
noncomputable def PX(S:Hs)(l:Lt):Hs:={h3S (h2S (h1S S l.nu) l) l with nw:=mxI (h3S (h2S (h1S S l.nu) l) l).nw l.nu}
theorem RG(S:Hs)(n:Int)(pl:Pn):(O8 S n pl).me=S.me/\(O8 S n pl).lg.length=S.lg.length+ 1:=by
 unfold O8;split
 ·exact⟨rfl,by unfold Pb;simp⟩
 ·exact⟨rfl,by unfold Pg;simp⟩
theorem ag8(S:Hs)(l:Lt):(Vn S l).me=S.me/\(Vn S l).lg.length<=S.lg.length+ 1:=by
 unfold Vn;split
 ·exact⟨rfl,by unfold Pb;simp⟩
 ·exact⟨rfl,by omega⟩
theorem akg(S:Hs)(n:Int):(h1S S n).me=S.me/\(h1S S n).lg.length<=S.lg.length+ 1:=by
 unfold h1S;split
 ·exact⟨rfl,by omega⟩
 ·split
  ·exact⟨rfl,by unfold Pg;simp⟩
  ·exact⟨rfl,by omega⟩
theorem akz(S:Hs)(l:Lt):(h2S S l).me=S.me/\(h2S S l).lg.length<=S.lg.length+ 1:=by
 unfold h2S;split
 ·exact ag8 S l
 ·split
  ·exact⟨(RG S _ l.cb).1,kR (RG S _ l.cb).2⟩
  ·exact⟨rfl,by omega⟩
def lV(K:Ye)(mg:Yj->Option Yd)(P_mk:Yc):Sp:=λvs H Q _=>E2 fun(p t:Yc)=>vs=[.ref p,.ref t]/\(E4 λF S x l=>A8 (jA K mg H F p S x) (LtA H t l) (WfL l) (l.me≠S.me) (S.lg.length<=890) (eX P_mk H) (¬ F P_mk) (∀H',Rs K mg P_mk F H p (PX S l) H'->Q .non H'))
theorem lQ:aD ["self","letter","number"] ie (aA je):=gF
variable{mF:Yc}{xX:Yc}{qR:Yc}{j9:Yt}{vp:Yt}{pY:Yt}(mq:∅ 11 mF j9 Qw (lM K mg))(gK:Binds K j9 Qw [])(wA:∅ 11 uR rH bx (j7 K mg))(yh:∅ 11 wO uD QZ (uw K mg))(yM:∅ 11 xX vp ie (vU K mg))(yC:Binds K vp ie [])(rJ:∅ 11 qR pY ie (pX K mg P_mk))(rA:Binds K pY ie [])(gP:bU K bB "come_new" xX)(eF:bU K bB "hear_fellow" qR)(cG:bU K bB "stands_in" mF)
include eV mq gK wA nY yh jm yM yC rJ rA Qz aJ aZ aY bA gP cZ dX eF cG in
theorem yU(F:bW K "hear_standing" "Hand.hear_standing" je f fd):∅ 12 f fd ie (lV K mg P_mk):=by
 refine F.oj lQ ?_;rintro _ A _ _ H _ _ _ hr _ _ _ ⟨p,t,rfl,h⟩;refine⟨_,(ak (aV (i:=2) lQ.nd rfl (Or.inl rfl) (bf (aN (K:=K) rfl) (pv 1) aC (λ_ _=>rfl)))
   (ak (cF (PW.pt (pK (aX nQ (au (K:=K) rfl (pv 0) rfl) bV (bc _)) (kJ (aX U6 (au (K:=K) rfl (au (K:=K) rfl (pv 0) rfl) rfl) (bL af5 (pv 2) aC) (bc _))))) (aq (bT (bM (cH.cons aJ.cl dX wA nY cH.nil) (pv 0) hr))) bG)
   (ak (cF (aX j8 (au (K:=K) rfl (pv 0) rfl) bV (bc _)) (aq (bT (bD (cH.cons aJ.cl gP yM yC cH.nil) (pv 0) hr (aj (pv 1) ao)))) (aq (cF (cT K rfl (bD (cH.cons aJ.cl cG mq gK cH.nil) (pv 0) hr (aj (bL af5 (pv 2) aC) ao))) (aq (bT (bD (cH.cons aJ.cl cZ yh jm cH.nil) (pv 0) hr (aj (bf (aN (K:=K) rfl) (pv 1) aC (λ_ _=>rfl)) ao)))) bG)))
   (ak (cF (cT K rfl (bD (cH.cons aJ.cl cG mq gK cH.nil) (pv 0) hr (aj (pv 2) ao))) (aq (bT (bD (cH.cons aJ.cl eF rJ rA cH.nil) (pv 0) hr (aj (pv 1) ao)))) bG)
   (aq (aQ (K:=K) rfl (pv 0) (cj (QQ rfl) (by rfl) Qz sT (aj (au (K:=K) rfl (pv 0) rfl) (aj (pv 2) ao))) rfl)))))),?_⟩
 refine xl5 ?_;intro _ _ _;obtain⟨F',S,x,l,HA,LA,wl,ne,ll,tb,nP,kk⟩:=h;obtain⟨cl,n1,n2,n3,n4,n5,n6,n7,n8,n9,n10,n11,n12,n13,n14⟩:=id aJ;have hob:∀{A:Hp} {x1:Lj} {S1:Hs} {F1:Yc->Prop},jA K mg A F1 p S1 x1->x1.C=bB:=λh=>by have:=h.mH;rw[aY]at this;cases this;rfl
 have Tc:=aZ.cl;have T2:=aZ.n2;obtain⟨cv,pa,pc,ms,g0,pnl,ga,gpc,gms⟩:=id LA;have a2:lH [V.str "in",.int l.me,.int l.nu,cv,.ref pa,.ref pc,.ref ms] 2=Ya (.int l.nu):=by kernel_rfl
 have a3:lH [V.str "in",.int l.me,.int l.nu,cv,.ref pa,.ref pc,.ref ms] 3=Ya cv:=by kernel_rfl
 have st0:=cN.of (K:=K) g0;have hp:=HA.ob;rw[hob HA]at hp;obtain⟨me1,lg1⟩:=akg S l.nu;obtain⟨me2,lg2⟩:=akz (h1S S l.nu) l;have nPr:∀{A:Hp} {S1:Hs},Rs K mg P_mk F' H p S1 A->∃G x',Off (FT F' P_mk) H A/\eX P_mk A/\jA K mg A G p S1 x'/\Gr F' H G/\¬ G P_mk:=fun⟨o,t,G,x',h,g⟩=>⟨G,x',o,t,h,g,Qq tb nP g⟩;cbv;refine rT (λσ A=>σ=[Ya (.ref p),Ya (.ref t),Ya (.int l.nu)]/\Rs K mg P_mk F' H p (h1S S l.nu) A) ?_ λN rest=>?_
 ·rintro σ A ⟨rfl,r1⟩;refine rT (λσ A=>σ=[Ya (.ref p),Ya (.ref t),Ya (.int l.nu)]/\Rs K mg P_mk F' H p (h2S (h1S S l.nu) l) A) ?_ λN rest=>?_
  ·rintro σ B ⟨rfl,r2⟩;refine rT (λσ A=>σ=[Ya (.ref p),Ya (.ref t),Ya (.int l.nu)]/\Rs K mg P_mk F' H p (h3S (h2S (h1S S l.nu) l) l) A) ?_ λN rest=>?_
   ·rintro σ D ⟨rfl,r3⟩;obtain⟨G,x1,o,tD,HD,gr,nPG⟩:=nPr r3;have hpD:=HD.ob;rw[hob HD]at hpD;cbv;refine⟨_,l.nu,rfl,?_⟩;cbv;intro H1 b1 g1;rw[ab1]at g1;have k1:j4 D H1:=λa xs e=>b1.at (bj e hpD (by intro z;cases z)) e;obtain⟨o1,HB⟩:=HD.fld (S':=PX S l) (x':=x1) b1 (by rw[hob HD];exact g1) ⟨rfl,rfl,rfl,rfl,rfl,rfl,rfl,rfl,rfl⟩ ⟨rfl,rfl,rfl,rfl⟩ (k1 _ _ HD.pa) (HD.wb.up k1) HD.wp HD.d0 HD.t0;exact kk H1 (xf o tD gr ⟨Ad o1,eX.off tD o1 nPG,G,x1,HB,.self⟩)
   ·obtain⟨G,x1,o,tB,HB,gr,nPG⟩:=nPr r2;have hpB:=HB.ob;rw[hob HB]at hpB;have LB:=LA.up o.tp;generalize h2S (h1S S l.nu) l=S2 at HB rest lg2 me2 hpB;cbv;refine⟨p,l.nu,rfl,G,S2,x1,HB,?_⟩;have e3:h3S S2 l=(match S2.st with|none=>S2|some q=>if q.1=l.nu then Xm S2 l else S2):=rfl;cbv;cases es:S2.st with
    |none=>
     rw[es]at e3;refine d9 (λz=>nomatch z) λ_=>?_;exact rest _ _ ⟨rfl,by rw[e3];exact⟨o,tB,G,x1,HB,gr⟩⟩
    |some q=>
     rw[es]at e3;refine d9 (λz=>?_) λz=>?_
     ·have z:q.1=l.nu:=of_decide_eq_true z;cbv;refine⟨p,t,rfl,G,S2,x1,l,HB,LB,wl,(by rw[me2,me1];exact ne),(by rw[es];intro z;cases z),by omega,tB,nPG,λH2 r=>rest _ _ ⟨rfl,?_⟩⟩;rw[e3];show Rs K mg P_mk F' H p (if q.1=l.nu then Xm S2 l else S2) H2;rw[if_pos z];exact xf o tB gr r
     ·have z:¬ q.1=l.nu:=λy=>z (decide_eq_true y);refine rest _ _ ⟨rfl,?_⟩;rw[e3];show Rs K mg P_mk F' H p (if q.1=l.nu then Xm S2 l else S2) B;rw[if_neg z];exact⟨o,tB,G,x1,HB,gr⟩
  ·obtain⟨G,x1,o,tA,HB,gr,nPG⟩:=nPr r1;have hpA:=HB.ob;rw[hob HB]at hpA;have LB:=LA.up o.tp;have stA:=cN.of (K:=K) (o.tp _ _ g0);generalize h1S S l.nu=S1 at HB rest lg1 me1 hpA lg2 me2;have st:=HB.st;have e2:h2S S1 l=(match S1.st with|none=>Vn S1 l|some q=>if q.1=l.nu-1 then O8 S1 q.1 l.cb else S1):=rfl;cases es:S1.st with
   |none=>
    rw[es]at st e2;obtain⟨q1,q2,q3⟩:=st;rw[q1,q2,q3]at hpA;cbv;rw[show decide (V.non=V.non)=true from decide_eq_true rfl];cbv;refine⟨p,t,rfl,G,S1,x1,l,HB,LB,wl,es,by omega,λH2 G2 x2 o2 HC gr2=>rest _ _ ⟨rfl,?_⟩⟩;rw[e2];exact xf o tA gr ⟨Ad o2,eX.off tA o2 nPG,G2,x2,HC,gr2⟩
   |some q=>
    rw[es]at st e2;obtain⟨pg,y,ch,rd,q1,q2,_⟩:=st;rw[q1,q2]at hpA;cbv;rw[dH];cbv;refine⟨p,l.nu-1,rfl,G,S1,x1,HB,?_⟩;rw[es];cbv;refine d9 (λz=>?_) λz=>?_
    ·have z:q.1=l.nu-1:=of_decide_eq_true z;cbv;refine⟨p,cv,rfl,G,S1,x1,q,l.cb,HB,es,pnl.up o.tp,wl.cb,by omega,λH2 G2 x2 o2 HC gr2=>rest _ _ ⟨rfl,?_⟩⟩;rw[e2];show Rs K mg P_mk F' H p (if q.1=l.nu-1 then O8 S1 q.1 l.cb else S1) H2;rw[if_pos z];exact xf o tA gr ⟨Ad o2,eX.off tA o2 nPG,G2,x2,HC,gr2⟩
    ·have z:¬ q.1=l.nu-1:=λy=>z (decide_eq_true y);refine rest _ _ ⟨rfl,?_⟩;rw[e2];show Rs K mg P_mk F' H p (if q.1=l.nu-1 then O8 S1 q.1 l.cb else S1) A;rw[if_neg z];exact⟨o,tA,G,x1,HB,gr⟩
 ·have st:=HA.st;have e1:h1S S l.nu=(match S.st with|none=>S|some q=>if q.1<l.nu-1 then Pg S q.1 else S):=rfl;cases es:S.st with
  |none=>
   rw[es]at st e1;obtain⟨q1,q2,q3⟩:=st;rw[q1,q2,q3]at hp;cbv;rw[show decide (V.non=V.non)=true from decide_eq_true rfl];cbv;exact rest _ _ ⟨rfl,by rw[e1];exact Mv HA tb⟩
  |some q=>
   rw[es]at st e1;obtain⟨pg,y,ch,rd,q1,q2,P,_⟩:=st;obtain⟨Cp,dxp,mP,Tp,hg⟩:=P.ob;rw[bA]at mP;cases mP;rw[q1,q2]at hp;cbv;rw[dH];cbv;refine d9 (λz=>?_) λz=>?_
   ·have z:q.1<l.nu-1:=of_decide_eq_true z;cbv;refine⟨p,rfl,F',S,x,q,HA,es,by omega,λH2 x2 o2 HC=>rest _ _ ⟨rfl,?_⟩⟩;rw[e1];show Rs K mg P_mk F' H p (if q.1<l.nu-1 then Pg S q.1 else S) H2;rw[if_pos z];exact⟨Ad o2,eX.off tb o2 nP,F',x2,HC,.self⟩
   ·have z:¬ q.1<l.nu-1:=λy=>z (decide_eq_true y);refine rest _ _ ⟨rfl,?_⟩;rw[e1];show Rs K mg P_mk F' H p (if q.1<l.nu-1 then Pg S q.1 else S) H;rw[if_neg z];exact Mv HA tb
noncomputable def zH(S:Hs)(wb:Option (Pn×Int)):Hs:=match wb with
 |none=>S
 |some w=>match S.st with
  |none=>S
  |some q=>if q.1=w.2 then O8 S q.1 w.1 else S
noncomputable def adg(S:Hs)(me:Int)(wi:Bool)(wb:Option (Pn×Int)):Hs:=match(zH S wb).st with
 |none=>zH S wb
 |some q=>if(wi&& !gU q.2.1 me)=true then{zH S wb with nt:=YD (zH S wb).nt (2^me.toNat)}else zH S wb
theorem agG(S:Hs)(wb:Option (Pn×Int)):(zH S wb).me=S.me/\(zH S wb).lg.length<=S.lg.length+ 1:=by
 unfold zH;split
 ·exact⟨rfl,by omega⟩
 ·split
  ·exact⟨rfl,by omega⟩
  ·split
   ·exact⟨(RG S _ _).1,kR (RG S _ _).2⟩
   ·exact⟨rfl,by omega⟩
def tu(K:Ye)(mg:Yj->Option Yd)(P_mk:Yc):Sp:=λvs H Q _=>E2 fun(p t:Yc)=>vs=[.ref p,.ref t]/\(E6 λF S x me wi wb=>A9 (jA K mg H F p S x) (LaA H t me wi wb) ((∀w,wb=Ya w->O6 w.1)) (0<=me) (me<63) (S.lg.length<=890) (eX P_mk H) (¬ F P_mk) (∀H',Rs K mg P_mk F H p (adg S me wi wb) H'->Q .non H'))
theorem sX:aD ["self","letter","last"] ie (aA m7):=gF
variable(Kl:∅ 9 wJ qH Th (qC K))(U9:∅ 9 aci SX aaC (Tt K))(pZ:∅ 9 mF j9 Qw (lM K mg))
include eV Kl fW U9 z9 pZ gK qw jm aJ aZ aY bA cZ cG in
theorem Ga(F:bW K "hear_away" "Hand.hear_away" m7 f fd):∅ 10 f fd ie (tu K mg P_mk):=by
 refine F.oj sX ?_;rintro _ A _ _ H _ Q _ hr _ _ _ ⟨p,t,rfl,h⟩;refine⟨_,(ak (aV (i:=2) sX.nd rfl (Or.inl rfl) (bf (aN (K:=K) rfl) (pv 1) aC (λ_ _=>rfl)))
   (ak (cF (PW.pt (pK (aX nQ (pv 2) bV (bc _)) (kJ (cT K rfl (bD (cH.cons aJ.cl cG pZ gK cH.nil) (pv 0) hr (aj (bf (aN (K:=K) rfl) (pv 2) aC (λ_ _=>rfl)) ao)))))) (aq (bT (bD (cH.cons aJ.cl cZ qw jm cH.nil) (pv 0) hr (aj (bf (aN (K:=K) rfl) (pv 2) aC (λ_ _=>rfl)) ao)))) bG)
   (aq (cF (PW.pt (pK (agk (bf (aN (K:=K) rfl) (pv 1) aC (λ_ _=>rfl))) (pK (aX nQ (au (K:=K) rfl (pv 0) rfl) bV (bc _)) (kJ (Bh (cT K rfl (bh U9 z9 hr (aj (au (K:=K) rfl (au (K:=K) rfl (pv 0) rfl) rfl) (aj (bf (aN (K:=K) rfl) (pv 1) aC (λ_ _=>rfl)) ao))))))))) (aq (aQ (K:=K) rfl (pv 0) (bL NK (au (K:=K) rfl (pv 0) rfl) (bh Kl fW hr (aj (bf (aN (K:=K) rfl) (pv 1) aC (λ_ _=>rfl)) ao))) rfl)) bG)))),?_⟩
 refine XM ?_;intro _;obtain⟨F',S,x,me,wi,wb,HA,LA,wf,e0,e1,ll,tb,nP,kk⟩:=h;obtain⟨cl,n1,n2,n3,n4,n5,n6,n7,n8,n9,n10,n11,n12,n13,n14⟩:=id aJ;have hob:∀{A:Hp} {x1:Lj} {S1:Hs} {F1:Yc->Prop},jA K mg A F1 p S1 x1->x1.C=bB:=λh=>by have:=h.mH;rw[aY]at this;cases this;rfl
 have Tc:=aZ.cl;have T3:=aZ.n3;obtain⟨wv,g0,hw⟩:=id LA;have a1:lH [V.str "away",.int me,.bl wi,wv] 1=Ya (.int me):=by kernel_rfl
 have a2:lH [V.str "away",.int me,.bl wi,wv] 2=Ya (.bl wi):=by kernel_rfl
 have a3:lH [V.str "away",.int me,.bl wi,wv] 3=Ya wv:=by kernel_rfl
 have st0:=cN.of (K:=K) g0;obtain⟨me1,lg1⟩:=agG S wb;cbv;refine rT (λσ A=>σ=[Ya (.ref p),Ya (.ref t),Ya wv]/\Rs K mg P_mk F' H p (zH S wb) A) ?_ λN rest=>?_
 ·rintro σ A ⟨rfl,o,tA,G,x1,HB,gr⟩;have nPG:=Qq tb nP gr;have hpA:=HB.ob;rw[hob HB]at hpA;have stA:=cN.of (K:=K) (o.tp _ _ g0);have r1:Rs K mg P_mk F' H p (zH S wb) A:=⟨o,tA,G,x1,HB,gr⟩;have e2:adg S me wi wb=(match(zH S wb).st with|none=>zH S wb|some q=>if(wi&& !gU q.2.1 me)=true then{zH S wb with nt:=YD (zH S wb).nt (2^me.toNat)}else zH S wb):=rfl;generalize zH S wb=S1 at HB hpA e2 r1;have st:=HB.st;have no:(∀q,S1.st=Ya q->(wi&& !gU q.2.1 me)=false)->Q .non A:=λhn=>kk A (by
   rw[e2];cases es:S1.st with
   |none=>exact r1
   |some q=>
    show Rs K mg P_mk F' H p (if(wi&& !gU q.2.1 me)=true then _ else S1) A;rw[if_neg (by rw[hn q es];intro z;cases z)];exact r1)
  cbv;refine d9 (λz=>?_) λz=>?_
  ·cases es:S1.st with
   |none=>
    rw[es]at st;obtain⟨q1,q2,q3⟩:=st;rw[q1,q2,q3]at hpA;cbv;rw[show decide (V.non=V.non)=true from decide_eq_true rfl];cbv;exact no λq y=>by rw[es]at y;cases y
   |some q=>
    rw[es]at st;obtain⟨pg,y,ch,rd,q1,q2,P,_⟩:=st;obtain⟨Cp,dxp,mP,Tp,hg⟩:=P.ob;rw[bA]at mP;cases mP;rw[q1,q2]at hpA;cbv;rw[dH];cbv;refine⟨q.2.1,me,rfl,P.h0,e0,by omega,?_⟩;cbv;refine d9 (λw=>?_) λw=>?_
    ·have w:gU q.2.1 me=false:=by
      cases e:gU q.2.1 me with
      |false=>rfl
      |true=>rw[show q.2.1.toNat.testBit me.toNat=true from e]at w;cases w
     cbv;refine⟨me,rfl,e0,by omega,?_⟩;cbv;intro H1 b1 g1;rw[acb]at g1;have k1:j4 A H1:=λa xs e=>b1.at (bj e hpA (by intro z;cases z)) e;have bt:=Ul e0 e1;obtain⟨o1,HC⟩:=HB.fld (S':={S1 with nt:=YD S1.nt (2^me.toNat)}) (x':=x1) b1 (by rw[hob HB,q1,q2];exact g1) ⟨rfl,rfl,rfl,rfl,rfl,rfl,rfl,rfl,rfl⟩ ⟨rfl,rfl,rfl,rfl⟩ (k1 _ _ HB.pa) (HB.wb.up k1) HB.wp HB.d0 (WX HB.t0.1 HB.t0.2 bt.1 bt.2);refine kk H1 ?_;rw[e2,es];show Rs K mg P_mk F' H p (if(wi&& !gU q.2.1 me)=true then _ else S1) H1;rw[if_pos (by rw[w,show wi=true from z];rfl)];exact xf o tA gr ⟨Ad o1,eX.off tA o1 nPG,G,x1,HC,.self⟩
    ·exact no λq' y=>by
      rw[es]at y;cases y;cases e:gU q.2.1 me with
      |true=>simp
      |false=>rw[show q.2.1.toNat.testBit me.toNat=false from e]at w;exact absurd rfl w
  ·exact no λq _=>by rw[dS.mpr z];rfl
 ·have hp:=HA.ob;rw[hob HA]at hp;cases wb with
  |none=>
   obtain rfl:wv=.non:=hw;cbv;rw[show decide (V.non=V.non)=true from decide_eq_true rfl];cbv;exact rest _ _ ⟨rfl,Mv HA tb⟩
  |some w=>
   obtain⟨tw,pv,rfl,gw,pw⟩:=hw;have stw:=cN.of (K:=K) gw;have b0:lH [pv,V.int w.2] 0=Ya pv:=by kernel_rfl
   have b1:lH [pv,V.int w.2] 1=Ya (.int w.2):=by kernel_rfl
   have e1':zH S (Ya w)=(match S.st with|none=>S|some q=>if q.1=w.2 then O8 S q.1 w.1 else S):=rfl;cbv;rw[dH];cbv;refine⟨p,w.2,rfl,F',S,x,HA,?_⟩;cbv;cases es:S.st with
   |none=>
    rw[es]at e1';refine d9 (λz=>nomatch z) λ_=>?_;exact rest _ _ ⟨rfl,by rw[e1'];exact Mv HA tb⟩
   |some q=>
    rw[es]at e1';refine d9 (λz=>?_) λz=>?_
    ·have z:q.1=w.2:=of_decide_eq_true z;cbv;refine⟨p,pv,rfl,F',S,x,q,w.1,HA,es,pw,wf w rfl,by omega,λH2 G2 x2 o2 HC gr2=>rest _ _ ⟨rfl,?_⟩⟩;rw[e1'];show Rs K mg P_mk F' H p (if q.1=w.2 then O8 S q.1 w.1 else S) H2;rw[if_pos z];exact⟨Ad o2,eX.off tb o2 nP,G2,x2,HC,gr2⟩
    ·have z:¬ q.1=w.2:=λy=>z (decide_eq_true y);refine rest _ _ ⟨rfl,?_⟩;rw[e1'];show Rs K mg P_mk F' H p (if q.1=w.2 then O8 S q.1 w.1 else S) H;rw[if_neg z];exact Mv HA tb
def Ih(K:Ye)(v:V):Prop:=v=.int 62
inductive Let where
 |inn (l:Lt)
 |away (me:Int) (wi:Bool) (wb:Option (Pn×Int))
noncomputable def Let.me:Let->Int
 | .inn l=>l.me
 | .away m _ _=>m
def alq(H:Hp)(t:Yc):Let->Prop
 | .inn l=>LtA H t l
 | .away me wi wb=>LaA H t me wi wb
def WfT:Let->Prop
 | .inn l=>WfL l
 | .away me _ wb=>(0<=me/\me<63)/\∀w,wb=Ya w->O6 w.1
noncomputable def oX(S:Hs):Let:=match S.st with
 |none=>.away S.me S.wi S.wb
 |some q=>.inn (T8 S q)
noncomputable def pB(S:Hs)(L:Let):Hs:=if L.me=S.me then S else match L with
 | .inn l=>PX S l
 | .away me wi wb=>adg S me wi wb
def qy(K:Ye)(mg:Yj->Option Yd)(P_mk:Yc):Sp:=λvs H Q _=>E2 fun(p t:Yc)=>vs=[.ref p,.ref t]/\(E4 λF S x L=>A7 (jA K mg H F p S x) (alq H t L) (WfT L) (S.lg.length<=880) (eX P_mk H) (¬ F P_mk) (∀H' l ys,Rs K mg P_mk F H p (pB S L) H'->H' l=Ya (.lst ys)->J1 H' ys ((pB S L).lg.drop S.lg.length)->Q (.ref l) H'))
theorem Gj:aD ["self","letter","start"] ie (aA yZ):=gF
variable{oG:Yc}{wG:Yc}{lU:Yt}{sJ:Yt}(oO:∅ 12 oG lU ie (lV K mg P_mk))(oH:Binds K lU ie [])(wu:∅ 12 wG sJ ie (tu K mg P_mk))(vN:Binds K sJ ie [])(fX:bU K bB "hear_away" wG)(dJ:bU K bB "hear_standing" oG)
include eV oO oH wu vN iD aJ aY fX dJ in
theorem Ui(F:bW K "hear" "Hand.hear" yZ f fd):∅ 13 f fd ie (qy K mg P_mk):=by
 refine F.oj Gj ?_;rintro _ A _ _ H _ _ _ hr _ _ _ ⟨p,t,rfl,h⟩;refine⟨_,(ak (aV (i:=2) Gj.nd rfl (Or.inl rfl) (cj (fB (K:=K) rfl) (by rfl) iD dP (aj (au (K:=K) rfl (pv 0) rfl) ao)))
   (ak (cF (aX ad9 (bf (aN (K:=K) rfl) (pv 1) aC (λ_ _=>rfl)) (au (K:=K) rfl (pv 0) rfl) (bc _)) (aq (cF (aX yP (bf (aN (K:=K) rfl) (pv 1) aC (λ_ _=>rfl)) Fe (bc _)) (aq (bT (bD (cH.cons aJ.cl dJ oO oH cH.nil) (pv 0) hr (aj (pv 1) ao)))) (aq (bT (bD (cH.cons aJ.cl fX wu vN cH.nil) (pv 0) hr (aj (pv 1) ao)))))) bG)
   (aq (aR (lK (qT (K:=K) rfl) (au (K:=K) rfl (pv 0) rfl) (kW (pv 2)) xG))))),?_⟩
 refine XM ?_;intro _;obtain⟨F',S,x,L,HA,LA,wt,ll,tb,nP,kk⟩:=h;obtain⟨cl,n1,n2,n3,n4,n5,n6,n7,n8,n9,n10,n11,n12,n13,n14⟩:=id aJ;have hob:∀{A:Hp} {x1:Lj} {S1:Hs} {F1:Yc->Prop},jA K mg A F1 p S1 x1->x1.C=bB:=λh=>by have:=h.mH;rw[aY]at this;cases this;rfl
 have hp:=HA.ob;rw[hob HA]at hp;have lx:x.xs.length=S.lg.length:=bS HA.ev;have sl:bI K H x.lg x.xs:=bI.of HA.lg;cbv;refine rT (λσ A=>σ=[Ya (.ref p),Ya (.ref t),Ya (.int (x.xs.length:Nat))]/\Rs K mg P_mk F' H p (pB S L) A) ?_ λN rest=>?_
 ·rintro σ A ⟨rfl,r⟩;obtain⟨o,tA,G,x1,HB,gr⟩:=id r;have hpA:=HB.ob;rw[hob HB]at hpA;have sl3:bI K A x1.lg x1.xs:=bI.of HB.lg;cbv;intro l H4 hl s4 g4;rw[GK _ _ (ml _),YA,lx]at g4;exact kk H4 l _ (r.end s4) g4 (tU (sH (.same s4) HB.ev))
 ·cases L with
  |inn l=>
   have eS:pB S (.inn l)=if l.me=S.me then S else PX S l:=rfl
   obtain⟨cv,pa,pc,ms,g0,_⟩:=id LA;have st0:=cN.of (K:=K) g0;have a0:lH [V.str "in",.int l.me,.int l.nu,cv,.ref pa,.ref pc,.ref ms] 0=Ya (.str "in"):=by kernel_rfl
   have a1:lH [V.str "in",.int l.me,.int l.nu,cv,.ref pa,.ref pc,.ref ms] 1=Ya (.int l.me):=by kernel_rfl
   cbv;refine d9 (λz=>?_) λz=>?_
   ·have z:¬ l.me=S.me:=by simpa using z
    cbv;refine d9 (λ_=>?_) λy=>absurd (decide_eq_true rfl) y;cbv;refine⟨p,t,rfl,F',S,x,l,HA,LA,wt,z,by omega,tb,nP,λH2 r=>rest _ _ ⟨rfl,?_⟩⟩;rw[eS];show Rs K mg P_mk F' H p (if l.me=S.me then S else PX S l) H2;rw[if_neg z];exact r
   ·have z:l.me=S.me:=by simpa using z
    refine rest _ _ ⟨rfl,?_⟩;rw[eS];show Rs K mg P_mk F' H p (if l.me=S.me then S else PX S l) H;rw[if_pos z];exact Mv HA tb
  |away me wi wb=>
   have eS:pB S (.away me wi wb)=if me=S.me then S else adg S me wi wb:=rfl
   obtain⟨wv,g0,_⟩:=id LA;have st0:=cN.of (K:=K) g0;have a0:lH [V.str "away",.int me,.bl wi,wv] 0=Ya (.str "away"):=by kernel_rfl
   have a1:lH [V.str "away",.int me,.bl wi,wv] 1=Ya (.int me):=by kernel_rfl
   cbv;refine d9 (λz=>?_) λz=>?_
   ·have z:¬ me=S.me:=by simpa using z
    cbv;refine d9 (λy=>absurd (of_decide_eq_true y) (by decide +kernel)) λ_=>?_;cbv;refine⟨p,t,rfl,F',S,x,me,wi,wb,HA,LA,wt.2,wt.1.1,wt.1.2,by omega,tb,nP,λH2 r=>rest _ _ ⟨rfl,?_⟩⟩;rw[eS];show Rs K mg P_mk F' H p (if me=S.me then S else adg S me wi wb) H2;rw[if_neg z];exact r
   ·have z:me=S.me:=by simpa using z
    refine rest _ _ ⟨rfl,?_⟩;rw[eS];show Rs K mg P_mk F' H p (if me=S.me then S else adg S me wi wb) H;rw[if_pos z];exact Mv HA tb
def Kp(K:Ye):Sp:=λvs H Q _=>∃(w:Int),vs=[.int w]/\Q (.bl true) H
theorem W0:aD ["value"] pH (aA Es):=gF
variable(aeQ:mg "bool"=Yb)(aiB:mg "int"=Yb)
include eV aeQ aiB cP in
theorem Vl(F:bW K "is_whole" "is_whole" Es f fd):∅ 1 f fd pH (Kp K):=by
 refine F.oj W0 ?_;rintro _ _ _ _ _ _ _ _ _ _ _ _ ⟨w,rfl,h⟩;refine⟨_,(aq (aR (xF (cj (vm (K:=K) rfl) (by rfl) cP gc (aj (pv 0) (aj (Ie aiB IZ) ao))) (xN (ajj (cj (vm (K:=K) rfl) (by rfl) cP gc (aj (pv 0) (aj (Ie aeQ IM) ao)))))))),?_⟩;cbv;refine⟨_,_,_,true,rfl,.int _,(by kernel_rfl),?_⟩;cbv;refine⟨_,_,_,false,rfl,.int _,(by kernel_rfl),?_⟩;cbv;exact h
def M6(K:Ye):Sp:=λvs H Q _=>∃(w:Int),vs=[.int w]/\(A3 (0<=w) (w<63) (Q (.bl true) H))
theorem aaj:aD ["value"] pH (aA JT):=gF
variable{M3:Yc}{Ke:Yt}{qu:V}{Gn:Yd}(wV:∅ 1 M3 Ke pH (Kp K))(xO:gW K mg "is_whole" M3 Ke pH)(ik:mg "LAST_HAND"=Ya Gn)(iu:RelV qu Gn)(iy:Ih K qu)
include eV wV xO ik iu iy in
theorem aay(F:bW K "is_hand" "is_hand" JT f fd):∅ 2 f fd pH (M6 K):=by
 refine F.oj aaj ?_;rintro _ _ _ _ H _ Q _ hr _ _ _ ⟨w,rfl,h⟩;refine⟨_,(aq (aR (xF (bh wV xO hr (aj (pv 0) ao)) (xN (Vw aeL aeL aC (pv 0) (T6 rfl ik iu)))))),?_⟩;obtain⟨h0,h1,kk⟩:=h;obtain rfl:qu=.int 62:=iy;cbv;refine⟨w,rfl,?_⟩;cbv;refine⟨_,rfl,_,_,rfl,rfl,_,rfl,?_⟩;rw[if_pos (decide_eq_true h0)];refine⟨_,_,rfl,rfl,?_⟩;show Q (.bl (decide (w<=62))) H;rw[decide_eq_true (show w<=62 by omega)];exact kk
def RB(K:Ye):Sp:=λvs H Q _=>∃(w:Int),vs=[.int w]/\(A3 (0<=w) (w<9223372036854775808) (Q (.bl true) H))
theorem ado:aD ["value"] pH (aA Nu):=gF
include eV wV xO ik iu iy in
theorem adS(F:bW K "is_set" "is_set" Nu f fd):∅ 2 f fd pH (RB K):=by
 refine F.oj ado ?_;rintro _ _ _ _ _ _ _ _ hr _ _ _ ⟨w,rfl,h⟩;refine⟨_,(aq (aR (xF (bh wV xO hr (aj (pv 0) ao)) (xN (Vw aeL U6 aC (pv 0) (bL Av aC (bL mJ (T6 rfl ik iu) aC))))))),?_⟩;obtain⟨h0,h1,kk⟩:=h;obtain rfl:qu=.int 62:=iy;cbv;refine⟨w,rfl,?_⟩;cbv;refine⟨_,rfl,_,_,rfl,rfl,_,rfl,?_⟩;rw[if_pos (decide_eq_true h0)];have cp:acX 1 63:=⟨by decide,by decide,by decide⟩;cbv;rw[decide_eq_true (show w<1*2^(62+ 1:Int).toNat by rw[show(1:Int)*2^(62+ 1:Int).toNat=9223372036854775808 by decide +kernel];exact h1)];exact kk
noncomputable def newS(me ha nu ro:Int):Hs:=if gU ha me=true then Pb ⟨me,ro,nu,Yb,Yb,[],0,0,false,false⟩ nu (0,ha,ha)else⟨me,ro,nu,Yb,Yb,[],0,0,false,false⟩
def wH(K:Ye)(mg:Yj->Option Yd):Sp:=λvs H Q _=>E5 fun(p:Yc) (me ha nu ro:Int)=>vs=[.ref p,.int me,.int ha,.int nu,.int ro]/\(E2 λC dx=>A8 (mg "Hand"=Ya (.ref C)) (Qn K C) (H p=Ya (.ins C dx [])) (0<=me) (me<63) (0<ha) (ha<9223372036854775808) (∀H' G x,(∀b o,H b=Ya o->b≠p->H' b=Ya o)->jA K mg H' G p (newS me ha nu ro) x->Gr (λa=>a=p) H G->Q .non H'))
abbrev Kg:List Yj:=["self","me","hands","number","room"]
theorem JV:aD ["self","me","hands","number","room"] Kg (aA oZ):=gF
variable{QR:Yc}{U5:Yc}{Mz:Yt}{Rn:Yt}(QH:∅ 8 QR Mz pH (M6 K))(QM:gW K mg "is_hand" QR Mz pH)(Wx:∅ 8 U5 Rn pH (RB K))(Xx:gW K mg "is_set" U5 Rn pH)
include eV rm z9 jk ji QH QM Wx Xx aJ aY cY in
theorem JW{t1:l7}(F:Jo K "__init__" "Hand.__init__" oZ f fd [.int 1 t0,.int 8 t1]):∅ 9 f fd Kg (wH K mg):=by
 refine F.ok JV (λvs H Q E h=>?_) (λcdv A outer s H vs Q E hr h=>?_)
 ·obtain⟨p,me,ha,nu,ro,rfl,_⟩:=h;rfl
 obtain⟨p,me,ha,nu,ro,rfl,h⟩:=h;have hu64:=hr.units;have hu0:=hr.units0;have hu:=Ot hr;refine⟨_,(ak (cF (Bh (cT K rfl (bh QH QM hr (aj (pv 1) ao)))) (aq cz) bG)
   (ak (cF (PW.pt (Ka (Bh (cT K rfl (bh Wx Xx hr (aj (pv 2) ao)))) (Fz (aX yP (pv 2) aC (bc _))))) (aq cz) bG)
   (ak (aQ (K:=K) rfl (pv 0) (pv 1) rfl)
   (ak (aQ (K:=K) rfl (pv 0) (pv 4) rfl)
   (ak (aQ (K:=K) rfl (pv 0) (pv 3) rfl)
   (ak (aQ (K:=K) rfl (pv 0) bV rfl)
   (ak (aQ (K:=K) rfl (pv 0) bV rfl)
   (ak (aQ (K:=K) rfl (pv 0) bV rfl)
   (ak (aQ (K:=K) rfl (pv 0) bV rfl)
   (ak (aQ (K:=K) rfl (pv 0) (eY ao) rfl)
   (ak (aQ (K:=K) rfl (pv 0) (eU ao) rfl)
   (ak (aQ (K:=K) rfl (pv 0) (eU ao) rfl)
   (ak (aQ (K:=K) rfl (pv 0) aC rfl)
   (ak (aQ (K:=K) rfl (pv 0) aC rfl)
   (ak (aQ (K:=K) rfl (pv 0) qQ rfl)
   (ak (aQ (K:=K) rfl (pv 0) qQ rfl)
   (aq (cF (cT K rfl (bh rm z9 hr (aj (pv 2) (aj (pv 1) ao)))) (aq (bT (bD (cH.cons aJ.cl cY jk ji cH.nil) (pv 0) hr (aj (pv 3) (aj (eY (aj aC (aj (pv 2) (aj (pv 2) (aj (eY ao) ao))))) ao))))) bG)))))))))))))))))),?_⟩
 refine ane ?_;intro _ _ _ _ _ _ _ _ _ _ _ _ _ _ _;obtain⟨C,dx,mH,T,hp,m0,m1,a0,a1,kk⟩:=h;have eC:=mH;rw[aY]at eC;cases eC;obtain⟨cl,n1,n2,n3,n4,n5,n6,n7,n8,n9,n10,n11,n12,n13,n14⟩:=id T;cbv;refine⟨me,rfl,m0,m1,?_⟩;cbv;refine⟨ha,rfl,by omega,a1,?_⟩;cbv;refine d9 (λz=>absurd (of_decide_eq_true z) (by omega)) λ_=>?_;cbv;intro H1 b1 g1;cbv;intro H2 b2 g2;cbv;intro H3 b3 g3;cbv;intro H4 b4 g4;cbv;intro H5 b5 g5;cbv;intro H6 b6 g6;cbv;intro H7 b7 g7;have k7:∀b o,H b=Ya o->b≠p->H7 b=Ya o:=λb o e n=>b7.at n (b6.at n (b5.at n (b4.at n (b3.at n (b2.at n (b1.at n e))))));cbv;intro pa A1 hpa s1 gpa;have g7':=s1 _ _ g7;cbv;intro H8 b8 g8;cbv;intro lg A2 hlg s2 glg;have g8':=s2 _ _ g8;cbv;intro H9 b9 g9;cbv;intro lo A3 hlo s3 glo;have g9':=s3 _ _ g9;cbv;intro H10 b10 g10;cbv;intro H11 b11 g11;cbv;intro H12 b12 g12;cbv;intro H13 b13 g13;cbv;intro H14 b14 g14;rw[ahL]at g14;have np:∀{a:Yc} {A:Hp} {u:HO},A p=Ya u->A a=Yb->a≠p:=λe n z=>by rw[z]at n;rw[n]at e;cases e
 have npa:=np g7 hpa;have nlg:=np g8 hlg;have nlo:=np g9 hlo;have k10:∀b o,H10 b=Ya o->b≠p->H14 b=Ya o:=λb o e n=>b14.at n (b13.at n (b12.at n (b11.at n e)));have k9:∀b o,H9 b=Ya o->b≠p->H14 b=Ya o:=λb o e n=>k10 _ _ (b10.at n (s3 _ _ e)) n;have k8:∀b o,H8 b=Ya o->b≠p->H14 b=Ya o:=λb o e n=>k9 _ _ (b9.at n (s2 _ _ e)) n;have kA:∀b o,H7 b=Ya o->b≠p->H14 b=Ya o:=λb o e n=>k8 _ _ (b8.at n (s1 _ _ e)) n;have k0:∀b o,H b=Ya o->b≠p->H14 b=Ya o:=λb o e n=>kA _ _ (k7 b o e n) n;have fr:∀{a:Yc} {A:Hp},(∀b u,H b=Ya u->b≠p->A b=Ya u)->a≠p->A a=Yb->H a=none:=fun{a A} kA n e=>by
  cases z:H a with
  |none=>rfl
  |some u=>rw[kA a u z n]at e;cases e
 have fpa:=fr k7 npa hpa;have flg:=fr (λb u e n=>b8.at n (s1 _ _ (k7 b u e n))) nlg hlg;have flo:=fr (λb u e n=>b9.at n (s2 _ _ (b8.at n (s1 _ _ (k7 b u e n))))) nlo hlo;have gpa14:=k8 _ _ (b8.at npa gpa) npa;have glg14:=k9 _ _ (b9.at nlg glg) nlg;have glo14:=k10 _ _ (b10.at nlo glo) nlo;have HA:jA K mg H14 (λa=>a=p∨a=lg∨a=lo) p ⟨me,ro,nu,Yb,Yb,[],0,0,false,false⟩ ⟨bB,dx,.non,.non,.non,.non,pa,lg,lo,[],λ_=>False⟩:=by
  refine⟨mH,T,g14,gpa14,glg14,.nil,glo14,(λz=>by have z:lg=lo:=z;rw[←z,b9.at nlg glg]at hlo;cases hlo),rfl,(λq z=>nomatch z),⟨rfl,rfl,rfl⟩,.inl rfl,.inr (.inl rfl),.inr (.inr rfl),⟨λz=>z,λz=>z,λz=>z⟩,λa z=>?_,m0,m1,fF _,⟨fF _,by show(0:Int)<9223372036854775808;decide⟩⟩;rcases z with rfl|rfl|rfl
  ·rw[g14];intro z;cases z
  ·rw[glg14];intro z;cases z
  ·rw[glo14];intro z;cases z
 have gr:Gr (λa=>a=p) H (λa=>a=p∨a=lg∨a=lo):=λa z=>by
  rcases z with rfl|rfl|rfl
  ·exact .inl rfl
  ·exact .inr flg
  ·exact .inr flo
 cbv;refine⟨ha,me,rfl,by omega,m0,by omega,?_⟩;cbv;refine d9 (λz=>?_) λz=>?_
 ·have z:gU ha me=true:=z;cbv;intro te B1 hte sB1 gte;cbv;intro tp B2 htp sB2 gtp;have HB:=HA.same (sB1.trans sB2);cbv;refine⟨p,nu,.ref tp,rfl,_,_,_,(0,ha,ha),HB,⟨tp,te,rfl,gtp,sB2 _ _ gte⟩,⟨⟨fF _,by show(0:Int)<9223372036854775808;decide⟩,⟨by show 0<=ha;omega,a1⟩,⟨by show 0<=ha;omega,a1⟩,λi hi=>hi⟩,z,YZ _,λH' G x o HC g2=>?_⟩;have e:newS me ha nu ro=Pb ⟨me,ro,nu,Yb,Yb,[],0,0,false,false⟩ nu (0,ha,ha):=if_pos z;have sB:=sB1.trans sB2;have nf:∀{b u},H b=Ya u->b≠p->¬ (b=p∨b=lg∨b=lo):=fun{b u} e n y=>by
   rcases y with y|y|y
   ·exact n y
   ·rw[y,flg]at e;cases e
   ·rw[y,flo]at e;cases e
  refine kk H' G x (λb u e n=>o.of _ _ (sB _ _ (k0 b u e n)) (nf e n)) (by rw[e];exact HC) λa ga=>?_;rcases g2 a ga with y|y
  ·exact gr a y
  ·by_cases y2:a=p
   ·exact .inl y2
   ·exact .inr (fr k0 y2 (sB.free y))
 ·have z:gU ha me=false:=dS.mpr z;have e:newS me ha nu ro=⟨me,ro,nu,Yb,Yb,[],0,0,false,false⟩:=if_neg (by rw[z];intro z;cases z);exact kk H14 _ _ k0 (by rw[e];exact HA) gr
structure WE where
 p:Yc
 S:Hs
 F:Yc->Prop
 x:Lj
variable{p:Yc}{F:Yc->Prop}{S:Hs}{x:Lj}{W:List WE}
structure Wd(K:Ye)(mg:Yj->Option Yd)(Pt:Yc)(H:Hp)(W:List WE)(ls:List (Yc×HO)):Prop where
 hd:∀(i:Nat) (w:WE),W[i]?=Ya w->jA K mg H w.F w.p w.S w.x
 dj:∀(i j:Nat) (u v:WE),W[i]?=Ya u->W[j]?=Ya v->i≠j->∀a,u.F a->¬ v.F a
 nP:∀(i:Nat) (w:WE),W[i]?=Ya w->¬ w.F Pt
 tb:eX Pt H
 ls:∀e∈ls,H e.1=Ya e.2/\e.1≠Pt/\∀(i:Nat) (w:WE),W[i]?=Ya w->¬ w.F e.1
variable{ls:List (Yc×HO)}
section
theorem Wd.same(D:Wd K mg Pt H W ls)(s:aO H H'):Wd K mg Pt H' W ls:=⟨λi w h=>(D.hd i w h).same s,D.dj,D.nP,eX.off D.tb (Off.sm (F:=λ_=>False) s) λz=>z,λe he=>⟨s _ _ (D.ls e he).1,(D.ls e he).2⟩⟩
theorem Wd.add(D:Wd K mg Pt H W ls)(s:aO H H'){o:HO}(hl:H l=Yb)(g:H' l=Ya o):Wd K mg Pt H' W ((l,o)::ls):=by
 refine⟨(D.same s).hd,D.dj,D.nP,(D.same s).tb,λe he=>?_⟩;rcases YC.mp he with rfl|z
 ·refine⟨g,λy=>?_,λi w h f=>(D.hd i w h).dm _ f hl⟩;have y:l=Pt:=y;obtain⟨ps,q⟩:=eX.some D.tb;rw[←y,hl]at q;cases q
 ·exact(D.same s).ls e z
theorem Wd.less(D:Wd K mg Pt H W ls)(m:∀e∈ls',e∈ls):Wd K mg Pt H W ls':=⟨D.hd,D.dj,D.nP,D.tb,λe he=>D.ls e (m e he)⟩
theorem m6{w u:WE}(h:(W.set i w)[j]?=Ya u):(j=i/\u=w)∨(j≠i/\W[j]?=Ya u):=by
 rw[EI]at h;by_cases z:i=j
 ·rw[if_pos z]at h;split at h
  ·exact .inl ⟨z.symm,(YL h).symm⟩
  ·cases h
 ·rw[if_neg z]at h;exact .inr ⟨λy=>z y.symm,h⟩
theorem Wd.step(D:Wd K mg Pt H W ls){w:WE}(h:W[i]?=Ya w)(r:Rs K mg Pt w.F H w.p S' H'):∃G x',Wd K mg Pt H' (W.set i ⟨w.p,S',G,x'⟩) ls:=by
 obtain⟨o,t,G,x',hA,gr⟩:=r;have nG:∀(j:Nat) (u:WE),W[j]?=Ya u->j≠i->∀a,u.F a->¬ G a:=λj u hu n a f g=>(gr a g).elim (λz=>D.dj j i u w hu h n a f z) λz=>(D.hd j u hu).dm a f z;have nPG:¬ G Pt:=Qq D.tb (D.nP i w h) gr;refine⟨G,x',λj u hu=>?_,λj k u v hu hv n a f=>?_,λj u hu=>?_,t,λe he=>?_⟩
 ·rcases m6 hu with⟨_,rfl⟩|⟨n,hu⟩
  ·exact hA
  ·exact(D.hd j u hu).off o λa f z=>z.elim (λy=>D.dj j i u w hu h n a f y) λy=>D.nP j u hu (y▸f)
 ·rcases m6 hu with⟨e1,rfl⟩|⟨n1,hu⟩
  ·rcases m6 hv with⟨e2,rfl⟩|⟨n2,hv⟩
   ·exact absurd (e1.trans e2.symm) n
   ·exact λy=>nG k v hv n2 a y f
  ·rcases m6 hv with⟨e2,rfl⟩|⟨n2,hv⟩
   ·exact nG j u hu n1 a f
   ·exact D.dj j k u v hu hv n a f
 ·rcases m6 hu with⟨_,rfl⟩|⟨_,hu⟩
  ·exact nPG
  ·exact D.nP j u hu
 ·obtain⟨q1,q2,q3⟩:=D.ls e he;refine⟨o.of _ _ q1 (λz=>z.elim (q3 i w h) q2),q2,λj u hu=>?_⟩;rcases m6 hu with⟨_,rfl⟩|⟨_,hu⟩
  ·exact λy=>(gr _ y).elim (q3 i w h) λz=>by rw[q1]at z;cases z
  ·exact q3 j u hu
end
theorem ab3(h:jA K mg H F p S x):WfT (oX S):=by
 have st:=h.st;unfold oX;cases es:S.st with
 |none=>exact⟨⟨h.m0,h.m1⟩,h.wp⟩
 |some q=>
  rw[es]at st;obtain⟨pg,y,ch,rd,q1,q2,P,C,pn,w,wp,_⟩:=st;exact⟨h.m0,h.m1,wp,w.y,C.sv.1,λz=>by unfold T8 at z⊢;dsimp only at z⊢;rw[if_neg z];intro z;cases z⟩
theorem Q0(h:jA K mg H F p S x)(k:∀H' t,aO H H'->alq H' t (oX S)->Q (.ref t) H'):iV K mg [.ref p,.int 0,.non] H Q E0:=by
 refine⟨p,rfl,F,S,x,h,λes H' t s la=>k H' t s ?_,λq es H' t s la _=>k H' t s ?_⟩
 ·unfold oX;rw[es];exact la
 ·unfold oX;rw[es];exact la
noncomputable def evD:Ev->cx
 | .lst n h o w=>.tuple [.str "list",.int n,.int h,.int o,.int w]
 | .out n=>.tuple [.str "out",.int n]
theorem alC{v:V}{e:Ev}(h:EvA H v e):Dp K H v (evD e):=by
 cases e with
 |lst n h o w=>obtain⟨t,rfl,g⟩:=h;exact .tup (cN.of g) (.cons (.str _) (.cons (.int _) (.cons (.int _) (.cons (.int _) (.cons (.int _) .nil)))))
 |out n=>obtain⟨t,rfl,g⟩:=h;exact .tup (cN.of g) (.cons (.str _) (.cons (.int _) .nil))
theorem aa7{H:Hp}:∀{xs:List V} {es:List Ev},J1 H xs es->Dps K H xs (es.map evD)
 |_,_,.nil=>.nil
 |_,_,.cons h t=>.cons (alC h) (aa7 t)
theorem afD:(FX "list").canLay0=true:=by decide +kernel
theorem ahs:(FX "out").canLay0=true:=by decide +kernel
theorem akA(e:Ev):(evD e).canLay0=true:=by
 cases e with
 |lst n h o w=>exact aaK (by rw[mS,afD];rfl)
 |out n=>exact aaK (by rw[mS,ahs];rfl)
theorem S8:∀es:List Ev,nh (es.map evD)=true
 |[]=>rfl
 |e::es=>by rw[YQ,mS,akA,S8 es];rfl
noncomputable def S7(nu ha me:Int)(c:Cg)(db:Int):Hs:=⟨me,8,nu,Ya (nu,ha,c,(0,ha,ha)),Yb,[.lst nu ha 0 ha],db,0,false,false⟩
noncomputable def E7(nu ha:Int)(pl:Pn)(me db:Int):Hs:=⟨me,8,nu+ 1,Ya (nu+ 1,pl.2.1,RK,pl),Yb,[.lst nu ha 0 ha,.lst (nu+ 1) pl.2.1 pl.1 pl.2.2],db,0,false,false⟩
theorem afT(m0:0<=m):Yz 0 (Yw m)=0:=by
 rw[M5 (fF 0) m0];show((0-(0 &&& m.toNat):Nat):Int)=0;rw[Nat.zero_sub];rfl
theorem Oj(n:Int):mxI n n=n:=by unfold mxI;split<;>rfl
theorem aec(n:Int):mxI n (n+ 1)=n+ 1:=by unfold mxI;rw[if_pos (by omega)]
theorem ajC(n:Int):mxI (n+ 1) n=n+ 1:=by unfold mxI;rw[if_neg (by omega)]
section
variable{me:Int}
theorem ai8(a0:0<=ha)(h:gU ha me=true):newS me ha nu 8=S7 nu ha me RK 0:=by
 unfold newS;rw[if_pos h];unfold Pb S7;simp only[Oj,afT a0,List.nil_append]
theorem aaX(d0:0<=db)(f:kZ me ha db c=false)(ag:c.ag=Yb):yW (S7 nu ha me c db)=S7 nu ha me c db:=by
 have e:JH me ha db (Yz 0 (Yw db)) c=c:=by unfold JH;rw[f];rfl
 show(match(JH me ha db (Yz 0 (Yw db)) c).ag with
  |none=>_
  |some pl=>_)=_
 rw[e,ag];show({S7 nu ha me c db with st:=Ya (nu,ha,JH me ha db (Yz 0 (Yw db)) c,(0,ha,ha))}:Hs)=_;rw[e];rfl
theorem ai6(f:eno ha 0 [me]=false):Uz (S7 nu ha me RK 0) m=S7 nu ha me ⟨Ya (m,me),Yb,0,Yb,[(me,(me,false),Yb)]⟩ 0:=by
 have e:Uz (S7 nu ha me RK 0) m=yW (S7 nu ha me ⟨Ya (0+ m,me),Yb,0,Yb,[(me,(me,false),Yb)]⟩ 0):=rfl;rw[e,Dx];refine aaX (fF _) ?_ rfl;unfold kZ;show(_&&eno ha 0 [me])=false;rw[f,i9]
theorem akH(h0:0<=h)(f:kZ me ha (Yz h (Yw (2^me.toNat))) c=false)(ag:c.ag=Yb):Qg (S7 nu ha me c db) h=S7 nu ha me c (Yz h (Yw (2^me.toNat))):=
 aaX (ug h0 (iw _)).1 f ag
theorem agM(h0:0<=h)(f:kZ me ha (Yz h (Yw (2^me.toNat))) c=true)(ag:c.ag=Yb)(g:gOf c.rp=Yb)(hf:CN (2^me.toNat) ha=false)(eb:c.b=Ya b):
  Qg (S7 nu ha me c db) h=S7 nu ha me ⟨Ya b,Ya (b,plR me ha c.rp 0),2^me.toNat,Yb,c.rp⟩ (Yz h (Yw (2^me.toNat))):=by
 have d0:=(ug h0 (iw me.toNat)).1;have es:Qg (S7 nu ha me c db) h=yW (S7 nu ha me c (Yz h (Yw (2^me.toNat)))):=rfl;rw[es];generalize Yz h (Yw (2^me.toNat))=d at f d0;have e:JH me ha d (Yz 0 (Yw d)) c=⟨Ya b,Ya (b,plR me ha c.rp 0),2^me.toNat,Yb,c.rp⟩:=by
  unfold JH;rw[f,if_pos rfl,afT d0];unfold PL;rw[g,eb,ag];show Cg.mk _ _ _ (if CN (2^me.toNat) ha=true then _ else Yb) _=_;rw[hf];rfl
 show(match(JH me ha d (Yz 0 (Yw d)) c).ag with
  |none=>_
  |some pl=>_)=_
 rw[e];show({S7 nu ha me c d with st:=Ya (nu,ha,JH me ha d (Yz 0 (Yw d)) c,(0,ha,ha))}:Hs)=_;rw[e];rfl
noncomputable def L7(nu ha me:Int)(c:Cg):Lt:=⟨me,nu,(0,ha,ha),c.b,c.y,c.vo,if c.b=Yb then Yb else Ya false⟩
theorem abT{c':Cg}(ne:me'≠me):pB (S7 nu ha me c db) (oX (S7 nu ha me' c' db'))={yW (S7 nu ha me (kh me ha c (L7 nu ha me' c')) db)with nw:=mxI (yW (S7 nu ha me (kh me ha c (L7 nu ha me' c')) db)).nw nu}:=by
 have e:pB (S7 nu ha me c db) (oX (S7 nu ha me' c' db'))=(if me'=me then S7 nu ha me c db else PX (S7 nu ha me c db) (L7 nu ha me' c')):=rfl;rw[e,if_neg ne];have e1:h1S (S7 nu ha me c db) nu=S7 nu ha me c db:=by
  show(if nu<nu-1 then _ else _)=_;rw[if_neg (by omega)]
 have e2:h2S (S7 nu ha me c db) (L7 nu ha me' c')=S7 nu ha me c db:=by
  show(if nu=nu-1 then _ else _)=_;rw[if_neg (by omega)]
 have e3:h3S (S7 nu ha me c db) (L7 nu ha me' c')=yW (S7 nu ha me (kh me ha c (L7 nu ha me' c')) db):=by
  show(if nu=nu then _ else _)=_;rw[if_pos rfl];rfl
 unfold PX;rw[show(L7 nu ha me' c').nu=nu from rfl,e1,e2,e3]
theorem Al{c':Cg}(ne:me'≠me)(d0:0<=db)(f:kZ me ha db (kh me ha c (L7 nu ha me' c'))=false)(ag:(kh me ha c (L7 nu ha me' c')).ag=Yb):pB (S7 nu ha me c db) (oX (S7 nu ha me' c' db'))=S7 nu ha me (kh me ha c (L7 nu ha me' c')) db:=by
 rw[abT ne,aaX d0 f ag];show({S7 nu ha me _ db with nw:=mxI nu nu}:Hs)=_;rw[Oj];rfl
theorem agm{c':Cg}(ne:me'≠me)(f:kZ me ha db (kh me ha c (L7 nu ha me' c'))=false)(ag:(kh me ha c (L7 nu ha me' c')).ag=Ya pl)(w:O6 pl)(h1:gU pl.1 me=true)(h2:gU pl.2.1 me=true):pB (S7 nu ha me c db) (oX (S7 nu ha me' c' db'))=E7 nu ha pl me db:=by
 rw[abT ne];generalize kh me ha c (L7 nu ha me' c')=c1 at f ag;have e:JH me ha db (Yz 0 (Yw db)) c1=c1:=by unfold JH;rw[f];rfl
 have es:yW (S7 nu ha me c1 db)=O8 (S7 nu ha me c1 db) nu pl:=by
  show(match(JH me ha db (Yz 0 (Yw db)) c1).ag with
   |none=>_
   |some pl=>O8 {S7 nu ha me c1 db with st:=Ya (nu,ha,JH me ha db (Yz 0 (Yw db)) c1,(0,ha,ha))} nu pl)=_
  rw[e,ag];rfl
 have eg:O8 (S7 nu ha me c1 db) nu pl=E7 nu ha pl me db:=by
  unfold O8;rw[if_pos (by show(gU pl.1 me&&gU pl.2.1 me)=true;rw[h1,h2];rfl)];show({S7 nu ha me c1 db with nw:=mxI nu (nu+ 1),st:=Ya (nu+ 1,pl.2.1,RK,pl),wb:=Yb,nt:=Yz 0 (Yw pl.2.1),wi:=false,lg:=_}:Hs)=_;rw[aec,afT w.2.1.1];rfl
 rw[es,eg];show({E7 nu ha pl me db with nw:=mxI (nu+ 1) nu}:Hs)=_;rw[ajC];rfl
theorem ahy(ne:me'≠me)(d0:0<=db)(w:O6 pl)(h1:gU pl.1 me=true)(h2:gU pl.2.1 me=true):pB (S7 nu ha me c db) (oX (E7 nu ha pl me' db'))=E7 nu ha pl me db:=by
 obtain⟨l,hl⟩:∃l:Lt,l=⟨me',nu+ 1,pl,Yb,Yb,0,Yb⟩:=⟨_,rfl⟩;have e:pB (S7 nu ha me c db) (oX (E7 nu ha pl me' db'))=(if me'=me then S7 nu ha me c db else PX (S7 nu ha me c db) l):=by rw[hl];rfl
 rw[e,if_neg ne];have ln:l.nu=nu+ 1:=by rw[hl]
 have e1:h1S (S7 nu ha me c db) (nu+ 1)=S7 nu ha me c db:=by
  show(if nu<nu+ 1-1 then _ else _)=_;rw[if_neg (by omega)]
 have e2:h2S (S7 nu ha me c db) l=E7 nu ha pl me db:=by
  show(if nu=l.nu-1 then O8 (S7 nu ha me c db) nu l.cb else _)=_;rw[if_pos (by omega),show l.cb=pl by rw[hl]];unfold O8;rw[if_pos (by show(gU pl.1 me&&gU pl.2.1 me)=true;rw[h1,h2];rfl)];show({S7 nu ha me c db with nw:=mxI nu (nu+ 1),st:=Ya (nu+ 1,pl.2.1,RK,pl),wb:=Yb,nt:=Yz 0 (Yw pl.2.1),wi:=false,lg:=_}:Hs)=_;rw[aec,afT w.2.1.1];rfl
 have e3:h3S (E7 nu ha pl me db) l=E7 nu ha pl me db:=by
  show(if nu+ 1=l.nu then Xm (E7 nu ha pl me db) l else _)=_;rw[if_pos ln.symm];have ec:kh me pl.2.1 RK l=RK:=by
   rw[hl];show Cg.mk Yb Yb 0 (vf Yb Yb 0 pl.2.1) (if Yb=(Yb:Option (Int×Int))/\Lz Yb Yb me=true then _ else[])=RK;rw[if_neg (λz=>nomatch z.2),show vf Yb Yb 0 pl.2.1=Yb by show(if CN 0 pl.2.1=true then Yb else Yb)=Yb;split<;>rfl];rfl
  show yW {E7 nu ha pl me db with st:=Ya (nu+ 1,pl.2.1,kh me pl.2.1 RK l,pl)}=_;rw[ec];rfl
 unfold PX;rw[ln,e1,e2,e3];show({E7 nu ha pl me db with nw:=mxI (nu+ 1) (nu+ 1)}:Hs)=_;rw[Oj];rfl
end
theorem Va(q:Int×Int):bgt (Ya q) (Ya q)=false:=by
 show HT.eE [q.1,q.2] [q.1,q.2]=_;rw[HT.jU,HT.jU,HT.uH];simp
theorem IW(b:Int×Int):pF (Ya b) (Ya b)=Ya b:=by unfold pF;split<;>rfl
theorem HW(b:Int×Int)(rp:List (Int×Rt×qb)):gtR (Ya b) (Ya b) rp=rp:=by unfold gtR;rw[Va];rfl
noncomputable def cR(b:Int×Int):Cg:=⟨Ya b,Yb,0,Yb,[]⟩
theorem Uc(vo hd:Int):vf Yb Yb vo hd=none:=by
 show(if CN vo hd=true then Yb else Yb)=Yb;split<;>rfl
section
variable{o r:Int}
theorem Ub(hb:b.2=o)(ne:r≠o):Lz (Ya b) y r=false:=by
 show(decide (b.2=r)&&_)=false;rw[decide_eq_false (by rw[hb];exact λz=>ne z.symm),fe]
theorem al2(hb:b.2=o)(ne:r≠o)(eb:c.b=Ya b)(ey:c.y=Yb):kh r ha RK (L7 nu ha o c)=cR b:=by
 unfold kh L7;rw[eb,ey];show Cg.mk (Ya b) Yb 0 (vf Yb Yb 0 ha) (if Ya b=Ya b/\Lz (Ya b) Yb r=true then _ else[])=cR b;rw[Uc,if_neg (λz=>by rw[Ub hb ne]at z;exact absurd z.2 (by decide))];rfl
theorem amJ(hb:b.2=o)(ne:r≠o)(eb:c.b=Ya b)(ey:c.y=Yb):kh r ha (cR b) (L7 nu ha o c)=cR b:=by
 unfold kh L7;rw[eb,ey];show Cg.mk (pF (Ya b) (Ya b)) Yb 0 (vf Yb Yb 0 ha) (if Ya b=pF (Ya b) (Ya b)/\Lz (pF (Ya b) (Ya b)) Yb r=true then _ else gtR (Ya b) (Ya b) [])=cR b;rw[Uc,IW,if_neg (λz=>by rw[Ub hb ne]at z;exact absurd z.2 (by decide)),HW];rfl
theorem amH(hb:b.2=o):kh o ha ⟨Ya b,Yb,0,Yb,rp⟩ (L7 nu ha r (cR b))=⟨Ya b,Yb,0,Yb,O5 rp r ((r,false),Yb)⟩:=by
 unfold kh L7 cR;show Cg.mk (pF (Ya b) (Ya b)) Yb 0 (vf Yb Yb 0 ha) (if Ya b=pF (Ya b) (Ya b)/\Lz (pF (Ya b) (Ya b)) Yb o=true then O5 (gtR (Ya b) (Ya b) rp) r ((r,false),Yb)else _)=_;rw[Uc,IW,if_pos ⟨rfl,by show(decide (b.2=o)&&true)=true;rw[decide_eq_true hb];rfl⟩,HW]
theorem amO{V:Int}(hb:b.2=o)(ne:r≠o):kh r ha (cR b) (L7 nu ha o ⟨Ya b,Ya (b,pl),V,Yb,rp⟩)=⟨Ya b,Ya (b,pl),YD V (2^r.toNat),if CN (YD V (2^r.toNat)) ha=true then Ya pl else Yb,[]⟩:=by
 have e:jw (Ya b) Yb 0 (Ya (b,pl)) V r=(Ya (b,pl),YD V (2^r.toNat)):=if_pos ⟨rfl,rfl⟩;unfold kh L7 cR;show Cg.mk (pF (Ya b) (Ya b)) (jw (pF (Ya b) (Ya b)) Yb 0 (Ya (b,pl)) V r).1 (jw (pF (Ya b) (Ya b)) Yb 0 (Ya (b,pl)) V r).2 (vf Yb (jw (pF (Ya b) (Ya b)) Yb 0 (Ya (b,pl)) V r).1 (jw (pF (Ya b) (Ya b)) Yb 0 (Ya (b,pl)) V r).2 ha) (if Ya b=pF (Ya b) (Ya b)/\Lz (pF (Ya b) (Ya b)) (jw (pF (Ya b) (Ya b)) Yb 0 (Ya (b,pl)) V r).1 r=true then _ else gtR (Ya b) (Ya b) [])=_;rw[IW,e,if_neg (λz=>by rw[Ub hb ne]at z;exact absurd z.2 (by decide)),HW];rfl
theorem amD{V V':Int}(hb:b.2=o):kh o ha ⟨Ya b,Ya (b,pl),V,Yb,rp⟩ (L7 nu ha r ⟨Ya b,Ya (b,pl),V',Yb,[]⟩)=⟨Ya b,Ya (b,pl),YD V V',if CN (YD V V') ha=true then Ya pl else Yb,rp⟩:=by
 have e:jw (Ya b) (Ya (b,pl)) V (Ya (b,pl)) V' o=(Ya (b,pl),YD V V'):=by
  show(if Ya b=Ya b/\bgt (Ya b) (Ya b)=true then _ else if Ya b=Ya b then _ else _)=_;rw[if_neg (λz=>by rw[Va]at z;exact absurd z.2 (by decide)),if_pos rfl]
 unfold kh L7;show Cg.mk (pF (Ya b) (Ya b)) (jw (pF (Ya b) (Ya b)) (Ya (b,pl)) V (Ya (b,pl)) V' o).1 (jw (pF (Ya b) (Ya b)) (Ya (b,pl)) V (Ya (b,pl)) V' o).2 (vf Yb (jw (pF (Ya b) (Ya b)) (Ya (b,pl)) V (Ya (b,pl)) V' o).1 (jw (pF (Ya b) (Ya b)) (Ya (b,pl)) V (Ya (b,pl)) V' o).2 ha) (if Ya b=pF (Ya b) (Ya b)/\Lz (pF (Ya b) (Ya b)) (jw (pF (Ya b) (Ya b)) (Ya (b,pl)) V (Ya (b,pl)) V' o).1 o=true then _ else gtR (Ya b) (Ya b) rp)=_;have eg:Lz (Ya b) (Ya (b,pl)) o=false:=by
  show(decide (b.2=o)&& !decide (Ya b=Ya b))=false;rw[decide_eq_true rfl,HG,i9]
 rw[IW,e,if_neg (λz=>by rw[eg]at z;exact absurd z.2 (by decide)),HW];rfl
theorem Hq(hb:b.2=o)(ne:r≠o):kZ r ha db ⟨Ya b,y,vo,ag,rp⟩=false:=by
 unfold kZ;show(Lz (Ya b) y r&&_)=false;rw[Ub hb ne,fe]
theorem ahd:kZ o ha db ⟨Ya b,Ya (b,pl),vo,ag,rp⟩=false:=by
 unfold kZ;show((decide (b.2=o)&& !decide (Ya b=Ya b))&&_)=false;rw[decide_eq_true rfl,HG,i9,fe]
theorem Sv(hb:b.2=o):kZ o ha db ⟨Ya b,Yb,vo,ag,rp⟩=eno ha db (rp.map (·.1)):=by
 unfold kZ;show((decide (b.2=o)&&true)&&_)=_;rw[decide_eq_true hb];rfl
end
noncomputable def KC(ks:List Int):List (Int×Rt×qb):=ks.map λr=>(r,(r,false),Yb)
theorem Io(ks:List Int):(KC ks).map (·.1)=ks:=by
 unfold KC;rw[iA];exact List.map_id' ks
theorem acf:∀{ks:List Int} {r:Int},r∉ks->O5 (KC ks) r ((r,false),Yb)=KC (ks++[r])
 |[],r,_=>rfl
 |k::ks,r,h=>by
  rw[YC]at h;show(if k=r then _ else(k,(k,false),Yb)::O5 (KC ks) r ((r,false),Yb))=(k,(k,false),Yb)::KC (ks++[r]);rw[if_neg (λz=>h (.inl z.symm)),acf λz=>h (.inr z)]
theorem aiN:∀ks:List Int,gOf (KC ks)=Yb
 |[]=>rfl
 |_::ks=>aiN ks
theorem J0(h:∀x∈ns,0<=x/\x<63):fH (Et ns) ns:=by
 obtain⟨h0,h1⟩:=Ol h;refine⟨h0,h1,λi=>?_⟩;unfold Et;rw[YA,Cy,cE,iX,eR];constructor
 ·rintro⟨x,hx,e⟩;have e:=of_decide_eq_true e;have:=(h x hx).1;rwa [show(i:Int)=x by omega]
 ·intro hi;exact⟨_,hi,decide_eq_true (YA i)⟩
theorem zX{a b:Int}(x:fH a ns)(y:fH b ms):fH (YD a b) (ns++ms):=by
 obtain⟨o0,o1⟩:=WX x.1 x.2.1 y.1 y.2.1;refine⟨o0,o1,λi=>?_⟩;rw[Nx x.1 y.1,YA,rj,zD,x.2.2,y.2.2,ai]
theorem qG(h0:0<=h)(h1:h<63):fH (2^h.toNat) [h]:=by
 obtain⟨b0,b1⟩:=Ul h0 h1;refine⟨b0,b1,λi=>?_⟩;rw[show((2:Int)^h.toNat).toNat=2^h.toNat by rw[show(2:Int)^h.toNat=((2^h.toNat:Nat):Int)from(z5 2 h.toNat).symm,YA],l5,decide_eq_true_iff,Yy];omega
theorem Ce{a:Int}(x:fH a ns)(h:∀z,z∈ns↔z∈ms):fH a ms:=⟨x.1,x.2.1,λi=>by rw[x.2.2 i,h]⟩
section
theorem aeW(hl:GB.hl ha=hs)(a0:0<=ha)(nd:hs.Nodup)(nk:ks.Nodup)(sb:∀k∈ks,k∈hs)(s:fH v ks):CN v ha=decide (2*ks.length>hs.length):=by
 rw[WW a0 s,hl];have:(hs.filter λh=>decide (h∈ks)).length=ks.length:=by
  refine(List.Perm.length_eq ((kF (nd.filter _) nk).mpr λa=>?_));rw[cc,decide_eq_true_iff];exact⟨λz=>z.2,λz=>⟨sb a z,z⟩⟩
 rw[this]
theorem aiA(hl:GB.hl ha=hs)(nd:hs.Nodup)(nk:ks.Nodup)(sb:∀k∈ks,k∈hs)(dd:Int):eno ha dd ks=(decide (∀h∈hs,dd.toNat.testBit h.toNat=true∨h∈ks)&&decide (2*ks.length>hs.length)):=by
 unfold eno;rw[hl];have:(hs.filter λh=>decide (h∈ks)).length=ks.length:=by
  refine(List.Perm.length_eq ((kF (nd.filter _) nk).mpr λa=>?_));rw[cc,decide_eq_true_iff];exact⟨λz=>z.2,λz=>⟨sb a z,z⟩⟩
 rw[this]
theorem anr{o:Int}(ho:o∈ks)(rg:∀k∈ks,0<=k/\k<63)(a0:0<=ha):plR o ha (KC ks) 0=(Et ks,Et ks,0):=by
 unfold plR;have e1:((KC ks).filter λe=>!e.2.1.2)=KC ks:=List.filter_eq_self.mpr λe he=>by
  unfold KC at he;obtain⟨k,_,rfl⟩:=YF.mp he;rfl
 rw[e1,Io,afT a0];have s:=zX (zX (J0 rg) (qG (rg o ho).1 (rg o ho).2)) (Ce (J0 (ns:=[]) (λx hx=>nomatch hx)) (ms:=[]) λz=>Iff.rfl);have s2:fH (YD (YD (Et ks) (2^o.toNat)) 0) ks:=Ce s λz=>by
  rw[cy,ai,Yy];exact⟨λy=>y.elim id λy=>y▸ho,.inl⟩
 rw[Ig s2 λx hx=>(rg x hx).1]
end
def yt(K:Ye):Sp:=λvs H Q _=>E2 fun(a:Yc) (k:Int)=>vs=[.ref a,.int k]/\∃ns:List Int,bI K H a (ns.map V.int)/\0<=k/\∀c:Int,Q (.int c) H
abbrev Ut:List Yj:=["_law_script","_law_k"]
theorem K5:aD ["_law_script","_law_k"] Ut (aA q9):=gF
include eV iD in
theorem KZ(F:bW K "_law_cell_at" "_law_cell_at" q9 f fd):∅ 1 f fd Ut (yt K):=by
 refine F.oj K5 ?_;rintro _ _ _ _ _ _ _ _ _ _ _ _ ⟨a,k,rfl,h⟩;refine⟨_,(ak (cF (aX U6 (pv 1) (cj (fB (K:=K) rfl) (by rfl) iD dP (aj (pv 0) ao)) (bc _)) (aq (aR (bf (cA (K:=K) rfl) (pv 0) (pv 1) (λ_ _=>rfl)))) bG)
   (aq (aR aC))),?_⟩
 obtain⟨ns,hS,h0,q⟩:=h;cbv;refine d9 (λh1=>?_) λh1=>?_
 ·have h1:k<((ns.map V.int).length:Nat):=of_decide_eq_true h1;rw[Yi]at h1;have hx:k.toNat<ns.length:=by omega
  have hat:lH (ns.map V.int) k=Ya (V.int ns[k.toNat]):=agA h0 (by rw[Yv,Yo hx];rfl);cbv;exact q _
 ·cbv;exact q _
def Wn(K:Ye)(mg:Yj->Option Yd)(Pt:Yc)(H:Hp)(ps:List Yc)(stt:Nat->Hs)(ls:List (Yc×HO)):Prop:=∃W,Wd K mg Pt H W ls/\W.map (·.p)=ps/\∀(i:Nat) (w:WE),W[i]?=Ya w->w.S=stt i
noncomputable def yS(f:Nat->Hs)(i:Nat)(S:Hs):Nat->Hs:=λj=>if j=i then S else f j
section
theorem Wn.same(D:Wn K mg Pt H ps stt ls)(s:aO H H'):Wn K mg Pt H' ps stt ls:=by
 obtain⟨W,d,e,f⟩:=D;exact⟨W,d.same s,e,f⟩
theorem Wn.add(D:Wn K mg Pt H ps stt ls)(s:aO H H'){o:HO}(hl:H l=Yb)(g:H' l=Ya o):Wn K mg Pt H' ps stt ((l,o)::ls):=by
 obtain⟨W,d,e,f⟩:=D;exact⟨W,d.add s hl g,e,f⟩
theorem Wn.less(D:Wn K mg Pt H ps stt ls)(m:∀e∈ls',e∈ls):Wn K mg Pt H ps stt ls':=by
 obtain⟨W,d,e,f⟩:=D;exact⟨W,d.less m,e,f⟩
theorem Wn.tail(D:Wn K mg Pt H ps stt ls){e:Yc×HO}(h:ls=e::ls'):Wn K mg Pt H ps stt ls':=D.less λx hx=>by rw[h];exact Yk _ hx
theorem Wn.at(D:Wn K mg Pt H ps stt ls){e:Yc×HO}(h:e∈ls):H e.1=Ya e.2:=by
 obtain⟨W,d,_⟩:=D;exact(d.ls e h).1
theorem Wn.st{stt':Nat->Hs}(D:Wn K mg Pt H ps stt ls)(h:∀i,i<ps.length->stt i=stt' i):Wn K mg Pt H ps stt' ls:=by
 obtain⟨W,d,e,f⟩:=D;refine⟨W,d,e,λi w hw=>?_⟩;rw[f i w hw];refine h i ?_;rw[←e,Yi];exact(Yp.mp hw).1
theorem Wn.get(D:Wn K mg Pt H ps stt ls)(hi:ps[i]?=Ya p):∃F x,jA K mg H F p (stt i) x/\¬ F Pt/\eX Pt H/\∀S' H',Rs K mg Pt F H p S' H'->Wn K mg Pt H' ps (yS stt i S') ls:=by
 obtain⟨W,d,e,f⟩:=D;rw[←e,Yv]at hi;obtain⟨w,hw,ew⟩:=ah.mp hi;have hA:=d.hd i w hw;rw[f i w hw,ew]at hA;refine⟨w.F,w.x,hA,d.nP i w hw,d.tb,λS' H' r=>?_⟩;rw[←ew]at r;obtain⟨G,x',d'⟩:=d.step hw r;have il:=(Yp.mp hw).1;refine⟨_,d',?_,λj u hu=>?_⟩
 ·rw[←e,List.map_set];refine xa λj=>?_;rw[EI];split
  ·next z=>
   subst z;rw[Yi,if_pos il,Yv,hw];rfl
  ·rfl
 ·unfold yS;rcases m6 hu with⟨rfl,rfl⟩|⟨n,hu⟩
  ·rw[if_pos rfl]
  ·rw[if_neg n];exact f j u hu
end
noncomputable def hnd(a b:Int)(n:Nat):List Int:=(cS n).map fun(k:Nat)=>a+ (k:Int)*b
theorem ajR{a b:Int}{n:Nat}(h0:0<=a)(h1:a<40)(b1:1<=b)(b5:b<=5)(hn:n<=5):L2.Hs (hnd a b n):=by
 refine⟨?_,λx hx=>?_⟩
 ·unfold hnd;rw[rX];refine mI.imp fun{i j} h=>?_;have:((i:Int)+ 1)*b<=(j:Int)*b:=t9 (by omega) (by omega);have e:((i:Int)+ 1)*b=(i:Int)*b+ b:=by rw[Int.add_mul,AH]
  omega
 ·unfold hnd at hx;obtain⟨k,hk,rfl⟩:=YF.mp hx;have hk:=fb.mp hk;have k0:0<=(k:Int)*b:=Int.mul_nonneg (by omega) (by omega);have k1:(k:Int)*b<=4*b:=t9 (by omega) (by omega);omega
def DQ(K:Ye):Sp:=λvs H Q _=>E2 fun(c n:Int)=>vs=[.int c,.int n]/\(A3 (3<=n) (n<=5) (∀H' l a b,aO H H'->H l=Yb->0<=a->a<40->1<=b->b<=5->H' l=Ya (.lst ((hnd a b n.toNat).map V.int))->Q (.ref l) H'))
abbrev V0:List Yj:=["_law_cell","_law_amount"]
theorem Pz:aD ["_law_cell","_law_amount"] V0 (aA xK):=gF
include eV Ci in
theorem Pu(F:bW K "_law_hands" "_law_hands" xK f fd):∅ 1 f fd V0 (DQ K):=by
 refine F.oj Pz ?_;rintro _ A _ _ H _ _ _ _ _ _ _ ⟨c,n,rfl,h⟩;refine⟨_,(aq (aR (cu ["_law_cell","_law_k"] [Ya 0,Yb] rfl rfl (by kernel_rfl) (Jx rfl Ci (aj (pv 1) ao)) (λ_ _ _ _ _ nd=>aW (i:=1) nd rfl (Or.inl rfl)) (λ_ _ _ _ _=>dB) (λ_ _ _ _ _=>(bL mJ (bL mQ (pv 0) aC) (bL XX (pv 1) (bL mJ aC (bL mQ (bL xg (pv 0) aC) aC)))))))),?_⟩;obtain⟨h0,h1,kk⟩:=h;obtain⟨N,rfl⟩:=cw (show 0<=n by omega);have a0:=iN c (show(40:Int)≠0 by decide);have a1:=hW c (show(0:Int)<40 by decide);have b0:=iN (c / 40) (show(5:Int)≠0 by decide);have b1:=hW (c / 40) (show(0:Int)<5 by decide);cbv;refine⟨_,rfl,by omega,by omega,λD hD=>?_⟩;refine Fo (λi σ A=>∃v,A3 (σ=[Ya (.int c),v]) (aO H A) (A D=Ya (.lst ((hnd (c%40) (1+ c / 40%5) i).map V.int)))) ⟨Yb,rfl,aF hD,aB⟩ ?_ ?_
 ·rintro i σ A hi ⟨v,rfl,sA,gA⟩;have hi:i<N:=by simpa using hi
  have m1:adE (0+ (i:Int)) (1+ c / 40%5):=.inl ⟨by omega,by omega⟩;cbv;refine⟨_,gA,?_,_,rfl,λb o z=>?_,?_⟩
  ·rw[Yi];unfold hnd;rw[Yi,cK];exact aU (by omega)
  ·rw[aK (aP z hD)];exact sA b o z
  ·rw[aB];unfold hnd;rw[qh,YK,YK,Dx];rfl
 rintro σ A ⟨v,rfl,sA,gA⟩;cbv;exact kk A D _ _ sA hD a0 a1 (by omega) (by omega) gA
noncomputable abbrev qi(R:List Nat):List V:=R.map fun(i:Nat)=>V.int (i:Int)
def zB(K:Ye):Sp:=λvs H Q _=>E2 fun(c:Int) (n:Nat)=>vs=[.int c,.int n]/\(A3 (3<=n) (n<=5) (∀H' l Z,aO H H'->H l=Yb->H' l=Ya (.lst (qi Z))->Z≠[]->Z.Nodup->(∀z∈Z,z<n)->2*Z.length<n->Q (.ref l) H'))
abbrev Wl:List Yj:=["_law_cell","_law_size"]
theorem Az:aD ["_law_cell","_law_size","_law_turn"] Wl (aA u9):=gF
include eV in
theorem Nf(F:bW K "_law_silent" "_law_silent" u9 f fd):∅ 1 f fd Wl (zB K):=by
 refine F.oj Az ?_;rintro _ A _ s H _ Q _ _ _ _ _ ⟨c,n,rfl,h⟩;refine⟨_,(ak (aV (i:=2) Az.nd rfl (Or.inl rfl) (bL mQ (pv 0) (pv 1)))
   (ak (cF (PW.pt (pK (aX yP (pv 1) aC (bc _)) (kJ (aX Qp (bL mQ (bL xg (pv 0) aC) aC) aC (bc _))))) (aq (aR (eU (aj (pv 2) (aj (bL mQ (bL mJ (bL mJ (pv 2) aC) (bL mQ (bL xg (pv 0) aC) aC)) aC) ao))))) bG)
   (aq (aR (eU (aj (pv 2) ao)))))),?_⟩
 refine XM ?_;intro _;obtain⟨h0,h1,kk⟩:=h;have n0:(0:Int)<(n:Int):=by omega
 have t0:=iN c (show(n:Int)≠0 by omega);have t1:=hW c n0;obtain⟨t,et⟩:=cw t0;have one:∀H' l,aO H H'->H l=Yb->H' l=Ya (.lst [V.int (c%(n:Int))])->Q (.ref l) H':=λH' l s hl g=>by
  rw[et]at g;exact kk H' l [t] s hl g (by simp) (by simp) (λz hz=>by rw[Yy.mp hz];omega) (by simp;omega)
 cbv;refine d9 (λe5=>?_) λ_=>?_
 ·have e5:(n:Int)=5:=of_decide_eq_true e5;obtain rfl:n=5:=by omega
  have q1:=iN (c / 15) (show(4:Int)≠0 by decide);have q2:=hW (c / 15) (show(0:Int)<4 by decide);have q0:(0:Int)<=(c%((5:Nat):Int)+ 1+ c / 15%4)%5:=iN _ (by decide);obtain⟨u,eu⟩:=cw q0;cbv;refine d9 (λ_=>?_) λ_=>?_
  ·cbv;intro D A hD sA gA;rw[eu,et]at gA;refine kk A D [t,u] sA hD gA (by simp) ?_ (λz hz=>?_) (by simp)
   ·simp only[aw,Yy,yy,not_false_eq_true,AR,and_true];omega
   ·rcases YC.mp hz with rfl|hz
    ·omega
    ·rw[Yy.mp hz];omega
  ·cbv;intro D A hD sA gA;exact one A D sA hD gA
 ·cbv;intro D A hD sA gA;exact one A D sA hD gA
noncomputable def G8(stt:Nat->Hs)(o:Nat)(R:List Nat):Nat->Hs:=λi=>if i∈R then pB (stt i) (oX (stt o))else stt i
theorem aea(nr:r∉R)(no:o∉R)(i:Nat):yS (G8 stt o R) r (pB (G8 stt o R r) (oX (G8 stt o R o))) i=G8 stt o (R++[r]) i:=by
 have e1:G8 stt o R r=stt r:=if_neg nr;have e2:G8 stt o R o=stt o:=if_neg no;rw[e1,e2];unfold yS G8;by_cases z:i=r
 ·subst z;rw[if_pos rfl,if_pos (YW _ (Yy.mpr rfl))]
 ·rw[if_neg z];by_cases y:i∈R
  ·rw[if_pos y,if_pos (fN _ y)]
  ·rw[if_neg y,if_neg λw=>(ai.mp w).elim y λw=>z (Yy.mp w)]
theorem MT(nd:R.Nodup)(h:R[k]?=Ya r):r∉R.take k:=λz=>by
 obtain⟨j,hj⟩:=iE z;obtain⟨jl,ej⟩:=Yp.mp hj;obtain⟨kl,ek⟩:=Yp.mp h;rw[ae]at jl;rw[EB]at ej;exact hX.mp nd j k (by omega) kl (by omega) (ej.trans ek.symm)
def GZ(K:Ye)(mg:Yj->Option Yd)(P_mk:Yc):Sp:=λvs H Q _=>E3 fun(hl rl:Yc) (o:Nat)=>vs=[.ref hl,.int o,.ref rl]/\(E4 λps stt ls R=>A10 (Wn K mg P_mk H ps stt ls) ((hl,HO.lst (ps.map V.ref))∈ls) ((rl,HO.lst (qi R))∈ls) (ps.length<=5) (o<ps.length) (o∉R) (R.Nodup) ((∀r∈R,r<ps.length)) ((∀r∈R,(stt r).lg.length<=880/\(pB (stt r) (oX (stt o))).lg=(stt r).lg)) (∀H' l,Wn K mg P_mk H' ps (G8 stt o R) ls->H' l=Ya (.lst [])->Q (.ref l) H'))
abbrev Xn:List Yj:=["_law_hands_here","_law_one","_law_rest"]
theorem qp:aD ["_law_hands_here","_law_one","_law_rest","_law_found","_law_at"] Xn (aA BR):=gF
variable{uF:Yc}{Ai:Yc}{lC:Yt}{wY:Yt}{pG:l7}(jD:∅ 13 uF lC tY (iV K mg))(cJ:Binds K lC tY [.int 0 pG,.none])(uV:Binds K lC tY [])(oV:∅ 13 Ai wY ie (qy K mg P_mk))(jf:Binds K wY ie [])(dz:bU K bB "hear" Ai)(cB:bU K bB "letter" uF)
include eV jD cJ uV oV jf aJ aY dz cB in
theorem T9(F:bW K "_law_asks" "_law_asks" BR f fd):∅ 14 f fd Xn (GZ K mg P_mk):=by
 refine F.oj qp ?_;rintro _ A _ _ _ _ _ _ hr _ _ _ ⟨hl,rl,o,rfl,h⟩;refine⟨_,(ak (aV (i:=3) qp.nd rfl (Or.inl rfl) (eU ao))
   (ak (jc Y8 rfl (bC (K:=K) rfl (pv 2)) (aW (i:=4) qp.nd rfl (Or.inl rfl))
   (aq (aV (i:=3) qp.nd rfl (Or.inl rfl) (bL Ms (pv 3) (bD (cH.cons aJ.cl dz oV jf cH.nil) (bf (cA (K:=K) rfl) (pv 0) (pv 4) (λ_ _=>rfl)) hr (aj (Gq (bf (cA (K:=K) rfl) (pv 0) (pv 1) (λ_ _=>rfl)) aJ.cl cB jD hr cJ (show Vals [V.int 0,V.non] _ from(.cons ⟨_,rfl⟩ (.cons rfl .nil))) qZ) ao))))))
   (aq (aR (pv 3))))),?_⟩
 refine XM ?_;intro _;have hob:∀{A:Hp} {x1:Lj} {S1:Hs} {F1:Yc->Prop} {p:Yc},jA K mg A F1 p S1 x1->x1.C=bB:=λh=>by have:=h.mH;rw[aY]at this;cases this;rfl
 obtain⟨ps,stt,ls,R,D,hh,hr,p5,ho,no,nd,lt,lgs,kk⟩:=h;cbv;intro f A hf sA gA;have D1:=D.add sA hf gA;have sr:=bI.of (K:=K) (D1.at (Yk _ hr));cbv;let jJ5:Nat->St->Hp->Prop:=λk σ A=>E2 λf v=>σ=[Ya (.ref hl),Ya (.int o),Ya (.ref rl),Ya (.ref f),v]/\Wn K mg P_mk A ps (G8 stt o (R.take k)) ((f,HO.lst [])::ls);refine gf (K:=K) (a:=rl) (xs:=qi R) jJ5 ⟨f,Yb,rfl,D1.st λi _=>by unfold G8;rw[List.take_zero,if_neg (λz=>nomatch z)]⟩ (λi σ A _ z=>by obtain⟨_,_,_,z⟩:=z;exact bI.of (z.at (Yk _ hr))) ?_ ?_
 ·rintro k x σ A hx ⟨f,v,rfl,DA⟩;rw[Yv]at hx;obtain⟨r,hk,rfl⟩:=ah.mp hx;have mr:=YE hk;have gh:=bI.of (K:=K) (DA.at (Yk _ hh));obtain⟨p,hp⟩:∃p,ps[r]?=Ya p:=⟨_,Yo (lt r mr)⟩;obtain⟨q,hq⟩:∃q,ps[o]?=Ya q:=⟨_,Yo ho⟩;obtain⟨Fp,xp,HP,nP,tb,stp⟩:=DA.get hp;obtain⟨Fq,xq,HQ,_,_,_⟩:=DA.get hq;have hp':(ps.map V.ref)[r]?=Ya (V.ref p):=by rw[Yv,hp];rfl
  have hq':(ps.map V.ref)[o]?=Ya (V.ref q):=by rw[Yv,hq];rfl
  have op:=HP.ob;have oq:=HQ.ob;rw[hob HP]at op;rw[hob HQ]at oq;cbv;refine jC gh (cO hp') (qY op (by kernel_rfl) ?_);cbv;refine abz ?_;cbv;refine jC gh (cO hq') ⟨q,_,_,rfl,oq,by kernel_rfl,?_⟩;cbv;refine Q0 HQ λA1 t s1 la=>?_;cbv;obtain⟨Fp,xp,HP,nP,tb,stp⟩:=(DA.same s1).get hp;have eS:G8 stt o (R.take k) r=stt r:=if_neg λz=>MT nd hk z;have eO:G8 stt o (R.take k) o=stt o:=if_neg λz=>no (pe z);have lg:=lgs r mr;refine⟨p,t,rfl,Fp,_,xp,_,HP,la,ab3 HQ,by rw[eS];exact lg.1,tb,nP,λA2 l ys rs gl ev=>?_⟩;rw[eS,eO,lg.2,List.drop_length]at ev;cases ev;have D2:=stp _ _ rs;have D3:=D2.st λi _=>aea (λz=>MT nd hk z) (λz=>no (pe z)) i;refine abM (D3.at Yl) gl (by decide) λf' A3 hf' s3 g3=>?_;cbv;refine⟨_,_,rfl,?_⟩;rw[eN hk];exact(D3.tail rfl).add s3 hf' g3
 ·rintro σ A ⟨f,v,rfl,DA⟩;cbv;rw[show(qi R).length=R.length from Yi _,Y5]at DA;exact kk A f (DA.tail rfl) (DA.at Yl)
theorem J5{x y:Int}(g:H t=Ya (.tup [.int x,.int y])):Dl K H (.ref t) (.tuple [.int x,.int y]):=.inl (.tup (cN.of g) (.cons (.int _) (.cons (.int _) .nil)))
theorem Tw(x y:Int):(DB [.int x,.int y]).canLay0=true:=aaK rfl
theorem Sy(x y:Int):(DB [.int x,.int y]).depth<=60:=by simp[IE,F0]
def Dm(K:Ye)(mg:Yj->Option Yd)(P_mk:Yc):Sp:=λvs H Q _=>∃(hl sl t1 t2:Yc),vs=[.ref hl,.ref sl,.ref t1,.ref t2]/\∃ps stt ls R nu ha b,Wn K mg P_mk H ps stt ls/\(hl,HO.lst (ps.map V.ref))∈ls/\H sl=Ya (.lst (qi R))/\H t1=Ya (.tup [.int nu,.int ha])/\H t2=Ya (.tup [.int b.1,.int b.2])/\(∀r∈R,r<ps.length)/\(∀r∈R,(stt r).lg.length=1/\∃c cb,(stt r).st=Ya (nu,ha,c,cb)/\c.b=Ya b)/\∀H',Wn K mg P_mk H' ps stt ls->aO H H'->Q (.bl true) H'
abbrev WN:List Yj:=["_law_hands_here","_law_some","_law_there","_law_ballot"]
theorem CW:aD ["_law_hands_here","_law_some","_law_there","_law_ballot","_law_at"] WN (aA xr):=gF
variable{Dw:Yc}{pJ:Yc}{zV:Yt}{m8:Yt}(Dv:∅ 1 Dw zV bx (Ab K mg))(Dd:Binds K zV bx [])(uf:∅ 1 lD jM bx (jQ K mg))(xV:∅ 1 pJ m8 bx (mD K mg))(iC:Binds K m8 bx [])(jb:bU K bB "events" Dw)(cQ:bU K bB "standing" pJ)
include eV Dv Dd uf gM xV iC iD aJ aY jb cQ cC in
theorem Qf(F:bW K "_law_still" "_law_still" xr f fd):∅ 2 f fd WN (Dm K mg P_mk):=by
 refine F.oj CW ?_;rintro _ A _ _ H _ _ _ hr hu64 _ _ ⟨hl,sl,t1,t2,rfl,h⟩;refine⟨_,(ak (jc Y8 rfl (bC (K:=K) rfl (pv 1)) (aW (i:=4) CW.nd rfl (Or.inl rfl))
   (aq (cF (PW.pt (Ka (aX (pM (K:=K) rfl hu64) (bM (cH.cons aJ.cl cQ xV iC cH.nil) (bf (cA (K:=K) rfl) (pv 0) (pv 4) (λ_ _=>rfl)) hr) (pv 2) (bc _)) (Ka (aX (pM (K:=K) rfl hu64) (bM (cH.cons aJ.cl cC uf gM cH.nil) (bf (cA (K:=K) rfl) (pv 0) (pv 4) (λ_ _=>rfl)) hr) (pv 3) (bc _)) (Fz (aX ad9 (cj (fB (K:=K) rfl) (by rfl) iD dP (aj (bM (cH.cons aJ.cl jb Dv Dd cH.nil) (bf (cA (K:=K) rfl) (pv 0) (pv 4) (λ_ _=>rfl)) hr) ao)) aC (bc _)))))) (aq (aR qQ)) bG)))
   (aq (aR qQ))),?_⟩
 have hob:∀{A:Hp} {x1:Lj} {S1:Hs} {F1:Yc->Prop} {p:Yc},jA K mg A F1 p S1 x1->x1.C=bB:=λh=>by have:=h.mH;rw[aY]at this;cases this;rfl
 obtain⟨ps,stt,ls,R,nu,ha,b,D,hh,hr,h1,h2,lt,sts,kk⟩:=h;have sr:=bI.of (K:=K) hr;cbv;let jJ6:Nat->St->Hp->Prop:=λk σ A=>∃v,σ=[Ya (.ref hl),Ya (.ref sl),Ya (.ref t1),Ya (.ref t2),v]/\aO H A;refine gf (K:=K) (a:=sl) (xs:=qi R) jJ6 ⟨Yb,rfl,.refl _⟩ (λi σ A _ z=>by obtain⟨_,_,z⟩:=z;exact bI.of (z _ _ hr)) ?_ ?_
 ·rintro k x σ A hx ⟨v,rfl,sA⟩;rw[Yv]at hx;obtain⟨r,hk,rfl⟩:=ah.mp hx;have mr:=YE hk;have DA:=D.same sA;have gh:=bI.of (K:=K) (DA.at hh);obtain⟨p,hp⟩:∃p,ps[r]?=Ya p:=⟨_,Yo (lt r mr)⟩;obtain⟨Fp,xp,HP,nP,tb,stp⟩:=DA.get hp;have hp':(ps.map V.ref)[r]?=Ya (V.ref p):=by rw[Yv,hp];rfl
  have op:=HP.ob;rw[hob HP]at op;obtain⟨e1,c,cb,e2,e3⟩:=sts r mr;cbv;refine jC gh (cO hp') (qY op (by kernel_rfl) ?_);cbv;refine⟨p,rfl,Fp,_,xp,HP,(λz=>by rw[e2]at z;cases z),λq eq A1 t s1 g1=>?_⟩;rw[e2]at eq;cases eq;have ghB:=s1.seq gh;have opB:=s1 _ _ op;have sB:=sA.trans s1;cbv;refine ww (J5 g1) (J5 (sB _ _ h1)) (Tw _ _) (Sy _ _) ?_;cbv;refine jC ghB (cO hp') (qY opB (by kernel_rfl) ?_);cbv;refine⟨p,rfl,Fp,_,xp,HP.same s1,λv2 bv=>?_⟩;rw[e2]at bv;have bv:Vh A1 v2 c.b:=bv;rw[e3]at bv;obtain⟨t3,rfl,g3⟩:=bv;cbv;refine ww (J5 g3) (J5 (sB _ _ h2)) (Tw _ _) (Sy _ _) ?_;cbv;refine jC ghB (cO hp') (qY opB (by kernel_rfl) ?_);cbv;refine⟨p,rfl,Fp,_,xp,HP.same s1,λA2 l s2 hl2 g2=>?_⟩;have sl2:=bI.of (K:=K) g2;have lx:xp.xs.length=1:=(bS HP.ev).trans e1;cbv;rw[lx,if_neg (by decide)];cbv;exact⟨_,rfl,sB.trans s2⟩
 ·rintro σ A ⟨v,rfl,sA⟩;cbv;exact kk A (D.same sA) sA
structure Gp(hs:List Int)(ha:Int):Prop where
 e:GB.hl ha=hs
 a0:0<=ha
 nd:hs.Nodup
 rg:∀x∈hs,0<=x/\x<63
theorem WL{f:Nat->Hs}:yS f i S i=S:=if_pos rfl
theorem W9{f:Nat->Hs}(h:j≠i):yS f i S j=f j:=if_neg h
theorem QV{xs:List V}(g:H l=Ya (.lst xs))(h:J1 H xs es):Dl K H (.ref l) (.list (es.map evD)):=.inr ⟨_,_,_,rfl,rfl,bI.of g,aa7 h⟩
theorem abm(e:Ev):(AG [evD e]).depth<=60:=by cases e<;>simp[evD,IE,F0]
theorem acp(e:Ev):(AG [evD e]).canLay0=true:=by rw[uj];exact S8 [e]
theorem wW{b:Yc}(ha:H a=Ya (.lst []))(hb:H b=Ya (.lst []))(q:Q (.bl false) H):acL K (.ref a) (.ref b) H Q:=ww (QV (es:=[]) ha .nil) (QV (es:=[]) hb .nil) rfl (by decide) q
theorem akd{b:Yc}{xs:List V}{e:Ev}(ha:H a=Ya (.lst xs))(h:J1 H xs [e])(hb:H b=Ya (.lst []))(q:Q (.bl true) H):acL K (.ref a) (.ref b) H Q:=ahh (bI.of ha) (aa7 h) (S8 [e]) (bI.of hb) q
theorem afv{x1 x2 x3 x4 x5:V}(h:H a=Ya (.tup [x1,x2,x3,x4,x5]))(q:∀p H',H p=Yb->aO H H'->H' p=Ya (.tup [x2,x3])->Q (.ref p) H'):ajt K (.ref a) (Ya 1) (Ya 3) H Q:=
 ⟨a,_,rfl,cN.of h,by show ¬ (HT.lN 5 0 (Ya 1)=0/\HT.lN 5 5 (Ya 3)=5);decide,λp hp=>q p _ hp (aF hp) aB⟩
theorem Xg{hl:Yc}{ch c:Nat}(mC:mg "Hand"=Ya (.ref C))(h0:σ[ch]?=Ya (Ya (.ref hl)))(hc:σ[c]?=Ya (Ya (.int j)))(D:Wn K mg Pt A ps stt ls)(hh:(hl,HO.lst (ps.map V.ref))∈ls)(hi:i<ps.length)(hj:j<ps.length)(lg:(stt i).lg.length<=880)(kk:∀A2 l ys,Wn K mg Pt A2 ps (yS stt i (pB (stt i) (oX (stt j)))) ls->A2 l=Ya (.lst ys)->J1 A2 ys ((pB (stt i) (oX (stt j))).lg.drop (stt i).lg.length)->Q (.ref l) A2):
  af2 K (.ref hl) (.int i) A λx H1=>mtS [(C,qy K mg Pt)] (af "hear") (Iz (abX C (af "letter") (iV K mg) [.int 0,.non] E0 (tOp (af2 K) (Tv ch) (Tv c)) K7) K7) σ x H1 Q:=by
 have hob:∀{A:Hp} {x1:Lj} {S1:Hs} {F1:Yc->Prop} {p:Yc},jA K mg A F1 p S1 x1->x1.C=C:=λh=>by have:=h.mH;rw[mC]at this;cases this;rfl
 obtain⟨p,hp⟩:∃p,ps[i]?=Ya p:=⟨_,Yo hi⟩;obtain⟨q,hq⟩:∃q,ps[j]?=Ya q:=⟨_,Yo hj⟩;have gh:=bI.of (K:=K) (D.at hh);obtain⟨Fp,xp,HP,_,_,_⟩:=D.get hp;obtain⟨Fq,xq,HQ,_,_,_⟩:=D.get hq;have hp':(ps.map V.ref)[i]?=Ya (V.ref p):=by rw[Yv,hp];rfl
 have hq':(ps.map V.ref)[j]?=Ya (V.ref q):=by rw[Yv,hq];rfl
 have op:=HP.ob;have oq:=HQ.ob;rw[hob HP]at op;rw[hob HQ]at oq;refine jC gh (cO hp') (qY op (by kernel_rfl) ?_);show abX _ _ _ _ _ _ _ _ _ _;refine abz (alp (af1 h0 (af1 hc (jC gh (cO hq') ⟨q,_,_,rfl,oq,by kernel_rfl,?_⟩))));cbv;refine Q0 HQ λA1 t s1 la=>?_;cbv;obtain⟨Fp,xp,HP,nP,tb,stp⟩:=(D.same s1).get hp;exact⟨p,t,rfl,Fp,_,xp,_,HP,la,ab3 HQ,lg,tb,nP,λA2 l ys rs gl ev=>kk A2 l ys (stp _ _ rs) gl ev⟩
def yr(K:Ye)(mg:Yj->Option Yd)(P_mk:Yc):Sp:=λvs H Q _=>E5 fun(hl rl te:Yc) (o n:Nat)=>vs=[.ref hl,.int o,.ref rl,.int n,.ref te]/\(E12 λps stt ls R hs ha nu b pl rp db nm=>∃vo,A12 (Wn K mg P_mk H ps stt ls) ((hl,HO.lst (ps.map V.ref))∈ls) ((rl,HO.lst (qi R))∈ls) ((te,HO.tup [.str "list",.int (nu+ 1),.int pl.2.1,.int pl.1,.int pl.2.2])∈ls) (Gp hs ha) (hs.length=n) (3<=n) (n<=5) (o<ps.length) ((∀r∈R,r<ps.length)) ((o::R).Nodup) (A11 (((o::R).map nm).Nodup) ((∀r∈o::R,nm r∈hs)) (2*(R.length+ 1)>n) (b.2=nm o) (0<=db) (O6 pl) ((∀r∈o::R,gU pl.1 (nm r)=true/\gU pl.2.1 (nm r)=true)) (stt o=S7 nu ha (nm o) ⟨Ya b,Ya (b,pl),vo,Yb,rp⟩ db) (fH vo [nm o]) ((∀r∈R,stt r=S7 nu ha (nm r) (cR b) 0)) (∀H',Q (.bl true) H')))
abbrev UL:List Yj:=["_law_hands_here","_law_one","_law_rest","_law_size","_law_event"]
theorem fM:aD ["_law_hands_here","_law_one","_law_rest","_law_size","_law_event","_law_votes","_law_at","_law_due"] UL (aA rW):=gF
variable(jW:∅ 13 pJ m8 bx (mD K mg))
include eV jW iC jD cJ uV oV jf aJ aY dz cB cQ in
theorem Lg(F:bW K "_law_settles" "_law_settles" rW f fd):∅ 14 f fd UL (yr K mg P_mk):=by
 refine F.oj fM ?_;rintro _ A _ s _ _ _ _ hr hu64 _ hu ⟨hl,rl,te,o,n,rfl,h⟩;refine⟨_,(ak (aV (i:=5) fM.nd rfl (Or.inl rfl) aC)
   (ak (jc Y8 rfl (bC (K:=K) rfl (pv 2)) (aW (i:=6) fM.nd rfl (Or.inl rfl))
   (ak (aV (i:=7) fM.nd rfl (Or.inl rfl) (eU ao))
   (ak (aV (i:=5) fM.nd rfl (Or.inl rfl) (bL mJ (pv 5) aC))
   (ak (cF (aX Qp (bL XX aC (pv 5)) (pv 3) (bc _)) (aq (aV (i:=7) fM.nd rfl (Or.inl rfl) (eU (aj (pv 4) ao)))) bG)
   (ak (cF (PW.pt (Ka (aX (pM (K:=K) rfl hu64) (bD (cH.cons aJ.cl dz oV jf cH.nil) (bf (cA (K:=K) rfl) (pv 0) (pv 6) (λ_ _=>rfl)) hr (aj (Gq (bf (cA (K:=K) rfl) (pv 0) (pv 1) (λ_ _=>rfl)) aJ.cl cB jD hr cJ (show Vals [V.int 0,V.non] _ from(.cons ⟨_,rfl⟩ (.cons rfl .nil))) qZ) ao)) (pv 7) (bc _)) (Fz (aX (pM (K:=K) rfl hu64) (bD (cH.cons aJ.cl dz oV jf cH.nil) (bf (cA (K:=K) rfl) (pv 0) (pv 1) (λ_ _=>rfl)) hr (aj (Gq (bf (cA (K:=K) rfl) (pv 0) (pv 6) (λ_ _=>rfl)) aJ.cl cB jD hr cJ (show Vals [V.int 0,V.non] _ from(.cons ⟨_,rfl⟩ (.cons rfl .nil))) qZ) ao)) (pv 7) (bc _))))) (aq (aR qQ)) bG)
   (aq (cF (aX (pM (K:=K) rfl hu64) (pv 7) (eU ao) (bc _)) (aq (aR (xF (jo (Oz (K:=K) rfl hu64) (bM (cH.cons aJ.cl cQ jW iC cH.nil) (bf (cA (K:=K) rfl) (pv 0) (pv 1) (λ_ _=>rfl)) hr) (lK (acn (K:=K) rfl) (pv 4) (kW aC) (kW aC)) (bc _)) (xN (jo (Oz (K:=K) rfl hu64) (bM (cH.cons aJ.cl cQ jW iC cH.nil) (bf (cA (K:=K) rfl) (pv 0) (pv 6) (λ_ _=>rfl)) hr) (lK (acn (K:=K) rfl) (pv 4) (kW aC) (kW aC)) (bc _)))))) bG)))))))
   (aq (aR qQ)))),?_⟩
 refine XM ?_;intro _;have hob:∀{A:Hp} {x1:Lj} {S1:Hs} {F1:Yc->Prop} {p:Yc},jA K mg A F1 p S1 x1->x1.C=bB:=λh=>by have:=h.mH;rw[aY]at this;cases this;rfl
 obtain⟨ps,stt,ls,R,hs,ha,nu,b,pl,rp,db,nm,vo,D,hh,hr,ht,gp,eh,n3,n5,ho,lt,nd,ndm,sb,maj,eb,d0,wp,has,eo,sV,er,kk⟩:=h;have sr:=bI.of (K:=K) (D.at hr);cbv;let jJ7:Nat->St->Hp->Prop:=λk σ A=>E4 λu6 u7 stt vo=>A6 (σ=[Ya (.ref hl),Ya (.int o),Ya (.ref rl),Ya (.int n),Ya (.ref te),Ya (.int (1+ k:Nat)),u6,u7]) (Wn K mg P_mk A ps stt ls) (stt o=S7 nu ha (nm o) ⟨Ya b,Ya (b,pl),vo,Yb,rp⟩ db) (fH vo ((o::R.take k).map nm)) ((∀r∈R.drop k,stt r=S7 nu ha (nm r) (cR b) 0)) (2*(1+ k)<=n);refine gf (K:=K) (a:=rl) (xs:=qi R) jJ7 ⟨Yb,Yb,stt,vo,rfl,D,eo,sV,er,by omega⟩ (λi σ A _ z=>by obtain⟨_,_,_,_,_,z,_⟩:=z;exact bI.of (z.at hr)) ?_ ?_
 ·rintro k x σ A hx ⟨u6,u7,stt,vo,rfl,DA,eo,sV,er,mk⟩;rw[Yv]at hx;obtain⟨r,hk,rfl⟩:=ah.mp hx;have mr:=YE hk;obtain⟨ndo,ndR⟩:=aw.mp nd;have nro:r≠o:=λz=>ndo (z▸mr);have nmr:nm r≠nm o:=λz=>(aw.mp ndm).1 (z▸Y6 mr);have tk:R.take (k+ 1)=R.take k++[r]:=eN hk;have eK:(o::R.take (k+ 1)).map nm=(o::R.take k).map nm++[nm r]:=by rw[tk,←Fu,YK];rfl
  have sub:y7 ((o::R.take (k+ 1)).map nm) ((o::R).map nm):=((iP _ _).cons_cons o).map nm;have ndK:((o::R.take (k+ 1)).map nm).Nodup:=sub.nodup ndm;have sbK:∀x∈(o::R.take (k+ 1)).map nm,x∈hs:=λx hx=>by
   obtain⟨j,hj,rfl⟩:=YF.mp (sub.mem hx);exact sb j hj
  have kl:k<R.length:=(Yp.mp hk).1;have lnK:((o::R.take (k+ 1)).map nm).length=k+ 2:=by rw[Yi,YT,ae];omega
  have rr:=gp.rg _ (sb r (Yk _ mr));have sV1:fH (YD vo (2^(nm r).toNat)) ((o::R.take (k+ 1)).map nm):=by rw[eK];exact zX sV (qG rr.1 rr.2)
  have sV2:fH (YD vo (YD vo (2^(nm r).toNat))) ((o::R.take (k+ 1)).map nm):=Ce (zX sV sV1) λz=>by
   rw[ai,eK,ai];exact⟨λy=>y.elim .inl id,.inr⟩
  have hf:∀{v:Int},fH v ((o::R.take (k+ 1)).map nm)->CN v ha=decide (2*(k+ 2)>n):=λs=>by rw[aeW gp.e gp.a0 gp.nd ndK sbK s,lnK,eh]
  have erk:=er r (by rw[xo kl];exact YC.mpr (.inl (Yp.mp hk).2.symm));have m2:adE 2 (((1+ k:Nat):Int)+ 1):=.inl ⟨by decide,by omega⟩;have ltr:=lt r mr;have hear1:kh (nm r) ha (cR b) (L7 nu ha (nm o) ⟨Ya b,Ya (b,pl),vo,Yb,rp⟩)=⟨Ya b,Ya (b,pl),YD vo (2^(nm r).toNat),if CN (YD vo (2^(nm r).toNat)) ha=true then Ya pl else Yb,[]⟩:=amO eb nmr;obtain⟨w1,w2⟩:=has r (Yk _ mr);obtain⟨w3,w4⟩:=has o Yl;cbv;intro du A1 hdu s1 g1;cbv;refine HN ?_;cbv;refine d9 (λc=>?_) λc=>?_
  ·have c:2*(k+ 2)>n:=by
    have c:=of_decide_eq_true c;omega
   have htA:=(DA.same s1).at ht;cbv;intro dv A2 hdv s2 g2;have D2:=(DA.same s1).add s2 hdv g2;have hh1:=Yk (dv,HO.lst [V.ref te]) hh;have ht1:=Yk (dv,HO.lst [V.ref te]) ht;have e1:pB (stt r) (oX (stt o))=E7 nu ha pl (nm r) 0:=by
    rw[erk,eo];refine agm (Ne.symm nmr) ?_ ?_ wp w1 w2
    ·rw[hear1];exact Hq eb nmr
    ·rw[hear1,hf sV1,decide_eq_true c];rfl
   cbv;refine Xg aY rfl rfl D2 hh1 ltr ho (by rw[erk];show 1<=880;decide) λA3 l ys D3 gl ev=>?_;rw[e1,erk]at ev;rw[e1]at D3;have ev:J1 A3 ys [.lst (nu+ 1) pl.2.1 pl.1 pl.2.2]:=ev;cbv;refine ww (QV gl ev) (QV (D3.at Yl) (.cons ⟨te,rfl,D3.at ht1⟩ .nil)) (acp _) (abm _) ?_;cbv;have eo2:yS stt r (E7 nu ha pl (nm r) 0) o=S7 nu ha (nm o) ⟨Ya b,Ya (b,pl),vo,Yb,rp⟩ db:=(W9 (Ne.symm nro)).trans eo;have er2:yS stt r (E7 nu ha pl (nm r) 0) r=E7 nu ha pl (nm r) 0:=WL;have e2:pB (S7 nu ha (nm o) ⟨Ya b,Ya (b,pl),vo,Yb,rp⟩ db) (oX (E7 nu ha pl (nm r) 0))=E7 nu ha pl (nm o) db:=ahy nmr d0 wp w3 w4;refine Xg aY rfl rfl D3 hh1 ho ltr (by rw[eo2];show 1<=880;decide) λA4 l ys D4 gl ev=>?_;rw[eo2,er2,e2]at ev;rw[eo2,er2,e2]at D4;have ev:J1 A4 ys [.lst (nu+ 1) pl.2.1 pl.1 pl.2.2]:=ev;cbv;refine ww (QV gl ev) (QV (D4.at Yl) (.cons ⟨te,rfl,D4.at ht1⟩ .nil)) (acp _) (abm _) ?_;cbv;intro z A5 hz s5 g5;have D5:=D4.same s5;refine akd (e:=.lst (nu+ 1) pl.2.1 pl.1 pl.2.2) (D5.at Yl) (.cons ⟨te,rfl,D5.at ht1⟩ .nil) g5 ?_;have hte:=D5.at ht1;have gh:=bI.of (K:=K) (D5.at hh1);obtain⟨p,hp⟩:∃p,ps[r]?=Ya p:=⟨_,Yo ltr⟩;obtain⟨q,hq⟩:∃q,ps[o]?=Ya q:=⟨_,Yo ho⟩;obtain⟨Fp,xp,HP,_,_,_⟩:=D5.get hp;obtain⟨Fq,xq,HQ,_,_,_⟩:=D5.get hq;have hp':(ps.map V.ref)[r]?=Ya (V.ref p):=by rw[Yv,hp];rfl
   have hq':(ps.map V.ref)[o]?=Ya (V.ref q):=by rw[Yv,hq];rfl
   have op:=HP.ob;have oq:=HQ.ob;rw[hob HP]at op;rw[hob HQ]at oq;rw[WL]at HQ;rw[W9 nro,WL]at HP;cbv;refine jC gh (cO hq') (qY oq (by kernel_rfl) ?_);cbv;refine⟨q,rfl,Fq,_,xq,HQ,(λz=>nomatch z),λq' eq A6 t s6 g6=>?_⟩;cases eq;cbv;refine afv (s6 _ _ hte) λu A7 hu s7 g7=>?_;refine Q7 (J5 (s7 _ _ g6)) (J5 g7) (Tw _ _) (Sy _ _) ?_;have s67:=s6.trans s7;have gh7:=s67.seq gh;have op7:=s67 _ _ op;cbv;refine jC gh7 (cO hp') (qY op7 (by kernel_rfl) ?_);cbv;refine⟨p,rfl,Fp,_,xp,HP.same s67,(λz=>nomatch z),λq' eq A8 t2 s8 g8=>?_⟩;cases eq;cbv;refine afv ((s67.trans s8) _ _ hte) λu2 A9 hu2 s9 g9=>?_;refine Q7 (J5 (s9 _ _ g8)) (J5 g9) (Tw _ _) (Sy _ _) ?_;cbv;exact kk _
  ·have c:¬ 2*(k+ 2)>n:=by
    rw[decide_eq_true_iff]at c;omega
   have fr:kZ (nm r) ha 0 ⟨Ya b,Ya (b,pl),YD vo (2^(nm r).toNat),Yb,[]⟩=false:=Hq eb nmr;have e1:pB (stt r) (oX (stt o))=S7 nu ha (nm r) ⟨Ya b,Ya (b,pl),YD vo (2^(nm r).toNat),Yb,[]⟩ 0:=by
    rw[erk,eo,Al (Ne.symm nmr) (fF _),hear1,hf sV1,decide_eq_false c]
    ·rfl
    ·rw[hear1,hf sV1,decide_eq_false c];exact fr
    ·rw[hear1,hf sV1,decide_eq_false c];rfl
   have D1:=DA.add s1 hdu g1;have hh1:=Yk (du,HO.lst []) hh;cbv;refine Xg aY rfl rfl D1 hh1 ltr ho (by rw[erk];show 1<=880;decide) λA2 l ys D2 gl ev=>?_;rw[e1,erk]at ev;cases ev;rw[e1]at D2;cbv;refine wW gl (D2.at Yl) ?_;cbv;have eo2:yS stt r (S7 nu ha (nm r) ⟨Ya b,Ya (b,pl),YD vo (2^(nm r).toNat),Yb,[]⟩ 0) o=S7 nu ha (nm o) ⟨Ya b,Ya (b,pl),vo,Yb,rp⟩ db:=(W9 (Ne.symm nro)).trans eo;have er2:yS stt r (S7 nu ha (nm r) ⟨Ya b,Ya (b,pl),YD vo (2^(nm r).toNat),Yb,[]⟩ 0) r=S7 nu ha (nm r) ⟨Ya b,Ya (b,pl),YD vo (2^(nm r).toNat),Yb,[]⟩ 0:=WL;have hear2:kh (nm o) ha ⟨Ya b,Ya (b,pl),vo,Yb,rp⟩ (L7 nu ha (nm r) ⟨Ya b,Ya (b,pl),YD vo (2^(nm r).toNat),Yb,[]⟩)=⟨Ya b,Ya (b,pl),YD vo (YD vo (2^(nm r).toNat)),Yb,rp⟩:=by
    rw[amD eb,hf sV2,decide_eq_false c];rfl
   have e2:pB (S7 nu ha (nm o) ⟨Ya b,Ya (b,pl),vo,Yb,rp⟩ db) (oX (S7 nu ha (nm r) ⟨Ya b,Ya (b,pl),YD vo (2^(nm r).toNat),Yb,[]⟩ 0))=S7 nu ha (nm o) ⟨Ya b,Ya (b,pl),YD vo (YD vo (2^(nm r).toNat)),Yb,rp⟩ db:=by
    rw[Al nmr d0,hear2]
    ·rw[hear2];exact ahd
    ·rw[hear2]
   refine Xg aY rfl rfl D2 hh1 ho ltr (by rw[eo2];show 1<=880;decide) λA3 l ys D3 gl ev=>?_;rw[eo2,er2,e2]at ev;cases ev;rw[eo2,er2,e2]at D3;cbv;refine wW gl (D3.at Yl) ?_;cbv;intro z A4 hz s4 g4;have D4:=D3.same s4;refine wW (D4.at Yl) g4 ?_;cbv;refine⟨Ya (.int r),Ya (.ref du),_,_,?_,D4.tail rfl,WL,sV2,λj hj=>?_,by omega⟩
   ·show[_,_,_,_,_,Ya (V.int (((1+ k:Nat):Int)+ 1)),_,_]=_;rw[show((1+ k:Nat):Int)+ 1=((1+ (k+ 1):Nat):Int) by omega]
   ·have hj':=ua hj;have njo:j≠o:=λz=>ndo (z▸hj');have njr:j≠r:=λz=>by
     rw[z]at hj;have nd2:=ndR;rw[←Bn (k+ 1) R,tk]at nd2;exact(fi.mp nd2).2.2 r (YW _ (Yy.mpr rfl)) r hj rfl
    rw[W9 njo,W9 njr];exact er j (by rw[show R.drop (k+ 1)=(R.drop k).drop 1 by rw[List.drop_drop]]at hj;exact ua hj)
 ·rintro σ A ⟨u6,u7,stt,vo,rfl,DA,eo,sV,er,mk⟩;rw[show(qi R).length=R.length from Yi _]at mk;omega
theorem adG{l m:List Int}(h:l.Perm m):l.sum=m.sum:=by
 induction h with
 |nil=>rfl
 |cons x _ ih=>rw[gX,gX,ih]
 |swap x y l=>rw[gX,gX,gX,gX];omega
 |trans _ _ h1 h2=>exact h1.trans h2
theorem WF(h0:0<=n)(h1:n<9223372036854775808):fH n (GB.hl n):=by
 refine⟨h0,h1,λi=>?_⟩;rw[GB.Up];refine⟨λh=>⟨?_,h⟩,λh=>h.2⟩;cases qE i 63 with
 |inl z=>exact z
 |inr z=>
  have:n.toNat<2^i:=YM (by have p63:(2:Nat)^63=9223372036854775808:=(by decide);omega) (oQ (by decide) z);rw[sg this]at h;cases h
theorem aiW(c:L2.Hs hs)(nk:ks.Nodup)(sb:∀k∈ks,k∈hs):fH (ks.map λh=>1*(2:Int)^h.toNat).sum ks:=by
 have ndh:hs.Nodup:=c.up.imp λh z=>by omega
 have p:ks.Perm (hs.filter λh=>decide (h∈ks)):=((kF (ndh.filter _) nk).mpr λa=>by
  rw[cc,decide_eq_true_iff];exact⟨λz=>z.2,λz=>⟨sb a z,z⟩⟩).symm
 have cf:L2.Hs (hs.filter λh=>decide (h∈ks)):=⟨c.up.sublist List.filter_sublist,λx hx=>c.rg x (cc.mp hx).1⟩;obtain⟨s0,s1,s2⟩:=cf.set;rw[adG (p.map λh=>1*(2:Int)^h.toNat)];have:=WF s0 s1;rw[s2]at this;exact Ce this λz=>p.symm.mem_iff
section
theorem Wn.nil(t:eX Pt H):Wn K mg Pt H [] stt []:=⟨[],⟨(λ_ _ z=>nomatch z),(λ_ _ _ _ z=>nomatch z),(λ_ _ z=>nomatch z),t,(λ_ z=>nomatch z)⟩,rfl,(λ_ _ z=>nomatch z)⟩
theorem Wn.put{xs ys:List V}(D:Wn K mg Pt H ps stt ((l,HO.lst xs)::ls))(ne:∀e∈ls,e.1≠l)(b:∀a o,H a=Ya o->a≠l->H' a=Ya o)(g:H' l=Ya (.lst ys)):Wn K mg Pt H' ps stt ((l,HO.lst ys)::ls):=by
 obtain⟨W,d,e,f⟩:=D;obtain⟨hl,nPl,nF⟩:=d.ls _ Yl;have o:Off (λa=>a=l) H H':=⟨λa u h n=>b a u h n,λa xs h=>b a _ h (bj h hl (by intro z;cases z)),λa φ h=>b a _ h (bj h hl (by intro z;cases z))⟩;refine⟨W,⟨λi w h=>(d.hd i w h).off o λa fa z=>nF i w h (z▸fa),d.dj,d.nP,eX.off d.tb o λz=>nPl z.symm,λu hu=>?_⟩,e,f⟩;rcases YC.mp hu with rfl|hu
 ·exact⟨g,nPl,nF⟩
 ·obtain⟨q1,q2⟩:=d.ls u (Yk _ hu);exact⟨b _ _ q1 (ne u hu),q2⟩
theorem Wn.push(D:Wn K mg Pt H ps stt ls)(s:aO H H')(h:jA K mg H' G p S x)(g:∀a,G a->H a=Yb):Wn K mg Pt H' (ps++[p]) (yS stt ps.length S) ls:=by
 obtain⟨W,d,e,f⟩:=D;have d':=d.same s;have lW:W.length=ps.length:=by rw[←e,Yi]
 have cs:∀{i:Nat} {u:WE},(W++[⟨p,S,G,x⟩])[i]?=Ya u->(i<W.length/\W[i]?=Ya u)∨(i=W.length/\u=⟨p,S,G,x⟩):=fun{i u} z=>by
  rcases qE i W.length with y|y
  ·rw[fu y]at z;exact .inl ⟨y,z⟩
  ·rw[eW y]at z;obtain⟨z1,z2⟩:=Yp.mp z;simp only[fv]at z1;have:i-W.length=0:=by omega
   simp only[this,List.getElem_cons_zero]at z2;exact .inr ⟨by omega,z2.symm⟩
 refine⟨W++[⟨p,S,G,x⟩],⟨λi w hw=>?_,λi j u v hu hv n a fa ga=>?_,λi w hw=>?_,d'.tb,λu hu=>?_⟩,by rw[YK,e];rfl,λi w hw=>?_⟩
 ·rcases cs hw with⟨_,z⟩|⟨_,rfl⟩
  ·exact d'.hd i w z
  ·exact h
 ·rcases cs hu with⟨_,zu⟩|⟨eu,rfl⟩
  ·rcases cs hv with⟨_,zv⟩|⟨ev,rfl⟩
   ·exact d.dj i j u v zu zv n a fa ga
   ·exact(d.hd i u zu).dm a fa (g a ga)
  ·rcases cs hv with⟨_,zv⟩|⟨ev,rfl⟩
   ·exact(d.hd j v zv).dm a ga (g a fa)
   ·exact n (eu.trans ev.symm)
 ·rcases cs hw with⟨_,z⟩|⟨_,rfl⟩
  ·exact d.nP i w z
  ·intro z;obtain⟨ps',q⟩:=eX.some d.tb;rw[g _ z]at q;cases q
 ·obtain⟨q1,q2,q3⟩:=d'.ls u hu;refine⟨q1,q2,λi w hw=>?_⟩;rcases cs hw with⟨_,z⟩|⟨_,rfl⟩
  ·exact q3 i w z
  ·intro z;have:=(d.ls u hu).1;rw[g _ z]at this;cases this
 ·unfold yS;rcases cs hw with⟨zl,z⟩|⟨zl,rfl⟩
  ·rw[if_neg (by omega)];exact f i w z
  ·rw[if_pos (by omega)]
end
theorem agW(ns:List Int)(h:Int):((ns.map F2).any λz=>z.eqv (.int h))=decide (h∈ns):=by
 rw[List.any_map,eD,eR,decide_eq_true_iff];constructor
 ·rintro⟨x,hx,e⟩;have:x=h:=by
   have e':(x==h)=true:=e;exact eq_of_beq e'
  exact this▸hx
 ·intro hh;exact⟨h,hh,beq_self_eq_true (a:=h)⟩
theorem Wm{H:Hp}:∀ns:List Int,Dps K H (ns.map V.int) (ns.map F2)
 |[]=>.nil
 |n::ns=>.cons (.int n) (Wm ns)
theorem lay_ints:∀ns:List Int,nh (ns.map F2)=true
 |[]=>rfl
 |n::ns=>by rw[YQ,mS,lay_ints ns];rfl
theorem ai7(ha:bI K H a (ns.map V.int))(q:Q (.bl (!decide (h∈ns))) H):ah6 K true (.int h) (.ref a) H Q:=
 ⟨a,_,_,_,rfl,.inl ha,Wm ns,.int h,lay_ints ns,rfl,by show 0<=60;decide,by rw[agW];exact q⟩
noncomputable abbrev ixI(R:List Nat):List Int:=R.map fun(i:Nat)=>(i:Int)
theorem RP(R:List Nat):qi R=(ixI R).map V.int:=by rw[iA];rfl
theorem Hw(R:List Nat)(i:Nat):qi (R++[i])=qi R++[V.int (i:Int)]:=YK
theorem ac0(R:List Nat)(k:Nat):((ixI R).map V.int).eraseIdx k=qi (R.eraseIdx k):=by
 rw[←RP,l9,l9];show(R.map _).take k++(R.map _).drop (k+ 1)=List.map _ (R.take k++R.drop (k+ 1));rw[YK,HI,HK]
theorem scr{xs:List V}(h:bI K H a xs)(t:H Pt=Ya (.tbl #[])):∃ls0,(∀stt,Wn K mg Pt H [] stt ls0)/\(∀e∈ls0,H e.1=Ya e.2)/\∀{H':Hp} {ps:List Yc} {stt:Nat->Hs} {ls:List (Yc×HO)},Wn K mg Pt H' ps stt ls->(∀e∈ls0,e∈ls)->bI K H' a xs:=by
 have mk:∀o,H a=Ya o->(∀ps,o≠.tbl ps)->∀stt,Wn K mg Pt H [] stt [(a,o)]:=λo e n stt=>⟨[],⟨(λ_ _ z=>nomatch z),(λ_ _ _ _ z=>nomatch z),(λ_ _ z=>nomatch z),.inl t,λu hu=>by
  rw[Yy.mp hu];exact⟨e,(λz=>by have z:a=Pt:=z;rw[z,t]at e;cases e;exact n _ rfl),(λ_ _ z=>nomatch z)⟩⟩,rfl,(λ_ _ z=>nomatch z)⟩
 rcases h with(h|⟨o,h⟩)|h
 ·exact⟨[(a,.lst xs)],mk _ h (by intro _ z;cases z),λe he=>by rw[Yy.mp he];exact h,λD m=>.inl (.inl (D.at (m _ (Yy.mpr rfl))))⟩
 ·exact⟨[(a,.frz o (.lst xs))],mk _ h (by intro _ z;cases z),λe he=>by rw[Yy.mp he];exact h,λD m=>.inl (.inr ⟨o,D.at (m _ (Yy.mpr rfl))⟩)⟩
 ·exact⟨[],(λ_=>Wn.nil (.inl t)),(λ_ z=>nomatch z),λ_ _=>.inr h⟩
theorem ah8:(i:Int)∈ixI R↔i∈R:=by
 rw[YF];exact⟨fun⟨j,hj,e⟩=>by rwa [show i=j by omega],λh=>⟨i,h,rfl⟩⟩
theorem W5{α:Type}(p:α->Bool):∀l:List α,(l.filter p).length+ (l.filter λx=>!p x).length=l.length
 |[]=>rfl
 |x::l=>by
  have:=W5 p l;cases e:p x with
  |true=>
   rw[mf e,mh (by rw[e];decide),YT,YT];omega
  |false=>
   rw[mh (by rw[e];decide),mf (by rw[e];decide),YT,YT];omega
noncomputable def JQ(n:Nat)(Z:List Nat):List Nat:=(cS n).filter λj=>!decide (j∈Z)
theorem aco{n:Nat}(zd:Z.Nodup)(zl:∀z∈Z,z<n):(JQ n Z).length+ Z.length=n:=by
 have h:=W5 (λj=>decide (j∈Z)) (cS n);have p:((cS n).filter λj=>decide (j∈Z)).length=Z.length:=((kF (y8.filter _) zd).mpr λa=>by
  rw[cc,decide_eq_true_iff,fb];exact⟨λz=>z.2,λz=>⟨zl a z,z⟩⟩).length_eq
 rw[cK,p]at h;unfold JQ;omega
theorem afm(t:Nat)(Z:List Nat):JQ (t+ 1) Z=JQ t Z++if t∈Z then[]else[t]:=by
 unfold JQ;rw[qh,mB];congr 1;by_cases z:t∈Z
 ·rw[if_pos z,mh (by rw[decide_eq_true z];decide)];rfl
 ·rw[if_neg z,mf (by rw[decide_eq_false z];decide)];rfl
theorem aeE(h:R[k]?=Ya o):(o::R.eraseIdx k).Perm R:=by
 obtain⟨kl,e⟩:=Yp.mp h;rw[l9];have:R=R.take k++o::R.drop (k+ 1):=by
  rw[←e,←xo kl,Bn]
 exact List.perm_middle.symm.trans (by rw[←this])
structure C7(hs:List Int)(ha:Int)(n:Nat)(nm:Nat->Int)(o:Nat)(R Z:List Nat):Prop where
 gp:Gp hs ha
 ln:hs.length=n
 n3:3<=n
 n5:n<=5
 nd:(o::R).Nodup
 ndm:((o::R).map nm).Nodup
 lt:∀r∈o::R,r<n
 sb:∀r∈o::R,nm r∈hs
 zn:Z≠[]
 zd:(Z.map nm).Nodup
 zl:∀z∈Z,z<n
 zm:∀z∈Z,nm z∈hs
 zs:∀z∈Z,nm z∉(o::R).map nm
 cov:∀h∈hs,h∈Z.map nm∨h∈(o::R).map nm
 maj:2*(R.length+ 1)>n
section
variable{n:Nat}
theorem C7.of{n:Nat}(gp:Gp hs ha)(ln:hs.length=n)(n3:3<=n)(n5:n<=5)(zn:Z≠[])(zd:Z.Nodup)(zl:∀z∈Z,z<n)(z2:2*Z.length<n)(h:(JQ n Z)[k]?=Ya o):C7 hs ha n (λj=>hs.getD j 0) o ((JQ n Z).eraseIdx k) Z:=by
 have p:=aeE h;have ndr:(JQ n Z).Nodup:=y8.filter _;have mr:∀{r:Nat},r∈o::(JQ n Z).eraseIdx k↔r<n/\r∉Z:=fun{r}=>by
  rw[p.mem_iff];unfold JQ;rw[cc,fb];exact⟨λz=>⟨z.1,λy=>by rw[decide_eq_true y]at z;exact absurd z.2 (by decide)⟩,λz=>⟨z.1,by rw[decide_eq_false z.2];rfl⟩⟩
 have gd:∀{r:Nat} (h:r<n),hs.getD r 0=hs[r]'(ln▸h):=fun{r} h=>by rw[YU,Yo (ln▸h)];rfl
 have inj:∀{r s:Nat},r<n->s<n->hs.getD r 0=hs.getD s 0->r=s:=fun{r s} h1 h2 e=>by
  rw[gd h1,gd h2]at e;rcases EA r s with z|z|z
  ·exact absurd e (hX.mp gp.nd r s _ _ z)
  ·exact z
  ·exact absurd e.symm (hX.mp gp.nd s r _ _ z)
 have mem:∀{r:Nat},r<n->hs.getD r 0∈hs:=fun{r} h=>by rw[gd h];exact ja _
 have ndm:∀{L:List Nat},L.Nodup->(∀r∈L,r<n)->(L.map λj=>hs.getD j 0).Nodup:=fun{L} nd lt=>by
  unfold List.Nodup;rw[rX];exact List.Pairwise.imp_of_mem (fun{a b} ma mb ne e=>ne (inj (lt a ma) (lt b mb) e)) nd
 have ndo:(o::(JQ n Z).eraseIdx k).Nodup:=p.symm.nodup ndr;have lto:∀r∈o::(JQ n Z).eraseIdx k,r<n:=λr hr=>(mr.mp hr).1;have len:=aco zd zl;have le:=p.length_eq;rw[YT]at le;refine⟨gp,ln,n3,n5,ndo,ndm ndo lto,lto,λr hr=>mem (lto r hr),zn,ndm zd zl,zl,λz hz=>mem (zl z hz),λz hz y=>?_,λh hh=>?_,by omega⟩
 ·obtain⟨r,hr,e⟩:=YF.mp y;have:=inj (lto r hr) (zl z hz) e;exact(mr.mp hr).2 (this▸hz)
 ·obtain⟨i,hi,rfl⟩:=List.mem_iff_getElem.mp hh;have hi':i<n:=ln▸hi;rw[←gd hi'];by_cases z:i∈Z
  ·exact .inl (Y6 (f:=λj=>hs.getD j 0) z)
  ·exact .inr (Y6 (f:=λj=>hs.getD j 0) (mr.mpr ⟨hi',z⟩))
theorem C7.pre(C:C7 hs ha n nm o R Z)(k:Nat):((o::R.take k).map nm).Nodup/\(∀x∈(o::R.take k).map nm,x∈hs)/\∀x∈(o::R.take k).map nm,x∈(o::R).map nm:=by
 have sub:y7 ((o::R.take k).map nm) ((o::R).map nm):=((iP _ _).cons_cons o).map nm;refine⟨sub.nodup C.ndm,λx hx=>?_,λx hx=>sub.mem hx⟩;obtain⟨j,hj,rfl⟩:=YF.mp (sub.mem hx);exact C.sb j hj
theorem C7.nq(C:C7 hs ha n nm o R Z)(h:r∈R):nm r≠nm o:=λz=>(aw.mp C.ndm).1 (z▸Y6 h)
theorem C7.few(C:C7 hs ha n nm o R Z)(nk:ks.Nodup)(sb:∀k∈ks,k∈hs)(hz:z∈Z)(nz:nm z∉ks)(nd:dd.toNat.testBit (nm z).toNat=false):eno ha dd ks=false:=by
 rw[aiA C.gp.e C.gp.nd nk sb,decide_eq_false (λh=>(h (nm z) (C.zm z hz)).elim (λy=>by rw[nd]at y;cases y) nz),fe]
theorem C7.ren(C:C7 hs ha n nm o R Z)(m:Int):Uz (S7 nu ha (nm o) RK 0) m=S7 nu ha (nm o) ⟨Ya (m,nm o),Yb,0,Yb,KC ((o::R.take 0).map nm)⟩ 0:=by
 refine ai6 ?_;obtain⟨z,hz⟩:=qk Z C.zn;refine C.few (ks:=[nm o]) (by simp) (λk hk=>by rw[Yy.mp hk];exact C.sb o Yl) hz (λy=>C.zs z hz (by rw[Yy.mp y];exact Y6 Yl)) (cE _)
theorem C7.ask0(C:C7 hs ha n nm o R Z)(h:r∈R)(hb:b.2=nm o):pB (S7 nu ha (nm r) RK 0) (oX (S7 nu ha (nm o) ⟨Ya b,Yb,0,Yb,rp⟩ db))=S7 nu ha (nm r) (cR b) 0:=by
 have e:=al2 (nu:=nu) (ha:=ha) (r:=nm r) (b:=b) (c:=⟨Ya b,Yb,0,Yb,rp⟩) hb (C.nq h) rfl rfl;rw[Al (Ne.symm (C.nq h)) (fF _) (by rw[e];exact Hq hb (C.nq h)) (by rw[e];rfl),e]
theorem C7.ask1(C:C7 hs ha n nm o R Z)(h:r∈R)(hb:b.2=nm o):pB (S7 nu ha (nm r) (cR b) 0) (oX (S7 nu ha (nm o) ⟨Ya b,Yb,0,Yb,rp⟩ db))=S7 nu ha (nm r) (cR b) 0:=by
 have e:=amJ (nu:=nu) (ha:=ha) (r:=nm r) (b:=b) (c:=⟨Ya b,Yb,0,Yb,rp⟩) hb (C.nq h) rfl rfl;rw[Al (Ne.symm (C.nq h)) (fF _) (by rw[e];exact Hq hb (C.nq h)) (by rw[e];rfl),e]
theorem C7.rep(C:C7 hs ha n nm o R Z)(h:R[k]?=Ya r)(hb:b.2=nm o):pB (S7 nu ha (nm o) ⟨Ya b,Yb,0,Yb,KC ((o::R.take k).map nm)⟩ 0) (oX (S7 nu ha (nm r) (cR b) db))=S7 nu ha (nm o) ⟨Ya b,Yb,0,Yb,KC ((o::R.take (k+ 1)).map nm)⟩ 0:=by
 have mr:=YE h;obtain⟨n1,n2,n3⟩:=C.pre (k+ 1);have eK:(o::R.take (k+ 1)).map nm=(o::R.take k).map nm++[nm r]:=by rw[eN h,←Fu,YK];rfl
 have nr:nm r∉(o::R.take k).map nm:=λy=>by
  rw[eK]at n1;exact(fi.mp n1).2.2 _ y _ (Yy.mpr rfl) rfl
 have e:kh (nm o) ha ⟨Ya b,Yb,0,Yb,KC ((o::R.take k).map nm)⟩ (L7 nu ha (nm r) (cR b))=⟨Ya b,Yb,0,Yb,KC ((o::R.take (k+ 1)).map nm)⟩:=by
  rw[amH hb,acf nr,eK]
 obtain⟨z,hz⟩:=qk Z C.zn;rw[Al (C.nq mr) (fF _) ?_ (by rw[e]),e];rw[e,Sv hb,Io];exact C.few n1 n2 hz (λy=>C.zs z hz (n3 _ y)) (cE _)
theorem C7.sus(C:C7 hs ha n nm o R Z)(hb:b.2=nm o)(s:fH h ks)(hz:z∈Z)(nz:nm z∉ks):Qg (S7 nu ha (nm o) ⟨Ya b,Yb,0,Yb,KC ((o::R).map nm)⟩ db) h=S7 nu ha (nm o) ⟨Ya b,Yb,0,Yb,KC ((o::R).map nm)⟩ (Yz h (Yw (2^(nm o).toNat))):=by
 refine akH s.1 ?_ rfl;rw[Sv hb,Io];have n2:∀x∈(o::R).map nm,x∈hs:=λx hx=>by
  obtain⟨j,hj,rfl⟩:=YF.mp hx;exact C.sb j hj
 refine C.few C.ndm n2 hz (C.zs z hz) ?_;rw[(ug s.1 (iw _)).2];have r:=C.gp.rg _ (C.zm z hz);have:h.toNat.testBit (nm z).toNat=false:=by
  rw[dS];intro y;have:=(s.2.2 (nm z).toNat).mp y;rw[i6 r.1]at this;exact nz this
 rw[this,fe]
theorem C7.fire(C:C7 hs ha n nm o R Z)(hb:b.2=nm o)(s:fH h ks)(az:∀z∈Z,nm z∈ks):Qg (S7 nu ha (nm o) ⟨Ya b,Yb,0,Yb,KC ((o::R).map nm)⟩ db) h=S7 nu ha (nm o) ⟨Ya b,Ya (b,(Et ((o::R).map nm),Et ((o::R).map nm),0)),2^(nm o).toNat,Yb,KC ((o::R).map nm)⟩ (Yz h (Yw (2^(nm o).toNat))):=by
 have n2:∀x∈(o::R).map nm,x∈hs:=λx hx=>by
  obtain⟨j,hj,rfl⟩:=YF.mp hx;exact C.sb j hj
 have mo:nm o∈(o::R).map nm:=Y6 Yl;have rg:∀k∈(o::R).map nm,0<=k/\k<63:=λk hk=>C.gp.rg k (n2 k hk);have ro:=rg _ mo;have hf:CN (2^(nm o).toNat) ha=false:=by
  rw[aeW C.gp.e C.gp.a0 C.gp.nd (ks:=[nm o]) (by simp) (λk hk=>by rw[Yy.mp hk];exact n2 _ mo) (qG ro.1 ro.2)];refine decide_eq_false ?_;have:=C.n3;have:=C.ln;simp only[fv];omega
 have e:=agM (nu:=nu) (ha:=ha) (me:=nm o) (db:=db) (c:=⟨Ya b,Yb,0,Yb,KC ((o::R).map nm)⟩) s.1 ?_ rfl (aiN _) hf (b:=b) rfl
 ·rw[e];show S7 _ _ _ ⟨Ya b,Ya (b,plR (nm o) ha (KC ((o::R).map nm)) 0),_,_,_⟩ _=_;rw[anr mo rg C.gp.a0]
 ·rw[Sv hb,Io,aiA C.gp.e C.gp.nd C.ndm n2,fy,decide_eq_true_iff,decide_eq_true_iff];refine⟨λx hx=>?_,by rw[C.ln,Yi,YT];exact C.maj⟩;rcases C.cov x hx with y|y
  ·obtain⟨z,hz,rfl⟩:=YF.mp y;have r:=C.gp.rg _ (C.zm z hz);refine .inl ?_;rw[(ug s.1 (iw _)).2,fy];refine⟨(s.2.2 _).mpr (by rw[i6 r.1];exact az z hz),?_⟩;have bo:=(qG ro.1 ro.2).2.2 (nm z).toNat
   rw[i6 r.1,Yy]at bo;rw[Bool.not_eq_true',dS];intro w;exact C.zs z hz (by rw[bo.mp w];exact mo)
  ·exact .inr y
end
noncomputable def ph(nu ha:Int)(nm:Nat->Int)(o:Nat)(R:List Nat)(co:Cg)(db:Int)(c:Cg):Nat->Hs:=λj=>if j=o then S7 nu ha (nm o) co db else if j∈R then S7 nu ha (nm j) c 0 else S7 nu ha (nm j) RK 0
section
variable{co co' c':Cg}
theorem K9:ph nu ha nm o R co db c o=S7 nu ha (nm o) co db:=if_pos rfl
theorem Wi(h:r∈R)(n:o∉R):ph nu ha nm o R co db c r=S7 nu ha (nm r) c 0:=by
 have ne:r≠o:=λz=>n (z▸h);unfold ph;rw[if_neg ne,if_pos h]
theorem aet(i:Nat):yS (ph nu ha nm o R co db c) o (S7 nu ha (nm o) co' db') i=ph nu ha nm o R co' db' c i:=by
 unfold yS ph;split<;>rfl
theorem akP(i:Nat):yS (λj=>S7 nu ha (nm j) RK 0) o (S7 nu ha (nm o) co db) i=ph nu ha nm o R co db RK i:=by
 unfold yS ph;split
 ·rfl
 ·split<;>rfl
theorem afJ(n:o∉R)(h:∀r∈R,pB (S7 nu ha (nm r) c 0) (oX (S7 nu ha (nm o) co db))=S7 nu ha (nm r) c' 0)(i:Nat):G8 (ph nu ha nm o R co db c) o R i=ph nu ha nm o R co db c' i:=by
 unfold G8;rw[K9];by_cases z:i∈R
 ·rw[if_pos z,Wi z n,Wi z n,h i z]
 ·rw[if_neg z];unfold ph;split
  ·rfl
  ·rfl
theorem amo(h:r∈R++[o])(n:o∉R):∃q,ph nu ha nm o R co db c r=S7 nu ha (nm r) q (if r=o then db else 0)/\(q=co∨q=c):=by
 rcases ai.mp h with h|h
 ·have ne:r≠o:=λz=>n (z▸h);exact⟨c,by rw[Wi h n,if_neg ne],.inr rfl⟩
 ·rw[Yy.mp h];exact⟨co,by rw[K9,if_pos rfl],.inl rfl⟩
theorem Uy(n:o∉R)(h1:co.b=Ya b)(h2:c.b=Ya b):∀r∈R++[o],(ph nu ha nm o R co db c r).lg.length=1/\∃c' cb,(ph nu ha nm o R co db c r).st=Ya (nu,ha,c',cb)/\c'.b=Ya b:=λr hr=>by
 obtain⟨q,e,hq⟩:=amo (nu:=nu) (ha:=ha) (nm:=nm) (co:=co) (db:=db) (c:=c) hr n;rw[e];exact⟨rfl,q,_,rfl,hq.elim (λz=>z▸h1) λz=>z▸h2⟩
end
theorem adh(xs:List V)(k:Int)(h:0<=k):FJ xs Yb (Ya k)=xs.take k.toNat:=by
 obtain⟨n,rfl⟩:=cw h;unfold FJ;have e1:HT.lN xs.length 0 Yb=0:=rfl;have e2:HT.lN xs.length xs.length (Ya (n:Int))=min n xs.length:=by
  show(if(n:Int)<0 then((n:Int)+ (xs.length:Nat)).toNat else min (n:Int).toNat xs.length)=_;rw[if_neg (by omega),YA]
 rw[e1,e2,List.drop_zero,Nat.sub_zero,YA];rcases ID n xs.length with z|z
 ·rw[FY z]
 ·rw[Fs z,Y5,AI z]
theorem agI(Z:List Nat):FJ (qi Z) (Ya 1) Yb=qi (Z.drop 1):=by
 rw[GK _ _ (by decide)];exact HK.symm
theorem agN(Z:List Nat):FJ (qi Z) Yb (Ya 1)=qi (Z.take 1):=by
 rw[adh _ _ (by decide)];exact HI.symm
noncomputable def Ql(nm:Nat->Int)(L:List Nat):List Int:=(L.map nm).map λh=>1*(2:Int)^h.toNat
theorem HY(nm:Nat->Int)(L:List Nat)(i:Nat):(Ql nm (L++[i])).map V.int=(Ql nm L).map V.int++[V.int (1*(2:Int)^(nm i).toNat)]:=by
 unfold Ql;rw[YK,YK,YK];rfl
theorem Lr(nm:Nat->Int)(L:List Nat):((Ql nm L).map V.int).length=L.length:=by
 unfold Ql;rw[Yi,Yi,Yi]
section
variable{n:Nat}
theorem C7.bs(C:C7 hs ha n nm o R Z)(hc:L2.Hs hs)(nl:(L.map nm).Nodup)(sb:∀z∈L,nm z∈hs):fH (Ql nm L).sum (L.map nm):=aiW hc nl λk hk=>by
 obtain⟨z,hz,rfl⟩:=YF.mp hk;exact sb z hz
theorem C7.zsub(C:C7 hs ha n nm o R Z)(hc:L2.Hs hs)(s:y7 L Z):fH (Ql nm L).sum (L.map nm):=C.bs hc ((s.map nm).nodup C.zd) λz hz=>C.zm z (s.mem hz)
theorem C7.l1(C:C7 hs ha n nm o R Z):∃z∈Z,nm z∉(Z.drop 1).map nm:=by
 have zd:=C.zd;cases Z with
 |nil=>exact absurd rfl C.zn
 |cons z Z=>exact⟨z,Yl,(aw.mp zd).1⟩
noncomputable def aaS(Z:List Nat):List Nat:=if 1<Z.length then Z.take 1 else[]
theorem C7.l2(C:C7 hs ha n nm o R Z):∃z∈Z,nm z∉(aaS Z).map nm:=by
 have zd:=C.zd;unfold aaS;split
 ·next h=>
  cases Z with
  |nil=>exact absurd rfl C.zn
  |cons z Z=>
   cases Z with
   |nil=>exact absurd h (by show ¬ 1<1;decide)
   |cons y Z=>exact⟨y,by simp,λw=>by
     have w:nm y∈[nm z]:=w;have zd:(nm z::nm y::Z.map nm).Nodup:=zd;exact(aw.mp zd).1 (by rw[Yy.mp w];exact Yl)⟩
 ·obtain⟨z,hz⟩:=qk Z C.zn;exact⟨z,hz,λw=>nomatch w⟩
theorem aeA(Z:List Nat):y7 (aaS Z) Z:=by
 unfold aaS;split
 ·exact iP _ _
 ·exact Fc _
end
section
variable{n:Nat}
theorem C7.rg(C:C7 hs ha n nm o R Z):∀k∈(o::R).map nm,0<=k/\k<63:=λk hk=>by
 obtain⟨j,hj,rfl⟩:=YF.mp hk;exact C.gp.rg _ (C.sb j hj)
theorem C7.on(C:C7 hs ha n nm o R Z)(hc:L2.Hs hs):(Ql nm (R++[o])).sum=Et ((o::R).map nm):=by
 have p:((R++[o]).map nm).Perm ((o::R).map nm):=(List.perm_append_comm (l₁:=R) (l₂:=[o])).map nm;have s:=C.bs hc (L:=R++[o]) (p.symm.nodup C.ndm) λz hz=>C.sb z (by
  rcases ai.mp hz with y|y
  ·exact Yk _ y
  ·rw[Yy.mp y];exact Yl)
 rw[Ig s λh hh=>(C.rg h (p.mem_iff.mp hh)).1];exact SJ λx=>p.mem_iff
theorem C7.has(C:C7 hs ha n nm o R Z):∀r∈o::R,gU (Et ((o::R).map nm)) (nm r)=true:=λr hr=>by
 have r0:=C.rg _ (Y6 hr);exact((J0 C.rg).2.2 _).mpr (by rw[i6 r0.1];exact Y6 hr)
theorem C7.gs(C:C7 hs ha n nm o R Z)(h1:ha<9223372036854775808):fH ha hs:=by
 have:=WF C.gp.a0 h1;rwa [C.gp.e]at this
end
theorem agC{sp:Sp}{dvs:List V}{t:TA}(h:t σ H λvs H1=>∀x dx H',H1 x=Yb->aO H1 H'->H' x=Ya (.ins C dx [])->sp (.ref x::(vs++dvs)) H' (λv H2=>v=.non/\Q (.ref x) H2) E0)(mono:∀{P Q':List V->Hp->Prop},(∀vs H,P vs H->Q' vs H)->t σ H P->t σ H Q'):agd C sp dvs E0 t σ H Q:=
 mono (λvs H1 k x dx hx hd ne=>k x dx _ hx (λb o z=>by rw[aK (aP z hx),aK (aP z hd)];exact z) aB) h
theorem ig:aD ["_law_script","_law_size","_law_names","_law_number","_law_group","_law_hands_here","_law_silent_here","_law_rest","_law_one","_law_more","_law_ballot","_law_there","_law_at","_law_lacks","_law_some","_law_feared","_law_on"] ["_law_script"] (aA Qv):=gF
variable{Gd:Yc}{zY:Yc}{yL:Yc}{Ao:Yc}{Hh:Yc}{DG:Yc}{J7:Yc}{G4:Yc}{Bd:Yc}{Dz:Yt}{yo:Yt}{nH:Yt}{yz:Yt}{Ed:Yt}{zp:Yt}{GJ:Yt}{Du:Yt}{xY:Yt}{tp0_Hand___init__:l7}(vX:∅ 14 uF lC tY (iV K mg))(G5:∅ 14 Gd Dz QJ (Eg K mg P_mk))(Im:Binds K Dz QJ [])(sy:∅ 14 zY yo Dy (yN K mg P_mk))(rD:Binds K yo Dy [])(zx:∅ 14 Ai wY ie (qy K mg P_mk))(yI:∅ 13 yL nH Kg (wH K mg))(BP_Hand___init__:Binds K nH Kg [.int 8 tp0_Hand___init__])(Lb:Binds K nH Kg [])(dg:∅ 14 Ao yz Ut (yt K))(cX:gW K mg "_law_cell_at" Ao yz Ut)(Gy:∅ 14 Hh Ed V0 (DQ K))(Hm:gW K mg "_law_hands" Hh Ed V0)(Eb:∅ 14 DG zp Wl (zB K))(Df:gW K mg "_law_silent" DG zp Wl)(Ag:∅ 14 J7 GJ Xn (GZ K mg P_mk))(Aa:gW K mg "_law_asks" J7 GJ Xn)(wX:∅ 14 G4 Du WN (Dm K mg P_mk))(wN:gW K mg "_law_still" G4 Du WN)(Bf:∅ 14 Bd xY UL (yr K mg P_mk))(Ar:gW K mg "_law_settles" Bd xY UL)(Wr:mg "sum"=Yb)(Mt:Mk K bB yL)(jH:bU K bB "renew" Gd)(fO:bU K bB "suspect" zY)
include eV vX cJ uV G5 Im sy rD zx jf yI BP_Hand___init__ Lb dg cX Gy Hm Eb Df Ag Aa wX wN Bf Ar iD Ci Wr aJ aY Mt dz cB jH fO in
theorem ajT(F:bW K "law" "law" Qv f fd):∅ 15 f fd ["_law_script"] (Tr K P_mk):=by
 refine F.oj ig ?_;rintro _ A _ _ _ _ _ _ hr hu64 _ _ ⟨a,ks,rfl,h⟩;refine⟨_,(ak (aV (i:=1) ig.nd rfl (Or.inl rfl) (bL mJ aC (bL mQ (bh dg cX hr (aj (pv 0) (aj aC ao))) aC)))
   (ak (aV (i:=2) ig.nd rfl (Or.inr rfl) (bh Gy Hm hr (aj (bL xg (bh dg cX hr (aj (pv 0) (aj aC ao))) aC) (aj (pv 1) ao))))
   (ak (aV (i:=3) ig.nd rfl (Or.inr rfl) (bL mQ (bh dg cX hr (aj (pv 0) (aj aC ao))) (bL mJ (bL aen aC aC) aC)))
   (ak (aV (i:=4) ig.nd rfl (Or.inr rfl) (cj (Cz rfl) (by rfl) Wr oa (aj (cu ["_law_name"] [Yb] rfl rfl (by kernel_rfl) (bC (K:=K) rfl (pv 2)) (λ_ _ _ _ _ nd=>aW (i:=0) nd rfl (Or.inl rfl)) (λ_ _ _ _ _=>dB) (λ_ _ _ _ _=>(bL Av aC (pv 0)))) ao)))
   (ak (Ln (i:=5) ["_law_group","_law_number","_law_name"] [Ya 4,Ya 3,Yb] ig.nd rfl (Or.inl rfl) rfl rfl (by kernel_rfl) (bC (K:=K) rfl (pv 2)) (λ_ _ _ _ _ nd=>aW (i:=2) nd rfl (Or.inl rfl)) (λ_ _ _ _ _=>dB) (λ_ _ _ _ _=>(Hd Mt yI hr rfl aY BP_Hand___init__ (show Vals [V.int 8] _ from(.cons ⟨_,rfl⟩ .nil)) qZ (aj (pv 2) (aj (pv 0) (aj (pv 1) ao))))))
   (ak (aV (i:=6) ig.nd rfl (Or.inr rfl) (bh Eb Df hr (aj (bh dg cX hr (aj (pv 0) (aj aC ao))) (aj (pv 1) ao))))
   (ak (Ln (i:=7) ["_law_silent_here","_law_at"] [Ya 6,Yb] ig.nd rfl (Or.inl rfl) rfl rfl (by kernel_rfl) (Jx rfl Ci (aj (pv 1) ao)) (λ_ _ _ _ _ nd=>aW (i:=1) nd rfl (Or.inl rfl)) (λ_ _ _ _ _=>(jL (aX (ahC (K:=K) rfl hu64) (pv 1) (pv 0) (by rfl)))) (λ_ _ _ _ _=>(pv 1)))
   (ak (aV (i:=8) ig.nd rfl (Or.inl rfl) (bf (cA (K:=K) rfl) (pv 7) (bL mQ (bh dg cX hr (aj (pv 0) (aj aC ao))) (cj (fB (K:=K) rfl) (by rfl) iD dP (aj (pv 7) ao))) (λ_ _=>rfl)))
   (ak (bT (aac (K:=K) rfl (Vx i4 PySem.F.slot_list_remove PySem.F.type_list_remove acG (pv 7) (aj (pv 8) ao))))
   (ak (aV (i:=9) ig.nd rfl (Or.inl rfl) (bL mJ aC (bL mQ (bh dg cX hr (aj (pv 0) (aj aC ao))) (bL aen aC aC))))
   (ak (aV (i:=10) ig.nd rfl (Or.inl rfl) (eY (aj (pv 9) (aj (bf (cA (K:=K) rfl) (pv 2) (pv 8) (λ_ _=>rfl)) ao))))
   (ak (aV (i:=11) ig.nd rfl (Or.inl rfl) (eY (aj (pv 3) (aj (pv 4) ao))))
   (ak (cF (PW.pt (Ka (aX (pM (K:=K) rfl hu64) (bD (cH.cons aJ.cl jH G5 Im cH.nil) (bf (cA (K:=K) rfl) (pv 5) (pv 8) (λ_ _=>rfl)) hr (aj (pv 9) ao)) (eU ao) (bc _)) (Fz (aX (pM (K:=K) rfl hu64) (bh Ag Aa hr (aj (pv 5) (aj (pv 8) (aj (pv 7) ao)))) (eU ao) (bc _))))) (aq (aR qQ)) bG)
   (ak (jc Y8 rfl (bC (K:=K) rfl (pv 7)) (aW (i:=12) ig.nd rfl (Or.inl rfl))
   (aq (cF (aX (pM (K:=K) rfl hu64) (bD (cH.cons aJ.cl dz zx jf cH.nil) (bf (cA (K:=K) rfl) (pv 5) (pv 8) (λ_ _=>rfl)) hr (aj (Gq (bf (cA (K:=K) rfl) (pv 5) (pv 12) (λ_ _=>rfl)) aJ.cl cB vX hr cJ (show Vals [V.int 0,V.non] _ from(.cons ⟨_,rfl⟩ (.cons rfl .nil))) qZ) ao)) (eU ao) (bc _)) (aq (aR qQ)) bG)))
   (ak (aV (i:=13) ig.nd rfl (Or.inl rfl) (eU (aj (cu ["_law_names","_law_at"] [Ya 2,Yb] rfl rfl (by kernel_rfl) (bC (K:=K) rfl (lK (qT (K:=K) rfl) (pv 6) (kW aC) xG)) (λ_ _ _ _ _ nd=>aW (i:=1) nd rfl (Or.inl rfl)) (λ_ _ _ _ _=>dB) (λ_ _ _ _ _=>(bL Av aC (bf (cA (K:=K) rfl) (pv 0) (pv 1) (λ_ _=>rfl))))) (aj (cu ["_law_names","_law_silent_here","_law_at"] [Ya 2,Ya 6,Yb] rfl rfl (by kernel_rfl) (bC (K:=K) rfl (lK (qT (K:=K) rfl) (pv 6) xG (kW aC))) (λ_ _ _ _ _ nd=>aW (i:=2) nd rfl (Or.inl rfl)) (λ_ _ _ _ _=>(jL (aX Qp (cj (fB (K:=K) rfl) (by rfl) iD dP (aj (pv 1) ao)) aC (bc _)))) (λ_ _ _ _ _=>(bL Av aC (bf (cA (K:=K) rfl) (pv 0) (pv 2) (λ_ _=>rfl))))) ao))))
   (ak (jc Y8 rfl (bC (K:=K) rfl (pv 13)) (aW (i:=14) ig.nd rfl (Or.inl rfl))
   (ak (cF (PW.pt (Ka (aX (pM (K:=K) rfl hu64) (bD (cH.cons aJ.cl fO sy rD cH.nil) (bf (cA (K:=K) rfl) (pv 5) (pv 8) (λ_ _=>rfl)) hr (aj (cj (Cz rfl) (by rfl) Wr oa (aj (pv 14) ao)) ao)) (eU ao) (bc _)) (Fz (aX (pM (K:=K) rfl hu64) (bh Ag Aa hr (aj (pv 5) (aj (pv 8) (aj (pv 7) ao)))) (eU ao) (bc _))))) (aq (aR qQ)) bG)
   (aq (cF (Bh (cT K rfl (bh wX wN hr (aj (pv 5) (aj (bL Ms (pv 7) (eU (aj (pv 8) ao))) (aj (pv 11) (aj (pv 10) ao))))))) (aq (aR qQ)) bG))))
   (ak (aV (i:=15) ig.nd rfl (Or.inl rfl) (cj (Cz rfl) (by rfl) Wr oa (aj (cu ["_law_names","_law_at"] [Ya 2,Yb] rfl rfl (by kernel_rfl) (bC (K:=K) rfl (pv 6)) (λ_ _ _ _ _ nd=>aW (i:=1) nd rfl (Or.inl rfl)) (λ_ _ _ _ _=>dB) (λ_ _ _ _ _=>(bL Av aC (bf (cA (K:=K) rfl) (pv 0) (pv 1) (λ_ _=>rfl))))) ao)))
   (ak (cF (aX yP (bL mQ (bL xg (bh dg cX hr (aj (pv 0) (aj aC ao))) aC) aC) aC (bc _)) (aq (aV (i:=15) ig.nd rfl (Or.inl rfl) (pv 4))) bG)
   (ak (cF (aX yP (bL mQ (bL xg (bh dg cX hr (aj (pv 0) (aj aC ao))) aC) aC) aC (bc _)) (aq (aV (i:=15) ig.nd rfl (Or.inl rfl) (bL NK (pv 15) (bL Av aC (bf (cA (K:=K) rfl) (pv 2) (bf (cA (K:=K) rfl) (pv 7) (bL mQ (bL xg (bh dg cX hr (aj (pv 0) (aj aC ao))) aC) (cj (fB (K:=K) rfl) (by rfl) iD dP (aj (pv 7) ao))) (λ_ _=>rfl)) (λ_ _=>rfl)))))) bG)
   (ak (cF (PW.pt (Ka (aX (pM (K:=K) rfl hu64) (bD (cH.cons aJ.cl fO sy rD cH.nil) (bf (cA (K:=K) rfl) (pv 5) (pv 8) (λ_ _=>rfl)) hr (aj (pv 15) ao)) (eU ao) (bc _)) (Fz (Bh (cT K rfl (bh wX wN hr (aj (pv 5) (aj (bL Ms (pv 7) (eU (aj (pv 8) ao))) (aj (pv 11) (aj (pv 10) ao)))))))))) (aq (aR qQ)) bG)
   (ak (aV (i:=16) ig.nd rfl (Or.inl rfl) (cj (Cz rfl) (by rfl) Wr oa (aj (cu ["_law_names","_law_at"] [Ya 2,Yb] rfl rfl (by kernel_rfl) (bC (K:=K) rfl (bL Ms (pv 7) (eU (aj (pv 8) ao)))) (λ_ _ _ _ _ nd=>aW (i:=1) nd rfl (Or.inl rfl)) (λ_ _ _ _ _=>dB) (λ_ _ _ _ _=>(bL Av aC (bf (cA (K:=K) rfl) (pv 0) (pv 1) (λ_ _=>rfl))))) ao)))
   (aq (aR (bh Bf Ar hr (aj (pv 5) (aj (pv 8) (aj (pv 7) (aj (pv 1) (aj (eY (aj Fe (aj (bL mJ (pv 3) aC) (aj (pv 16) (aj (pv 16) (aj aC ao)))))) ao))))))))))))))))))))))))))))),?_⟩
 refine anv ?_;intro _ _ _ _ _ _ _ _ _ _ _ _ _ _ _ _ _ _ _ _;have hob:∀{A:Hp} {x1:Lj} {S1:Hs} {F1:Yc->Prop} {p:Yc},jA K mg A F1 p S1 x1->x1.C=bB:=λh=>by have:=h.mH;rw[aY]at this;cases this;rfl
 obtain⟨hS,hlen,hP,kk⟩:=h;obtain⟨ls0,DL,gL,sc⟩:=scr (mg:=mg) hS hP;cbv;refine⟨a,0,rfl,ks,hS,by decide,λc0=>?_⟩;have q0:=iN c0 (show(3:Int)≠0 by decide);have q1:=hW c0 (show(0:Int)<3 by decide);obtain⟨n,en⟩:=cw (show 0<=3+ c0%3 by omega);cbv;refine⟨a,0,rfl,ks,hS,by decide,λc1=>?_⟩;rw[en];cbv;refine⟨_,_,rfl,by omega,by omega,λH1 nl aa bb s1 hnl a0 a1 b0 b1 g1=>?_⟩;rw[YA]at g1;have hc:=ajR a0 a1 b0 b1 (show n<=5 by omega);have lh:(hnd aa bb n).length=n:=by unfold hnd;rw[Yi,cK]
 generalize hnd aa bb n=hs at g1 hc lh;have hS1:=s1.seq hS;have DL1:∀stt,Wn K mg P_mk H1 [] stt ((nl,HO.lst (hs.map V.int))::ls0):=λstt=>(DL stt).add s1 hnl g1;cbv;refine⟨a,1,rfl,ks,hS1,by decide,λc2=>?_⟩;have sl1:=bI.of (K:=K) g1;have hP1:=s1 _ _ hP;cbv;intro D0 hD0;refine bO (K:=K) (a:=nl) (xs:=hs.map V.int) (λi σ H'=>∃v,A3 (σ=[v]) (aO H1 H') (H' D0=Ya (.lst (((hs.take i).map λh=>1*(2:Int)^h.toNat).map V.int)))) ⟨Yb,rfl,aF hD0,aB⟩ ?_ ?_ ?_
 ·rintro i σ H' _ ⟨_,_,z,_⟩;exact bI.of (z _ _ g1)
 ·rintro i x σ H' hx ⟨v,rfl,sm,hDx⟩;obtain⟨h,hh,rfl⟩:=IK hx;have hi:=(Yp.mp hh).1;have hr:=hc.rg h (YE hh);have cp:acX 1 h:=⟨hr.1,by omega,by decide⟩;cbv;refine⟨_,hDx,?_,_,rfl,λb o z=>?_,?_⟩
  ·rw[Yi,Yi,ae];exact aU (by omega)
  ·rw[aK (aP z hD0)];exact sm b o z
  ·rw[aB,eN hh,YK,YK];rfl
 rintro σ H3 ⟨v,rfl,s3,hD3⟩;rw[Yi,Y5]at hD3;refine⟨D0,_,rfl,bI.of hD3,?_⟩;obtain⟨w0,w1,whl⟩:=hc.set;generalize (hs.map λh=>1*(2:Int)^h.toNat).sum=ha at w0 w1 whl⊢;have g13:=s3 _ _ g1;have hS3:=s3.seq hS1;have hP3:=s3 _ _ hP1;have nds:hs.Nodup:=hc.up.imp λh=>by omega
 have gp:Gp hs ha:=⟨whl,w0,nds,hc.rg⟩;have sl3:=bI.of (K:=K) g13;generalize c2%(10^ot 18+ 1)=nu;have ha0:0<ha:=by
  rcases Int.lt_or_eq_of_le w0 with z|z
  ·exact z
  ·rw[←z]at whl;have:=congrArg EK whl;rw[lh]at this;have:(GB.hl 0).length=n:=this;have e0:(GB.hl 0).length=0:=by decide
   omega
 cbv;intro D1 hD1;let jJ8:Nat->St->Hp->Prop:=λi σ A=>E2 λv ps=>A4 (σ=[Ya (.int ha),Ya (.int nu),v]) (ps.length=i) (Wn K mg P_mk A ps (λj=>S7 nu ha (hs.getD j 0) RK 0) ((D1,HO.lst (ps.map V.ref))::(nl,HO.lst (hs.map V.int))::ls0)) (aO H3 A);refine bO (K:=K) (a:=nl) (xs:=hs.map V.int) jJ8 ⟨Yb,[],rfl,rfl,((DL1 _).same s3).add (aF hD1) hD1 aB,aF hD1⟩ ?_ ?_ ?_
 ·rintro i σ A _ ⟨_,_,_,_,_,z⟩;exact bI.of (z _ _ g13)
 ·rintro i x σ A hx ⟨v,ps,rfl,ep,DA,sA⟩;obtain⟨h,hh,rfl⟩:=IK hx;have hi:=(Yp.mp hh).1;have hm:=YE hh;have hr:=hc.rg h hm;cbv;refine agC ?_ λh z=>by obtain⟨v1,e1,v2,e2,v3,e3,z⟩:=z;exact⟨v1,e1,v2,e2,v3,e3,h _ _ z⟩
  cbv;intro p dx Aq1 hp s1' gp1;refine⟨p,h,ha,nu,8,rfl,bB,dx,aY,aJ,gp1,hr.1,hr.2,ha0,w1,λAq2 G x k2 HA gr=>⟨rfl,?_⟩⟩;have sA2:aO A Aq2:=λb o z=>k2 b o (s1' b o z) (λy=>by rw[y,hp]at z;cases z);have gG:∀a,G a->A a=none:=λa z=>(gr a z).elim (λy=>y▸hp) λy=>s1'.free y;have hB:gU ha h=true:=by
   have:h∈GB.hl ha:=by rw[whl];exact hm
   obtain⟨h',rfl⟩:=cw hr.1;exact(GB.Up.mp this).2
  rw[ai8 w0 hB]at HA;have D2:=DA.push sA2 HA gG;have gD:=D2.at Yl;refine⟨_,gD,?_,Ya (.int h),ps++[p],rfl,by rw[YG,ep];rfl,?_,λb o z=>?_⟩
  ·rw[Yi,ep];exact aU (by omega)
  ·have D3:=D2.put (H':=upd Aq2 D1 (HO.lst (ps.map V.ref++[V.ref p]))) (ys:=ps.map V.ref++[V.ref p]) (λe he z=>by have:=s3 _ _ ((DL1 λ_=>S7 0 0 0 RK 0).at he);rw[z,hD1]at this;cases this) (λb o z n=>by rw[aK n];exact z) aB;rw[YK];refine D3.st λj hj=>?_;rw[YG,fv]at hj;unfold yS;split
   ·next y=>rw[y,ep,YU,hh];rfl
   ·rfl
  ·rw[aK (aP z hD1)];exact sA2 b o (sA b o z)
 rintro σ H4 ⟨v,ps,rfl,lps,D4,s4⟩;rw[Yi,lh]at lps;have g14:=s4 _ _ g13;have hS4:=s4.seq hS3;have sl4:=bI.of (K:=K) g14;cbv;refine⟨a,2,rfl,ks,hS4,by decide,λc3=>?_⟩;cbv;refine⟨_,_,rfl,by omega,by omega,λH5 zl Z s5 hzl g5 zne znd zlt zlen=>?_⟩;have D5:=D4.add s5 hzl g5;have hS5:=s5.seq hS4;have g15:=s5 _ _ g14;cbv;refine⟨_,rfl,by omega,by omega,λD6 hD6=>?_⟩;refine Fo (λi σ A=>∃v,A3 (σ=[Ya (.ref zl),v]) (aO H5 A) (A D6=Ya (.lst (qi (JQ i Z))))) ⟨Yb,rfl,aF hD6,aB⟩ ?_ ?_
 ·rintro i σ A hi ⟨v,rfl,sA,gA⟩;have hi:i<n:=by simpa using hi
  have szA:bI K A zl ((ixI Z).map V.int):=by rw[←RP];exact bI.of (sA _ _ g5)
  cbv;rw[show(0+ (i:Int))=(i:Int) by omega];refine ai7 szA ⟨_,rfl,?_⟩;have ei:decide ((i:Int)∈ixI Z)=decide (i∈Z):=by rw[decide_eq_decide];exact ah8
  rw[ei,afm];by_cases z:i∈Z
  ·rw[decide_eq_true z,if_pos z,cy,if_neg (by decide)];exact⟨_,rfl,sA,gA⟩
  ·rw[decide_eq_false z,if_neg z,if_pos (by decide)];cbv;refine⟨_,gA,?_,_,rfl,(λb o z=>by rw[aK (aP z hD6)];exact sA b o z),by rw[aB,Hw]⟩;rw[Yi];unfold JQ;have:=nE (λj=>!decide (j∈Z)) (cS i);rw[cK]at this;exact aU (by omega)
 rintro σ H6 ⟨v,rfl,s6,g6⟩;rw[YA]at g6;have rl:=aco znd zlt;have sl6:=bI.of (K:=K) g6;have lR:(qi (JQ n Z)).length=(JQ n Z).length:=Yi _;have pos:0<(((qi (JQ n Z)).length:Nat):Int):=by rw[lR];omega
 have hS6:=s6.seq hS5;cbv;refine⟨a,3,rfl,ks,hS6,by decide,λc4=>?_⟩;cbv;have k0:=iN c4 (show(((qi (JQ n Z)).length:Nat):Int)≠0 by omega);have k1:=hW c4 pos;obtain⟨k,ek⟩:=cw k0;have kl:k<(JQ n Z).length:=by rw[ek,lR]at k1;omega
 rw[ek];obtain⟨o,ho⟩:∃o,(JQ n Z)[k]?=Ya o:=⟨_,Yo kl⟩;have C:=C7.of gp lh (by omega) (by omega) zne znd zlt zlen ho;have ho':(qi (JQ n Z))[k]?=Ya (V.int o):=by rw[Yv,ho];rfl
 have nd6:(JQ n Z).Nodup:=y8.filter _;refine jC sl6 (cO ho') ?_;cbv;rw[RP]at g6;refine aft g6 (j:=k) (k:=(o:Int)) (by rw[Yv,ho];rfl) (λm hm e=>?_) ?_
 ·rw[Yv]at e;obtain⟨o',ho2,e2⟩:=ah.mp e;have e2:o'=o:=by omega
  rw[e2]at ho2;obtain⟨m1,m2⟩:=Yp.mp ho2;obtain⟨m3,m4⟩:=Yp.mp ho;exact hX.mp nd6 m k m1 m3 hm (m2.trans m4.symm)
 rw[ac0];have D6':=D5.add s6 hD6 g6;have nz6:∀e∈(zl,HO.lst (qi Z))::(D1,HO.lst (ps.map V.ref))::(nl,HO.lst (hs.map V.int))::ls0,e.1≠D6:=λe he z=>by
  have:=D5.at he;rw[z,hD6]at this;cases this
 have D7:=D6'.put (H':=upd H6 D6 (HO.lst (qi ((JQ n Z).eraseIdx k)))) (ys:=qi ((JQ n Z).eraseIdx k)) nz6 (λb o z n=>by rw[aK n];exact z) aB;have nn:aO H5 (upd H6 D6 (HO.lst (qi ((JQ n Z).eraseIdx k)))):=λb o z=>by rw[aK (aP z hD6)];exact s6 b o z
 have g17:=nn _ _ g15;generalize upd H6 D6 (HO.lst (qi ((JQ n Z).eraseIdx k)))=H7 at D7 nn g17⊢;generalize (JQ n Z).eraseIdx k=R at C D7⊢;have nm0:∀e∈ls0,e∈(D6,HO.lst (qi R))::(zl,HO.lst (qi Z))::(D1,HO.lst (ps.map V.ref))::(nl,HO.lst (hs.map V.int))::ls0:=λe he=>by(repeat(first|exact Yl|assumption|apply Yk))
 have hS7:=sc D7 nm0;have cp9:acX 10 9:=⟨by decide,by decide,by decide⟩;have p9:(0:Int)<10^ot 9:=by decide
 cbv;refine⟨a,4,rfl,ks,hS7,by decide,λc5=>?_⟩;cbv;generalize 1+ c5%10^ot 9=mo;have on:o<n:=C.lt o Yl;have hno:(hs.map V.int)[o]?=Ya (V.int (hs.getD o 0)):=by
  rw[Yv,YU,Yo (by omega)];rfl
 refine jC (bI.of g17) (cO hno) ?_;cbv;intro t2 H8 ht2 s8 g8;have D8:=D7.add s8 ht2 g8;cbv;intro t1 H9 ht1 s9 g9;have D9:=D8.add s9 ht1 g9;generalize els:(t1,HO.tup [V.int nu,V.int ha])::(t2,HO.tup [V.int mo,V.int (hs.getD o 0)])::(D6,HO.lst (qi R))::(zl,HO.lst (qi Z))::(D1,HO.lst (ps.map V.ref))::(nl,HO.lst (hs.map V.int))::ls0=ls at D9;have m1:(t1,HO.tup [V.int nu,V.int ha])∈ls:=by rw[←els];(repeat(first|exact Yl|assumption|apply Yk))
 have m2:(t2,HO.tup [V.int mo,V.int (hs.getD o 0)])∈ls:=by rw[←els];(repeat(first|exact Yl|assumption|apply Yk))
 have mR:(D6,HO.lst (qi R))∈ls:=by rw[←els];(repeat(first|exact Yl|assumption|apply Yk))
 have mZ:(zl,HO.lst (qi Z))∈ls:=by rw[←els];(repeat(first|exact Yl|assumption|apply Yk))
 have mH:(D1,HO.lst (ps.map V.ref))∈ls:=by rw[←els];(repeat(first|exact Yl|assumption|apply Yk))
 have mN:(nl,HO.lst (hs.map V.int))∈ls:=by rw[←els];(repeat(first|exact Yl|assumption|apply Yk))
 have m0:∀e∈ls0,e∈ls:=λe he=>by rw[←els];(repeat(first|exact Yl|assumption|apply Yk))
 have op:o<ps.length:=by omega
 have ltR:∀r∈R,r<ps.length:=λr hr=>by have:=C.lt r (Yk _ hr);omega
 obtain⟨ndo,ndR⟩:=aw.mp C.nd;obtain⟨p,hp⟩:∃p,ps[o]?=Ya p:=⟨_,Yo op⟩;have hp':(ps.map V.ref)[o]?=Ya (V.ref p):=by rw[Yv,hp];rfl
 have nmE:∀j,(λj=>hs.getD j 0) j=hs.getD j 0:=λ_=>rfl;cbv;obtain⟨Fp,xp,HP,nP,tb,stp⟩:=D9.get hp;have ob:=HP.ob;rw[hob HP]at ob;refine jC (bI.of (D9.at mH)) (cO hp') (qY ob (by kernel_rfl) ?_);cbv;refine⟨p,mo,rfl,Fp,_,xp,HP,(λz=>nomatch z),by show 1<=890;decide,tb,nP,λH10 l ys rs gl ev=>?_⟩;rw[C.ren]at ev rs;cases ev;have D10:=(stp _ _ rs).st λi _=>akP (R:=R) i;generalize enm:(λj=>hs.getD j 0:Nat->Int)=nm at C D10;have enm1:∀j,hs.getD j 0=nm j:=λj=>by rw[←enm]
 generalize eb:((mo,hs.getD o 0):Int×Int)=b at D10;have hb:b.2=nm o:=by rw[←eb];exact enm1 o
 cbv;intro z H11 hz s11 g11;refine wW (s11 _ _ gl) g11 ?_;cbv;have D11:=D10.same s11;refine⟨D1,D6,o,rfl,ps,_,ls,R,D11,mH,mR,by omega,op,ndo,ndR,ltR,(λr hr=>?_),λH12 l D12 gl=>?_⟩
 ·rw[Wi hr ndo,K9,C.ask0 hr hb];exact⟨by show 1<=880;decide,rfl⟩
 have D12:=D12.st λi _=>afJ ndo (λr hr=>C.ask0 (r:=r) hr hb) i;cbv;intro z H13 hz s13 g13';refine wW (s13 _ _ gl) g13' ?_;have D13:=D12.same s13;have sR13:=bI.of (K:=K) (D13.at mR);cbv;let jJ9:Nat->St->Hp->Prop:=λk σ A=>∃v12,σ=[Ya (.ref a),Ya (.int n),Ya (.ref nl),Ya (.int nu),Ya (.int ha),Ya (.ref D1),Ya (.ref zl),Ya (.ref D6),Ya (.int o),Ya (.int mo),Ya (.ref t2),Ya (.ref t1),v12,Yb,Yb,Yb,Yb]/\Wn K mg P_mk A ps (ph nu ha nm o R ⟨Ya b,Yb,0,Yb,KC ((o::R.take k).map nm)⟩ 0 (cR b)) ls;refine gf (K:=K) (a:=D6) (xs:=qi R) jJ9 ⟨Yb,rfl,D13⟩ (λi σ A _ z=>by obtain⟨_,_,z⟩:=z;exact bI.of (z.at mR)) ?_ ?_
 ·rintro k x σ A hx ⟨v12,rfl,DA⟩;rw[Yv]at hx;obtain⟨r,hk,rfl⟩:=ah.mp hx;have mr:=YE hk;cbv;refine Xg aY rfl rfl DA mH op (ltR r mr) (by rw[K9];show 1<=880;decide) λAq2 l ys D2 gl ev=>?_;rw[K9,Wi mr ndo,C.rep hk hb]at ev;cases ev;rw[K9,Wi mr ndo,C.rep hk hb]at D2;cbv;intro z Aq3 hz s3 g3;refine wW (s3 _ _ gl) g3 ?_;cbv;exact⟨_,rfl,(D2.same s3).st λi _=>aet i⟩
 rintro σ H14 ⟨v12,rfl,D14⟩;rw[show(qi R).length=R.length from Yi _,Y5]at D14;generalize ec7:(⟨Ya b,Yb,0,Yb,KC ((o::R).map nm)⟩:Cg)=c7 at D14;have sZ14:=bI.of (K:=K) (D14.at mZ);cbv;intro sl1 H15 hsl1 s15 g15';rw[agI]at g15';have Lz:∀j,j<n->(hs.map V.int)[j]?=Ya (V.int (nm j)):=λj hj=>by
  rw[←enm1,Yv,YU,Yo (by omega)];rfl
 have rgn:∀j,j<n->acX 1 (nm j):=λj hj=>by
  have:nm j∈hs:=by
   rw[←enm1,YU,Yo (by omega)];exact ja _
  have:=hc.rg _ this;exact⟨this.1,by omega,by decide⟩
 have zl5:Z.length<=5:=by omega
 refine⟨sl1,rfl,⟨_,bI.of g15'⟩,λL1 hL1=>?_⟩;refine bO (K:=K) (a:=sl1) (xs:=qi (Z.drop 1)) (λi σ A=>∃v,A3 (σ=[Ya (.ref nl),v]) (aO H15 A) (A L1=Ya (.lst ((Ql nm ((Z.drop 1).take i)).map V.int)))) ⟨Yb,rfl,aF hL1,aB⟩ (λi σ A _ z=>by obtain⟨_,_,z,_⟩:=z;exact bI.of (z _ _ g15')) ?_ ?_
 ·rintro i x σ A hx ⟨v,rfl,sA,gA⟩;rw[Yv]at hx;obtain⟨j,hj,rfl⟩:=ah.mp hx;have jn:j<n:=zlt j (ua (YE hj));have cp:=rgn j jn;have snA:=bI.of (K:=K) (sA _ _ (s15 _ _ (D14.at mN)));cbv;refine jC snA (cO (Lz j jn)) ?_;cbv;refine⟨_,gA,?_,_,rfl,(λb o z=>by rw[aK (aP z hL1)];exact sA b o z),by rw[aB,eN hj,HY]⟩;rw[Lr,ae,oy];exact aU (by omega)
 rintro σ H16 ⟨v,rfl,s16,g16⟩;rw[show(qi (Z.drop 1)).length=(Z.drop 1).length from Yi _,Y5]at g16;have D16:=(D14.same s15).add s16 hL1 g16;have sZ16:=bI.of (K:=K) (D16.at (Yk _ mZ));cbv;intro sl2 H17 hsl2 s17 g17';rw[agN]at g17';refine⟨sl2,rfl,⟨_,bI.of g17'⟩,λL2 hL2=>?_⟩;refine bO (K:=K) (a:=sl2) (xs:=qi (Z.take 1)) (λi σ A=>∃v,A3 (σ=[Ya (.ref nl),Ya (.ref zl),v]) (aO H17 A) (A L2=Ya (.lst ((Ql nm (if 1<Z.length then(Z.take 1).take i else[])).map V.int)))) ⟨Yb,rfl,aF hL2,by split<;>exact aB⟩ (λi σ A _ z=>by obtain⟨_,_,z,_⟩:=z;exact bI.of (z _ _ g17')) ?_ ?_
 ·rintro i x σ A hx ⟨v,rfl,sA,gA⟩;rw[Yv]at hx;obtain⟨j,hj,rfl⟩:=ah.mp hx;have jn:j<n:=zlt j (pe (YE hj));have cp:=rgn j jn;have snA:=bI.of (K:=K) (sA _ _ (s17 _ _ (D16.at (Yk _ mN))));have szA:=bI.of (K:=K) (sA _ _ (s17 _ _ (D16.at (Yk _ mZ))));cbv;have lz:((qi Z).length:Nat)=Z.length:=Yi _;refine d9 (λc=>?_) λc=>?_
  ·have c:1<Z.length:=by
    have c:=of_decide_eq_true c;rw[lz]at c;omega
   rw[if_pos c]at gA⊢;cbv;refine jC snA (cO (Lz j jn)) ?_;cbv;refine⟨_,gA,?_,_,rfl,(λb o z=>by rw[aK (aP z hL2)];exact sA b o z),by rw[aB,eN hj,HY]⟩;rw[Lr,ae,ae];exact aU (by omega)
  ·have c:¬ 1<Z.length:=λw=>c (decide_eq_true (by rw[lz];omega));rw[if_neg c]at gA⊢;exact⟨_,rfl,sA,gA⟩
 rintro σ H18 ⟨v,rfl,s18,g18⟩;rw[show(qi (Z.take 1)).length=(Z.take 1).length from Yi _,Y5,show(if 1<Z.length then Z.take 1 else[])=aaS Z from rfl]at g18;have D18:=(D16.same s17).add s18 hL2 g18;cbv;intro lk H19 hlk s19 g19;have D19:=D18.add s19 hlk g19;have slk:=bI.of (K:=K) g19;generalize els2:(lk,HO.lst [V.ref L1,V.ref L2])::(L2,HO.lst ((Ql nm (aaS Z)).map V.int))::(L1,HO.lst ((Ql nm (Z.drop 1)).map V.int))::ls=ls2 at D19;have up:∀{e},e∈ls->e∈ls2:=λhe=>by rw[←els2];(repeat(first|exact Yl|assumption|apply Yk))
 have mL:(lk,HO.lst [V.ref L1,V.ref L2])∈ls2:=by rw[←els2];(repeat(first|exact Yl|assumption|apply Yk))
 have mL1:(L1,HO.lst ((Ql nm (Z.drop 1)).map V.int))∈ls2:=by rw[←els2];(repeat(first|exact Yl|assumption|apply Yk))
 have mL2:(L2,HO.lst ((Ql nm (aaS Z)).map V.int))∈ls2:=by rw[←els2];(repeat(first|exact Yl|assumption|apply Yk))
 have ask1:∀db,∀r∈R,pB (S7 nu ha (nm r) (cR b) 0) (oX (S7 nu ha (nm o) c7 db))=S7 nu ha (nm r) (cR b) 0:=λdb r hr=>by rw[←ec7];exact C.ask1 hr hb
 have c7b:c7.b=Ya b:=by rw[←ec7]
 have b1:b.1=mo:=by rw[←eb]
 have b2:b.2=hs.getD o 0:=by rw[←eb]
 have m2b:(t2,HO.tup [V.int b.1,V.int b.2])∈ls:=by rw[b1,b2];exact m2
 have lR5:R.length<=5:=by
  have:=C.nd.length_le_of_subset (l₂:=cS n) λr hr=>fb.mpr (C.lt r hr);rw[YT,cK]at this;omega
 have ltRo:∀r∈R++[o],r<ps.length:=λr hr=>by
  rcases ai.mp hr with y|y
  ·exact ltR r y
  ·rw[Yy.mp y];exact op
 cbv;let jJ10:Nat->St->Hp->Prop:=λk σ A=>E3 λv12 v14 db=>σ=[Ya (.ref a),Ya (.int n),Ya (.ref nl),Ya (.int nu),Ya (.int ha),Ya (.ref D1),Ya (.ref zl),Ya (.ref D6),Ya (.int o),Ya (.int mo),Ya (.ref t2),Ya (.ref t1),v12,Ya (.ref lk),v14,Yb,Yb]/\Wn K mg P_mk A ps (ph nu ha nm o R c7 db (cR b)) ls2;refine gf (K:=K) (a:=lk) (xs:=[V.ref L1,V.ref L2]) jJ10 ⟨_,Yb,0,rfl,D19⟩ (λi σ A _ z=>by obtain⟨_,_,_,_,z⟩:=z;exact bI.of (z.at mL)) ?_ ?_
 ·rintro k x σ A hx ⟨v12,v14,db,rfl,DA⟩;obtain⟨lx,Zx,rfl,mx,ix,z,hz,nz⟩:∃lx Zx,x=.ref lx/\(lx,HO.lst ((Ql nm Zx).map V.int))∈ls2/\fH (Ql nm Zx).sum (Zx.map nm)/\∃z∈Z,nm z∉Zx.map nm:=by
   have hx:=YE hx;rcases YC.mp hx with rfl|hx
   ·exact⟨L1,_,rfl,mL1,C.zsub hc (EC _ _),C.l1⟩
   ·rw[Yy.mp hx];exact⟨L2,_,rfl,mL2,C.zsub hc (aeA Z),C.l2⟩
  have sus:Qg (S7 nu ha (nm o) c7 db) (Ql nm Zx).sum=S7 nu ha (nm o) c7 (Yz (Ql nm Zx).sum (Yw (2^(nm o).toNat))):=by rw[←ec7];exact C.sus hb ix hz nz
  obtain⟨Fp,xp,HP,nP,tb,stp⟩:=DA.get hp;have ob:=HP.ob;rw[hob HP]at ob;cbv;refine jC (bI.of (DA.at (up mH))) (cO hp') (qY ob (by kernel_rfl) ?_);cbv;refine⟨lx,_,rfl,bI.of (DA.at mx),?_⟩;cbv;refine⟨p,_,rfl,Fp,_,xp,HP,ix.1,by rw[K9];show 1<=890;decide,tb,nP,λAq2 l ys rs gl ev=>?_⟩;rw[K9,sus]at ev rs;cases ev;have D2:=(stp _ _ rs).st λi _=>aet i;cbv;intro zz Aq3 hzz s3 g3;refine wW (s3 _ _ gl) g3 ?_;cbv;refine⟨D1,D6,o,rfl,ps,_,ls2,R,D2.same s3,up mH,up mR,by omega,op,ndo,ndR,ltR,(λr hr=>?_),λAq4 l D4 gl=>?_⟩
  ·rw[Wi hr ndo,K9,ask1 _ r hr];exact⟨by show 1<=880;decide,rfl⟩
  have D4:=D4.st λi _=>afJ ndo (ask1 _) i;cbv;intro zz Aq5 hzz s5' g5'';refine wW (s5' _ _ gl) g5'' ?_;have D5':=D4.same s5';cbv;intro lo Aq6 hlo s6' g6';have D6x:=D5'.same s6';refine abM (D6x.at (up mR)) g6' (by rw[Yi];show R.length+ 1<=1000;omega) λlc Aq7 hlc s7 g7=>?_;have D7x:=D6x.same s7;cbv;refine⟨D1,lc,t1,t2,rfl,ps,_,ls2,R++[o],nu,ha,b,D7x,up mH,by rw[Hw];exact g7,D7x.at (up m1),D7x.at (up m2b),ltRo,Uy ndo c7b rfl,λAq8 D8 s8=>?_⟩;cbv;exact⟨_,_,_,rfl,D8⟩
 rintro σ H20 ⟨v12,v14,db,rfl,D20⟩;have sZ20:=bI.of (K:=K) (D20.at (up mZ));cbv;intro L3 hL3;refine bO (K:=K) (a:=zl) (xs:=qi Z) (λi σ A=>∃v,A3 (σ=[Ya (.ref nl),v]) (aO H20 A) (A L3=Ya (.lst ((Ql nm (Z.take i)).map V.int)))) ⟨Yb,rfl,aF hL3,aB⟩ (λi σ A _ z=>by obtain⟨_,_,z,_⟩:=z;exact bI.of (z _ _ (D20.at (up mZ)))) ?_ ?_
 ·rintro i x σ A hx ⟨v,rfl,sA,gA⟩;rw[Yv]at hx;obtain⟨j,hj,rfl⟩:=ah.mp hx;have jn:j<n:=zlt j (YE hj);have cp:=rgn j jn;have snA:=bI.of (K:=K) (sA _ _ (D20.at (up mN)));cbv;refine jC snA (cO (Lz j jn)) ?_;cbv;refine⟨_,gA,?_,_,rfl,(λb o z=>by rw[aK (aP z hL3)];exact sA b o z),by rw[aB,eN hj,HY]⟩;rw[Lr,ae];exact aU (by omega)
 rintro σ H21 ⟨v,rfl,s21,g21⟩;rw[show(qi Z).length=Z.length from Yi _,Y5]at g21;refine⟨L3,_,rfl,bI.of g21,?_⟩;have iF:fH (Ql nm Z).sum (Z.map nm):=C.zsub hc (List.Sublist.refl Z);have D21:=D20.same s21;have hS21:=sc D21 λe he=>up (m0 e he);cbv;refine rT (λσ' G=>G=H21/\(E2 λF ks'=>A3 (σ'=[Ya (.ref a),Ya (.int n),Ya (.ref nl),Ya (.int nu),Ya (.int ha),Ya (.ref D1),Ya (.ref zl),Ya (.ref D6),Ya (.int o),Ya (.int mo),Ya (.ref t2),Ya (.ref t1),v12,Ya (.ref lk),v14,Ya (.int F),Yb]) (fH F ks') (∀z∈Z,nm z∈ks'))) ?_ λN rest=>?_
 rotate_left
 ·cbv;refine⟨a,3,rfl,ks,hS21,by decide,λc6=>?_⟩;cbv;refine d9 (λ_=>?_) λ_=>?_
  ·cbv;exact rest _ _ ⟨rfl,_,_,rfl,C.gs w1,λz hz=>C.zm z hz⟩
  ·cbv;exact rest _ _ ⟨rfl,_,_,rfl,iF,λz hz=>Y6 hz⟩
 rintro σ' G ⟨eG,F,ks',rfl,iF',az⟩;rw[eG];have sR21:=bI.of (K:=K) (D21.at (up mR));have lRV:(qi R).length=R.length:=Yi _;have posR:0<(((qi R).length:Nat):Int):=by
  have:=C.maj;rw[lRV];omega
 refine rT (λσ' G=>G=H21/\(E2 λF ks'=>A3 (σ'=[Ya (.ref a),Ya (.int n),Ya (.ref nl),Ya (.int nu),Ya (.int ha),Ya (.ref D1),Ya (.ref zl),Ya (.ref D6),Ya (.int o),Ya (.int mo),Ya (.ref t2),Ya (.ref t1),v12,Ya (.ref lk),v14,Ya (.int F),Yb]) (fH F ks') (∀z∈Z,nm z∈ks'))) ?_ λN rest=>?_
 rotate_left
 ·cbv;refine⟨a,3,rfl,ks,hS21,by decide,λc6=>?_⟩;cbv;refine d9 (λ_=>?_) λ_=>?_
  ·cbv;refine⟨a,3,rfl,ks,hS21,by decide,λc8=>?_⟩;cbv;have k0:=iN (c8 / 12) (show(((qi R).length:Nat):Int)≠0 by omega);have k1:=hW (c8 / 12) posR;obtain⟨k,ek⟩:=cw k0;have kl:k<R.length:=by rw[ek,lRV]at k1;omega
   rw[ek];have mk:=ja kl;have hk':(qi R)[k]?=Ya (V.int (R[k]:Nat)):=by rw[Yv,Yo kl];rfl
   have jn:R[k]<n:=C.lt _ (Yk _ mk);have cp:=rgn _ jn;have sn21:=bI.of (K:=K) (D21.at (up mN));refine jC sR21 (cO hk') ?_;cbv;refine jC sn21 (cO (Lz _ jn)) ?_;cbv;have rr:=C.rg _ (Y6 (Yk o mk));have iO:=zX iF' (qG rr.1 rr.2);exact rest _ _ ⟨rfl,_,_,by rw[AH];rfl,iO,λz hz=>fN _ (az z hz)⟩
  ·cbv;exact rest _ _ ⟨rfl,_,_,rfl,iF',az⟩
 rintro σ' G ⟨eG,F,ks',rfl,iF',az⟩;rw[eG];have fire:Qg (S7 nu ha (nm o) c7 db) F=S7 nu ha (nm o) ⟨Ya b,Ya (b,(Et ((o::R).map nm),Et ((o::R).map nm),0)),2^(nm o).toNat,Yb,KC ((o::R).map nm)⟩ (Yz F (Yw (2^(nm o).toNat))):=by rw[←ec7];exact C.fire hb iF' az
 have dF:=(ug iF'.1 (iw (nm o).toNat)).1;have ro:=C.rg _ (Y6 (f:=nm) (Yl (a:=o) (l:=R)));obtain⟨Fp,xp,HP,nP,tb,stp⟩:=D21.get hp;have ob:=HP.ob;rw[hob HP]at ob;cbv;refine jC (bI.of (D21.at (up mH))) (cO hp') (qY ob (by kernel_rfl) ?_);cbv;refine⟨p,_,rfl,Fp,_,xp,HP,iF'.1,by rw[K9];show 1<=890;decide,tb,nP,λAq2 l ys rs gl ev=>?_⟩;rw[K9,fire]at ev rs;cases ev;have D22:=(stp _ _ rs).st λi _=>aet i;cbv;intro zz Aq3 hzz s3' g3';refine wW (s3' _ _ gl) g3' ?_;have D23:=D22.same s3';cbv;intro lo Aq6 hlo s6' g6';have D24:=D23.same s6';refine abM (D24.at (up mR)) g6' (by rw[Yi];show R.length+ 1<=1000;omega) λlc Aq7 hlc s7 g7=>?_;have D25:=D24.same s7;cbv;refine⟨D1,lc,t1,t2,rfl,ps,_,ls2,R++[o],nu,ha,b,D25,up mH,by rw[Hw];exact g7,D25.at (up m1),D25.at (up m2b),ltRo,Uy ndo rfl rfl,λAq8 D26 s8=>?_⟩;cbv;intro lo2 Aq9 hlo2 s9' g9';have D27:=D26.same s9';refine abM (D27.at (up mR)) g9' (by rw[Yi];show R.length+ 1<=1000;omega) λlc2 Aq10 hlc2 s10 g10=>?_;have D28:=D27.same s10;have g10:Aq10 lc2=Ya (.lst (qi (R++[o]))):=by rw[Hw];exact g10
 refine⟨lc2,rfl,⟨_,bI.of g10⟩,λL4 hL4=>?_⟩;refine bO (K:=K) (a:=lc2) (xs:=qi (R++[o])) (λi σ A=>∃v,A3 (σ=[Ya (.ref nl),v]) (aO Aq10 A) (A L4=Ya (.lst ((Ql nm ((R++[o]).take i)).map V.int)))) ⟨Yb,rfl,aF hL4,aB⟩ (λi σ A _ z=>by obtain⟨_,_,z,_⟩:=z;exact bI.of (z _ _ g10)) ?_ ?_
 ·rintro i x σ A hx ⟨v,rfl,sA,gA⟩;rw[Yv]at hx;obtain⟨j,hj,rfl⟩:=ah.mp hx;have jn:j<n:=by have:=ltRo j (YE hj);omega
  have cp:=rgn j jn;have snA:=bI.of (K:=K) (sA _ _ (D28.at (up mN)));cbv;refine jC snA (cO (Lz j jn)) ?_;cbv;refine⟨_,gA,?_,_,rfl,(λb o z=>by rw[aK (aP z hL4)];exact sA b o z),by rw[aB,eN hj,HY]⟩;rw[Lr,ae,YG,fv];exact aU (by omega)
 rintro σ H30 ⟨v,rfl,s30,g30⟩;rw[show(qi (R++[o])).length=(R++[o]).length from Yi _,Y5]at g30;refine⟨L4,_,rfl,bI.of g30,?_⟩;rw[C.on hc];have D30:=D28.same s30;have wp:O6 (Et ((o::R).map nm),Et ((o::R).map nm),0):=⟨Ol C.rg,Ol C.rg,⟨fF _,(by show(0:Int)<9223372036854775808;decide)⟩,λi h=>by
  have h:(0:Nat).testBit i=true:=h;rw[cE]at h;cases h⟩
 cbv;intro te H31 hte s31 g31;have D31:=D30.add s31 hte g31;cbv;refine⟨D1,D6,te,o,n,rfl,ps,_,_,R,hs,ha,nu,b,(Et ((o::R).map nm),Et ((o::R).map nm),0),KC ((o::R).map nm),_,nm,2^(nm o).toNat,D31,Yk _ (up mH),Yk _ (up mR),Yl,C.gp,lh,C.n3,C.n5,op,ltR,C.nd,C.ndm,C.sb,C.maj,hb,dF,wp,(λr hr=>⟨C.has r hr,C.has r hr⟩),K9,qG ro.1 ro.2,(λr hr=>Wi hr ndo),λH'=>?_⟩;cbv;exact kk H'
theorem ln2(h:us.length=2):∃a b,us=[a,b]:=match us,h with|[a,b],_=>⟨a,b,rfl⟩
theorem ln4(h:us.length=4):∃a b c d,us=[a,b,c,d]:=match us,h with|[a,b,c,d],_=>⟨a,b,c,d,rfl⟩
theorem ln5(h:us.length=5):∃a b c d e,us=[a,b,c,d,e]:=match us,h with|[a,b,c,d,e],_=>⟨a,b,c,d,e,rfl⟩
theorem ah2(qt:∅ 5 qg nZ ["me","hands","reports","wishes"] (uY K))(qx:gW K mg "first_plan" qg nZ ["me","hands","reports","wishes"]):∀f sp,OKs K mg f sp->(∃fd ps,∅ 6 f fd ps sp/\Binds K fd ps [])/\∀vs H Q E,sp vs H Q E->∃fo:Y3,(∃fd,fo.data=.func fd)/\H f=Ya (FnO f fo):=by
 rintro f sp ⟨c',c1,c2,c3,pm,ctv,v1,v2,v3,nv,rfl⟩;exact⟨⟨_,_,Ey trivial nv qt qx,.all λus hl=>match us,hl with|[_],_=>rfl⟩,λvs H Q E h=>⟨_,⟨_,rfl⟩,h.1⟩⟩
end
end K78
namespace K78
open PySem L2
theorem akL:AM:=by
 intro l w K h mg fa f_0 f_1 f_2 f_3 f_4 f_5 f_6 f_7 f_8 f_9 f_10 f_11 f_12 f_13 f_14 f_15 f_16 f_17 f_18 f_19 f_20 f_21 f_22 f_23 f_24 f_25 f_26 f_27 f_28 f_29 f_30 f_31 f_32 f_33 f_34 f_35 f_36 f_37 f_38 f_39 f_40 f_41 f_42 f_43 f_44 f_45 f_46 f_47 f_48 f_49 f_50 f_51 f_52 f_53 f_54 f_55 f_56 f_57 f_58 f_59 f_60 f_61 f_62 f_63 f_64 f_65 f_66 f_67 f_68 f_69 f_70 f_71 f_72 f_73 f_74 f_75 f_76 f_77 f_78 f_79 f_80 f_81 f_82 f_83 f_84 f_85 bN bB fG dY aa0 P_mk d_0 d_1 d_2 d_3 d_4 d_5 d_6 d_7 d_8 d_9 d_10 d_11 d_12 d_13 d_14 d_15 d_16 d_17 d_18 d_19 d_20 d_21 d_22 d_23 d_24 d_25 d_26 d_27 d_28 d_29 d_30 d_31 d_32 d_33 d_34 d_35 d_36 d_37 d_38 d_39 d_40 d_41 d_42 d_43 d_44 d_45 d_46 d_47 d_48 d_49 d_50 d_51 d_52 d_53 d_54 d_55 d_56 d_57 d_58 d_59 d_60 d_61 d_62 d_63 d_64 d_65 d_66 d_67 d_68 d_69 d_70 d_71 d_72 d_73 d_74 d_75 d_76 d_77 d_78 d_79 d_80 d_81 d_82 d_83 d_84 d_85 X G hfa kY fP lu iM fZ tk_LAST_HAND a_0 a_1 a_2 a_3 a_4 a_5 a_6 a_7 a_8 a_9 a_20 a_21 a_22 a_23 a_24 a_25 a_26 a_27 a_28 a_29 a_30 a_31 a_32 a_33 a_34 a_35 a_36 a_48 a_69 a_75 a_76 a_77 a_79 a_80 a_81 a_82 a_83 a_84 a_85 Vi aeq abV aeT DX aed aee ain Hg aio afl ais aiH ach aiK Wu air abW iB cW dW fQ fV fU gj dO cD fY gb gO gP cY jb cZ dX dz fX eF dJ cB cL jH cM cQ cG cC fO dZ gH fL gJ jF iW gQ bQ jd iY jE dR j6 kI zr Mt Cr Mg F_0 F_1 F_2 F_3 F_4 F_5 F_6 F_7 F_8 F_9 F_10 F_11 F_12 F_13 F_14 F_15 F_16 F_17 F_18 F_19 F_20 F_21 F_22 F_23 F_24 F_25 F_26 F_27 F_28 F_29 F_30 F_31 F_32 F_33 F_34 F_35 F_36 F_37 F_38 F_39 F_40 F_41 F_42 F_43 F_44 F_45 F_46 F_47 F_48 F_49 F_50 F_51 F_52 F_53 F_54 F_55 F_56 F_57 F_58 F_59 F_60 F_61 F_62 F_63 F_64 F_65 F_66 F_67 F_68 F_69 F_70 F_71 F_72 F_73 F_74 F_75 F_76 F_77 F_78 F_79 F_80 F_81 F_82 F_83 F_84 F_85 aH aJ bJ aZ FC hcd;have e:=hfa.symm.trans (W.mg_of X G a_85);cases e;have CA_0:gW K mg _ _ _ Th:=F_0.cal X G a_0;have CA_1:gW K mg _ _ _ aaC:=F_1.cal X G a_1;have CA_2:gW K mg _ _ _ Fl:=F_2.cal X G a_2;have CA_3:gW K mg _ _ _ pH:=F_3.cal X G a_3;have CA_4:gW K mg _ _ _ Px:=F_4.cal X G a_4;have CA_5:gW K mg _ _ _ ["yes"]:=F_5.cal X G a_5;have CA_6:gW K mg _ _ _ uB:=F_6.cal X G a_6;have CA_7:gW K mg _ _ _ Fl:=F_7.cal X G a_7;have CA_8:gW K mg _ _ _ ae7:=F_8.cal X G a_8;have CA_9:gW K mg _ _ _ uB:=F_9.cal X G a_9;have B_10:Binds K _ afA []:=F_10.bq;have B_11:Binds K _ aeH []:=F_11.bq;have B_12:Binds K _ afg []:=F_12.bq;have B_13:Binds K _ XH []:=F_13.bq;have B_14:Binds K _ Vg []:=F_14.bq;have B_15:Binds K _ bx []:=F_15.bq;have B_16:Binds K _ bx []:=F_16.bq;have B_17:Binds K _ bx []:=F_17.bq;have B_18:Binds K _ Xf []:=F_18.bq;have B_19:Binds K _ Xw []:=F_19.bq;have CA_20:gW K mg _ _ _ uB:=F_20.cal X G a_20;have CA_21:gW K mg _ _ _ Qx:=F_21.cal X G a_21;have CA_22:gW K mg _ _ _ Px:=F_22.cal X G a_22;have CA_23:gW K mg _ _ _ uB:=F_23.cal X G a_23;have CA_24:gW K mg _ _ _ V1:=F_24.cal X G a_24;have CA_25:gW K mg _ _ _ ["call"]:=F_25.cal X G a_25;have CA_26:gW K mg _ _ _ ["calls"]:=F_26.cal X G a_26;have CA_27:gW K mg _ _ _ Xh:=F_27.cal X G a_27;have CA_28:gW K mg _ _ _ Wc:=F_28.cal X G a_28;have CA_29:gW K mg _ _ _ Uu:=F_29.cal X G a_29;have CA_30:gW K mg _ _ _ Bm:=F_30.cal X G a_30;have CA_31:gW K mg _ _ _ Vj:=F_31.cal X G a_31;have CA_32:gW K mg _ _ _ Bm:=F_32.cal X G a_32;have CA_33:gW K mg _ _ _ BJ:=F_33.cal X G a_33;have CA_34:gW K mg _ _ _ BJ:=F_34.cal X G a_34;have CA_35:gW K mg _ _ _ XF:=F_35.cal X G a_35;have CA_36:gW K mg _ _ _ Wa:=F_36.cal X G a_36;have B_37:Binds K _ V9 []:=F_37.bq;have B_38:Binds K _ Vt []:=F_38.bq;have B_39:Binds K _ Dy []:=F_39.bq;have B_40:Binds K _ We []:=F_40.bq;have B_41:Binds K _ bx []:=F_41.bq;have B_42:Binds K _ V6 []:=F_42.bq;have B_43:Binds K _ Xy []:=F_43.bq;have B_44:Binds K _ bx []:=F_44.bq;have B_45:Binds K _ Vy []:=F_45.bq;have B_46:Binds K _ bx []:=F_46.bq;have B_47:Binds K _ bx []:=F_47.bq;have CA_48:gW K mg _ _ _ Fl:=F_48.cal X G a_48;have B_49:Binds K _ bx []:=F_49.bq;have B_50:Binds K _ tY []:=F_50.binds λ_ _ _ _ _ _ _ us hl=>by obtain⟨a0,a1,a2,rfl⟩:=ln3 (us:=us) (by rw[YG]at hl;exact d5 (m:=0) hl);exact⟨_,rfl,rfl⟩
 have agu:Binds K _ tY [.int 0 kY,.none]:=F_50.binds λ_ _ _ _ _ _ _ us hl=>by obtain⟨a0,rfl⟩:=ln1 (us:=us) (by rw[YG]at hl;exact d5 (m:=2) hl);exact⟨_,rfl,rfl⟩
 have B_51:Binds K _ Xi []:=F_51.bq;have B_52:Binds K _ Wo []:=F_52.bq;have B_53:Binds K _ Rg []:=F_53.bq;have B_54:Binds K _ Vv []:=F_54.bq;have B_55:Binds K _ bx []:=F_55.bq;have B_56:Binds K _ bx []:=F_56.bq;have B_57:Binds K _ bx []:=F_57.bq;have B_58:Binds K _ Qw []:=F_58.bq;have B_59:Binds K _ bx []:=F_59.bq;have B_60:Binds K _ QF []:=F_60.bq;have B_61:Binds K _ XJ []:=F_61.bq;have B_62:Binds K _ bx []:=F_62.bq;have B_63:Binds K _ QZ []:=F_63.bq;have B_64:Binds K _ bx []:=F_64.bq;have B_65:Binds K _ tY []:=F_65.binds λ_ _ _ _ _ _ _ us hl=>by obtain⟨a0,a1,a2,rfl⟩:=ln3 (us:=us) (by rw[YG]at hl;exact d5 (m:=0) hl);exact⟨_,rfl,rfl⟩
 have cJ:Binds K _ tY [.int 0 fP,.none]:=F_65.binds λ_ _ _ _ _ _ _ us hl=>by obtain⟨a0,rfl⟩:=ln1 (us:=us) (by rw[YG]at hl;exact d5 (m:=2) hl);exact⟨_,rfl,rfl⟩
 have B_66:Binds K _ bx []:=F_66.bq;have B_67:Binds K _ QJ []:=F_67.binds λ_ _ _ _ _ _ _ us hl=>by obtain⟨a0,a1,rfl⟩:=ln2 (us:=us) (by rw[YG]at hl;exact d5 (m:=0) hl);exact⟨_,rfl,rfl⟩
 have agp:Binds K _ QJ [.int 1 lu]:=F_67.binds λ_ _ _ _ _ _ _ us hl=>by obtain⟨a0,rfl⟩:=ln1 (us:=us) (by rw[YG]at hl;exact d5 (m:=1) hl);exact⟨_,rfl,rfl⟩
 have B_68:Binds K _ Dy []:=F_68.bq;have CA_69:gW K mg _ _ _ VB:=F_69.cal X G a_69;have B_70:Binds K _ ie []:=F_70.bq;have B_71:Binds K _ ie []:=F_71.bq;have B_72:Binds K _ ie []:=F_72.bq;have B_73:Binds K _ ie []:=F_73.bq;have B_74:Binds K _ ie []:=F_74.bq;have CA_75:gW K mg _ _ _ pH:=F_75.cal X G a_75;have CA_76:gW K mg _ _ _ pH:=F_76.cal X G a_76;have CA_77:gW K mg _ _ _ pH:=F_77.cal X G a_77;have B_78:Binds K _ Kg []:=F_78.binds λ_ _ _ _ _ _ _ us hl=>by obtain⟨a0,a1,a2,a3,a4,rfl⟩:=ln5 (us:=us) (by rw[YG]at hl;exact d5 (m:=0) hl);exact⟨_,rfl,rfl⟩
 have acN:Binds K _ Kg [.int 1 iM,.int 8 fZ]:=F_78.binds λ_ _ _ _ _ _ _ us hl=>by obtain⟨a0,a1,a2,rfl⟩:=ln3 (us:=us) (by rw[YG]at hl;exact d5 (m:=2) hl);exact⟨_,rfl,rfl⟩
 have BP_Hand___init__:Binds K _ Kg [.int 8 fZ]:=F_78.binds λ_ _ _ _ _ _ _ us hl=>by obtain⟨a0,a1,a2,a3,rfl⟩:=ln4 (us:=us) (by rw[YG]at hl;exact d5 (m:=1) hl);exact⟨_,rfl,rfl⟩
 have CA_79:gW K mg _ _ _ Ut:=F_79.cal X G a_79;have CA_80:gW K mg _ _ _ V0:=F_80.cal X G a_80;have CA_81:gW K mg _ _ _ Wl:=F_81.cal X G a_81;have CA_82:gW K mg _ _ _ Xn:=F_82.cal X G a_82;have CA_83:gW K mg _ _ _ WN:=F_83.cal X G a_83;have CA_84:gW K mg _ _ _ UL:=F_84.cal X G a_84;have aL:=W.mg_of X G Vi;have aY:=W.mg_of X G aeq;have bR:=W.mg_of X G abV;have bA:=W.mg_of X G aeT;have ik:=W.mg_of X G DX;have iu:RelV (.int 62) (.int 62 tk_LAST_HAND):=⟨_,rfl⟩;have iy:Ih K (.int 62):=rfl;have akQ:mg "bool"=none:=W.mg_none_of X G aed;have Jl:mg "dict"=none:=W.mg_none_of X G aee;have amc:mg "int"=none:=W.mg_none_of X G ain;have Ia:mg "isinstance"=none:=W.mg_none_of X G Hg;have zN:mg "len"=none:=W.mg_none_of X G aio;have z8:mg "list"=none:=W.mg_none_of X G afl;have aeY:mg "max"=none:=W.mg_none_of X G ais;have ait:mg "min"=none:=W.mg_none_of X G aiH;have Uh:mg "range"=none:=W.mg_none_of X G ach;have aig:mg "set"=none:=W.mg_none_of X G aiK;have Aj:mg "sorted"=none:=W.mg_none_of X G Wu;have alT:mg "sum"=none:=W.mg_none_of X G air;have t8:mg "tuple"=none:=W.mg_none_of X G abW;obtain⟨_,_,kV,dc,pm,an,cd,ct,_,rfl,_⟩:=id F_85.ex;refine⟨W.fnOf "law" "law" (iK Qv) (eZ Qv) (aA Qv) .none kV dc pm an cd ct,λs v=>.of_eq rfl,λbase kb _ hB=>?_⟩;have eV:Tg l.prog w mg base:=trivial;have hC:=W.codeHd_of_K kb hcd;have G_0:=adD eV F_0;have G_1:=ajw eV (G_0.mono (by decide)) CA_0 F_1;have G_2:=U0 eV (G_1.mono (by decide)) CA_1 Uh F_2;have G_3:=U7 eV Jl Ia z8 t8 F_3 CA_3;have G_4:=Pj eV F_4;have G_5:=Ue eV F_5;have G_6:=K1 eV (G_4.mono (by decide)) CA_4 (G_5.mono (by decide)) CA_5 F_6;have G_7:=agV eV (G_2.mono (by decide)) CA_2 zN F_7;have G_8:=HX eV (G_7.mono (by decide)) CA_7 F_8;have G_9:=adc eV (G_0.mono (by decide)) CA_0 F_9;have G_10:=Ew eV F_10;have G_11:=K6 eV (G_3.mono (by decide)) CA_3 aH aL F_11;have G_12:=Hn eV (G_3.mono (by decide)) CA_3 aH aL F_12;have G_13:=BX eV (G_4.mono (by decide)) CA_4 aH aL F_13;have G_14:=Hz eV (G_0.mono (by decide)) CA_0 (G_4.mono (by decide)) CA_4 (G_5.mono (by decide)) CA_5 aH aL F_14;have G_15:=G6 eV (G_5.mono (by decide)) CA_5 aH aL F_15;have G_16:=CK eV aH aL (G_8.mono (by decide)) CA_8 F_16;have G_17:=Ge eV (G_3.mono (by decide)) CA_3 aH aL F_17;have G_18:=Hx eV CA_3 aH aL (G_3.mono (by decide)) (G_13.mono (by decide)) B_13 (G_14.mono (by decide)) B_14 (G_15.mono (by decide)) B_15 (G_16.mono (by decide)) B_16 cW dO cD fY F_18;have G_19:=zb eV z8 aH aL (G_8.mono (by decide)) CA_8 (G_9.mono (by decide)) CA_9 F_19;have G_20:=Mr eV z8 aig Aj F_20;have G_21:=Vq eV Jl F_21;have G_22:=adl eV (G_20.mono (by decide)) CA_20 (G_21.mono (by decide)) CA_21 F_22;have G_23:=ade eV (G_20.mono (by decide)) CA_20 (G_21.mono (by decide)) CA_21 F_23;have G_24:=acY eV t8 Aj F_24;have G_25:=aaD eV F_25;have G_26:=X7 eV Aj (G_25.mono (by decide)) CA_25 F_26;have G_27:=Pa eV zN F_27;have G_28:=aaG eV zN F_28;have G_29:=JG eV F_29;have G_30:=akm eV Jl aig Aj (G_22.mono (by decide)) CA_22 (G_27.mono (by decide)) CA_27 (G_28.mono (by decide)) CA_28 (G_29.mono (by decide)) CA_29 F_30;have G_31:=KQ eV (G_25.mono (by decide)) CA_25 ait F_31;have G_32:=adn eV z8 (G_30.mono (by decide)) CA_30 (G_31.mono (by decide)) CA_31 F_32;have G_33:=aaQ eV CA_21 (G_22.mono (by decide)) CA_22 (G_21.mono (by decide)) F_33;have G_34:=SQ eV t8 zN aeY F_34;have G_35:=K3 eV z8 F_35;have G_36:=P0 eV CA_0 t8 CA_9 (G_0.mono (by decide)) (G_9.mono (by decide)) (G_32.mono (by decide)) CA_32 (G_33.mono (by decide)) CA_33 (G_34.mono (by decide)) CA_34 (G_35.mono (by decide)) CA_35 F_36;have aaq:=ah2 (P:=l.prog) (w:=w) (K:=K) (mg:=mg) (base:=base) (G_36.mono (by decide)) CA_36;have G_37:=Ip eV CA_3 aH aL (G_3.mono (by decide)) Aj F_37 aaq;have G_38:=Ht eV CA_0 aH aL B_15 B_16 cW cD (G_0.mono (by decide)) (G_6.mono (by decide)) CA_6 (G_15.mono (by decide)) (G_16.mono (by decide)) (G_19.mono (by decide)) B_19 (G_37.mono (by decide)) B_37 dW fQ F_38;have G_39:=Hb eV Jl (G_2.mono (by decide)) CA_2 F_39;have G_40:=OD eV (G_22.mono (by decide)) CA_22 bJ bR F_40;have G_41:=Oe eV z8 bJ bR (G_23.mono (by decide)) CA_23 F_41;have G_42:=Pq eV F_42;have G_43:=Od eV F_43;have G_44:=KN eV t8 bJ bR F_44;have G_45:=JL eV bJ bR (G_39.mono (by decide)) B_39 Cr F_45;have G_46:=Ft eV z8 (G_26.mono (by decide)) CA_26 aZ bA F_46;have G_47:=O2 eV Jl bJ bR aZ bA (G_41.mono (by decide)) B_41 dZ F_47;have G_48:=agf eV (G_2.mono (by decide)) CA_2 ait F_48;have G_49:=R0 eV CA_30 (G_32.mono (by decide)) CA_32 bJ bR aZ bA (G_30.mono (by decide)) (G_40.mono (by decide)) B_40 (G_42.mono (by decide)) B_42 (G_46.mono (by decide)) B_46 (G_47.mono (by decide)) B_47 (G_48.mono (by decide)) CA_48 gH jF bQ jd F_49;have G_50:=Ph eV (t0:=kY) t8 bJ bR aZ bA (G_46.mono (by decide)) B_46 bQ (G_44.mono (by decide)) B_44 fL F_50;have G_51:=Ju eV F_51;have G_52:=Oi eV zN bJ bR aZ bA (G_43.mono (by decide)) B_43 (G_49.mono (by decide)) B_49 (G_51.mono (by decide)) B_51 gJ gQ kI F_52;have G_53:=N7 eV t8 bJ bR aZ bA B_41 dZ (G_46.mono (by decide)) B_46 bQ (G_24.mono (by decide)) CA_24 (G_41.mono (by decide)) F_53;have G_54:=N6 eV F_54;have G_55:=SN eV (G_26.mono (by decide)) CA_26 aZ bA F_55;have G_56:=MK eV z8 aJ aY F_56;have G_57:=K4 eV aH aL aJ aY F_57;have G_58:=HF eV aZ bA aJ aY F_58;have G_59:=Jy eV aZ bA aJ aY F_59;have G_60:=FQ eV aJ aY F_60;have G_61:=Qj eV aH aL aeY aZ bA aJ aY (G_10.mono (by decide)) B_10 (G_45.mono (by decide)) B_45 zr Mg F_61;have G_62:=Mq eV aZ bA aJ aY F_62;have G_63:=Qh eV CA_1 t8 aZ bA aJ aY (G_1.mono (by decide)) (G_54.mono (by decide)) B_54 (G_55.mono (by decide)) B_55 (G_60.mono (by decide)) B_60 (G_61.mono (by decide)) B_61 (G_62.mono (by decide)) B_62 cY dX cL iW j6 F_63;have G_64:=Ma eV (P_mk:=P_mk) aH aL aZ bA aJ aY hC hB (G_17.mono (by decide)) B_17 (G_38.mono (by decide)) B_38 (G_63.mono (by decide)) B_63 fU gb cZ FC;have G_65:=Og eV (t0:=fP) aH aL aZ bA aJ aY (G_12.mono (by decide)) B_12 (G_50.mono (by decide)) B_50 (G_53.mono (by decide)) B_53 (G_57.mono (by decide)) B_57 fV cC jE dR F_65;have G_66:=JR eV aJ aY F_66;have G_67:=PN eV (P_mk:=P_mk) (t0:=lu) zN aH aL aZ bA aJ aY B_53 dR (G_11.mono (by decide)) B_11 (G_53.mono (by decide)) (G_64.mono (by decide)) B_64 (G_66.mono (by decide)) B_66 iB gO cM F_67;have G_68:=Le eV (P_mk:=P_mk) CA_0 zN aJ aY (G_64.mono (by decide)) B_64 cM (G_0.mono (by decide)) F_68;have G_69:=JM eV Jl F_69;have G_70:=JZ eV CA_1 aJ aY (G_1.mono (by decide)) (G_61.mono (by decide)) B_61 cY (G_69.mono (by decide)) CA_69 F_70;have G_71:=CJ eV (P_mk:=P_mk) aH aL aZ bA aJ aY B_60 cL B_57 cC (G_64.mono (by decide)) B_64 cM (G_18.mono (by decide)) B_18 (G_52.mono (by decide)) B_52 (G_57.mono (by decide)) (G_60.mono (by decide)) gj iY F_71;have G_72:=yU eV (P_mk:=P_mk) aeY aZ bA aJ aY B_62 dX B_63 cZ (G_58.mono (by decide)) B_58 (G_62.mono (by decide)) (G_63.mono (by decide)) (G_70.mono (by decide)) B_70 (G_71.mono (by decide)) B_71 gP eF cG F_72;have G_73:=Ga eV (P_mk:=P_mk) CA_0 CA_1 aZ bA aJ aY (G_63.mono (by decide)) B_63 cZ B_58 cG (G_0.mono (by decide)) (G_1.mono (by decide)) (G_58.mono (by decide)) F_73;have G_74:=Ui eV (P_mk:=P_mk) zN aJ aY (G_72.mono (by decide)) B_72 (G_73.mono (by decide)) B_73 fX dJ F_74;have G_75:=Vl eV Ia akQ amc F_75;have G_76:=aay eV (G_75.mono (by decide)) CA_75 ik iu iy F_76;have G_77:=adS eV (G_75.mono (by decide)) CA_75 ik iu iy F_77;have G_78:=JW eV (t0:=iM) (t1:=fZ) CA_1 aJ aY (G_1.mono (by decide)) (G_61.mono (by decide)) B_61 cY (G_76.mono (by decide)) CA_76 (G_77.mono (by decide)) CA_77 F_78;have G_79:=KZ eV zN F_79;have G_80:=Pu eV Uh F_80;have G_81:=Nf eV F_81;have G_82:=T9 eV (P_mk:=P_mk) (pG:=fP) aJ aY (G_65.mono (by decide)) cJ B_65 (G_74.mono (by decide)) B_74 dz cB F_82;have G_83:=Qf eV (P_mk:=P_mk) zN aJ aY B_57 cC (G_56.mono (by decide)) B_56 (G_57.mono (by decide)) (G_59.mono (by decide)) B_59 jb cQ F_83;have G_84:=Lg eV (P_mk:=P_mk) (pG:=fP) aJ aY (G_65.mono (by decide)) cJ B_65 (G_74.mono (by decide)) B_74 dz cB B_59 cQ (G_59.mono (by decide)) F_84;exact ajT eV Uh zN aJ aY cJ B_65 B_74 dz cB (G_65.mono (by decide)) (G_67.mono (by decide)) B_67 (G_68.mono (by decide)) B_68 (G_74.mono (by decide)) (G_78.mono (by decide)) BP_Hand___init__ B_78 (G_79.mono (by decide)) CA_79 (G_80.mono (by decide)) CA_80 (G_81.mono (by decide)) CA_81 (G_82.mono (by decide)) CA_82 (G_83.mono (by decide)) CA_83 (G_84.mono (by decide)) CA_84 alT Mt jH fO F_85
end K78
end
theorem PySem.Challenge.cw_groupcall_k78_suspecting_settles_holds : PySem.Challenge.rw_groupcall_k78_suspecting_settles.Holds := by
 exact PySem.Challenge.hd_K78 @K78.akL
