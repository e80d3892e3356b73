import PyProof.Rows.All
import Wide.All
import OpenK.AllK
import Wide.FinOn
import Lean
import PyProof.EqAt
import PyProof.EqKinds
import PyProof.TupleCall
import PyProof.AttrMissHeap
import KE.KSortTup
import KE.KDictList
import KE.KNest
import KE.KNestM
import OpenK.KRaise
import KE.KIsAll
import KE.KMatchCls
import PyProof.ExcAttrAll.ValueError
import PyProof.Rows.Range3
import PySem.Challenge.RW_groupcall_k43_row_and_causes
set_option Elab.async false
set_option linter.all false
set_option compiler.extract_closed false
set_option bootstrap.genMatcherCode false
set_option maxRecDepth 100000
set_option maxHeartbeats 16000000
open PySem.W renaming Frag→Yc,findIn→YZ,mg_none_of→Wx,kia_one→WH,emptyDict→WQ,fnOf→WS,KasT→W3,methodCall_KW→Xc,instObj→Xj,keepIn→Xl,kas_rev→Xo,nsIn→Xu,callWith_K→XB,mg_of→aax,codeIn→aaO,plainGet→aaY,hideAll→aa7,plainGet_of→abk,looks_clsIn→abl,lookIn→abp,mroIn→abD,methodObj→abM,hasDictIn→abO,set_plain→abP,handedIn→ab0,kdl_call→acd,kas_sort→ace,takerIn→acs,cellsFrom_some→acy,kitOne→acH,hideAll_none→acW,kas_descPart→ac4,clsIn→ac5,OpenLaw→ac8,hideAll_get→adb,callWith_K0→ade,of_hideAll→adh,isFn→adm,typeIn→adn,plainOver→adE,specialIn→adF,kitx_list→adG,kitx_dict→adH,kas_tail3→adN,kas_count→adO,kas_place→adP,InitBack→adV,kdl_dict→adZ,kcp_self→ad0,kas_desc→ad3,makesIn→aeg,kas_asc→aep,kas_bin→aeq,kat_nil→aer,keq_ne→aeA,WalkO→aeO,tailIn→afb
open PySem renaming Value→Yd,Addr→Ye,Shared→Yl,Str→Yn,wpAny→Yo,FuncData→Yx,Heap→YK,Program→YO,Stmt→YT,World→YW,Expr→Y2,mainGlobals→Y5,Obj→Y9,DictEntry→gm,Around→nh,codeAny→sq,Builtin→vc,sysModules→RW,boot_len→Wr,cLine→Wy,mem_of_lookup→WR,wpAny_Call_Name_kw→WT,sizeLine_eq→WU,attributeBase→W8,bootBuiltins→Xk,Pos→Xr,wpAny_callSpecial?_slot→Xs,PyData→Xt,wpAny_passesOwn→XF,wpAny_Call_method0_late→XZ,Scope→X3,entryFor→aaa,Env→aad,wpAny_pyIter_slot→aag,wpAny_loadPart_at→aai,Result→aaj,call_meetsIn→aak,isSubtype_type→aal,scanBound→aap,evalArgs_none→aav,Tok→aay,wpAny_execs_nil→aaz,call_meets→aaP,behindInMarks→aaW,NameKind→aaZ,swapsWith→aa1,standAt→aa2,Keyword→aa3,plainObj_wpAny_Assign_Attribute→aa6,wpAny_call→aa9,wpAny_isSubtype_exc→abn,recursionLimit→abq,SetTable→abr,KeyKind→abu,table→abw,Within→aby,Sem→abL,callerA→abZ,IsPart→ab3,Fin→ab6,Walks→acu,wpAny_ite_split→acv,wpAny_isTrue_Compare1→acG,plainId→acM,builtinLookup_eq_fast→acO,wpAny_pyIter_valiter→ac2,wpAny_pyIter_tuple→adk,seqItems?→adp,ExcBaseFacts→adx,wpAny_assign_Name→adD,wpAny_Call_method→adI,slot_list_getitem→adJ,wpAny_execs_cons→adT,pastItsLine_dict→adU,wpAny_Dict_empty→adW,getAttr?→adX,entryFor_of_tree→adY,raiseNew→ad1,Drawn→aec,CmpOp→aed,builtinsNs→aee,wpAny_Name→aef,typeLookup_type→aem,entryFor_alias→aeD,firstArgMember→aeE,isSubtype_stop→aeF,isSubtype→aeJ,evalPart_none→aeM,call_list_seq→aeN,Model→aeP,GenState→aeS,seqIndex_neg→aeT,Slot→aeU,operate→afc,Spec→afj
open List renaming length_map→Yf,mem_singleton→Yh,getElem?_eq_some_iff→Yi,getElem?_eq_getElem→Yk,mem_cons→Ym,mem_cons_of_mem→Yp,length_append→Yq,mem_cons_self→Ys,map_append→Yt,getElem?_map→Yv,size_toArray→Yw,mem_of_getElem?→Yy,map_cons→Yz,mem_append_right→YF,mem_append→YG,mem_map→YL,take_length→YM,length_filter_le→YQ,getElem?_of_mem→YR,filter_append→YS,length_singleton→YV,getD_eq_getElem?_getD→YX,mem_map_of_mem→YY,mem_append_left→Y1,range→Y3,mem_filter→Y4,length_take→Y8,length_cons→cw,append_nil→gf,nodup_cons→tq,not_mem_nil→uc,nodup_append→xi,map_map→xw,filter_cons→GV,length_range→KW,eq_nil_of_length_eq_zero→Wz,map_congr_left→WB,getElem?_set→WE,mem_range→WG,length_eq_zero_iff→WY,append_assoc→WZ,length_nil→W0,getElem?_append_right→W9,getElem?_eq_none→Xe,getElem?_append_left→Xf,pairwise_iff_getElem→Xg,foldl_cons→Xm,toArray→Xn,length_drop→Xw,find?_cons→XH,lookup→XN,any_eq_true→XT,getElem_of_mem→XW,length_take_le→XX,map_eq_nil_iff→XY,any_cons→X1,of_mem_zip→X4,pairwise_lt_range→aab,take_of_length_le→aac,take_sublist→aaf,mem_of_mem_take→aar,mem_of_mem_drop→aas,filterMap_cons→aau,range_succ→aaB,mem_filterMap→aaC,map_nil→aaF,pairwise_cons→aaI,map_id'→aaN,ext_getElem?→aaT,getElem_mem→aa0,findSome?_append→aa5,pairwise_append→abe,mem_erase_of_ne→abf,take_append_of_le_length→abj,filter_sublist→abm,findSome?_cons→abo,length→abv,map_id→abx,zip_cons_cons→abA,length_eraseIdx_of_lt→abI,sum_cons→abJ,any_eq_false→abN,pairwise_map→abS,foldl_append→abU,getElem?_zip_eq_some→abV,drop_eq_getElem_cons→abW,mem_or_eq_of_mem_set→abX,lookup_cons→ab5,ext_getElem→ab9,filter_cons_of_pos→acp,filter_cons_of_neg→acq,sum_append→acw,getElem?_set_self→acx,find?_cons_of_pos→acE,drop_of_length_le→acF,length_replicate→acI,nodup_nil→acJ,getElem?_toArray→acQ,take_succ→acS,pairwise_and_iff→acU,getElem?_set_ne→acY,perm_cons_erase→ac1,zip_map'→ada,contains_cons→adv,find?_eq_none→ady,getElem?_take→adz,mem_replicate→adA,reverse_cons→adM,find?_append→adQ,all_eq_true→ad2,map→ad6,mem_reverse→ad8,getElem_map→ad9,length_zip→aes,take_left'→aeu,length_set→aev,replicate→aew,drop_zero→aeG,sum_nil→aeX,Perm→afn
open PySem.Heap renaming get?_push_of_some→Yg,get?_push_size→Yr,lt_size→Yu,get?_update_other→oh,SameBut→Wt,get?_update_self→Ww,size_push→WV,ExtBut→aaU,get?_none_of_le→acX,get?_update_ne→adg,FlyingW→adu,get?_push_at→adK
open Nat renaming le_refl→Yj,ne_of_lt→YE,lt_of_lt_of_le→YU,zero_le→Y6,lt_irrefl→Y7,le_trans→cb,le_of_lt→pe,succ_le_succ→Xb,le_succ→Xh,lt_succ_self→Xv,ne_of_gt→XA,lt_succ_of_lt→XJ,lt_or_ge→XS,lt_of_le_of_lt→X6,le_succ_of_le→aah,add_le_add_left→aaw,le_of_eq→aa8,not_lt_zero→abg,lt_trichotomy→abT,lt_trans→ab1,lt_succ_iff_lt_or_eq→ab7,zero_testBit→ab8,sub_self→acf,lt_of_succ_lt_succ→acC,pow_le_pow_right→acZ,add_right_cancel→ac6,testBit_two_pow→adf,zero_add→adq,succ_lt_succ→ad7,min_eq_right→aea,testBit_and→aej,not_lt→aen,min_eq_left→aet,succ_pos→aeV,sub_zero→aeZ,le_total→ae0,mod_lt→afk
open PySem.Value renaming ref→YA,none→WL,type→W6,int→Xz,bool→aaq,str→acr,isInt_shape→adC,float→adR,isStrOf→aeK,isInt→ae3,bytes→ae4
open Or renaming inl→YB,inr→abB
open Option.some renaming inj→YC
open Sum renaming inl→YD,inr→abY
open Int renaming toNat_natCast→YH,emod_nonneg→xl,emod_lt_of_pos→Wo,eq_ofNat_of_zero_le→WJ,le_refl→Xi,toNat→XE,mul_le_mul_of_nonneg_right→abh,zero_add→acg,ne_of_gt→ach,natCast_nonneg→adl,le_trans→adt,one_mul→adS,le_of_lt→aeW,ne_of_lt→ae1
open Array renaming getElem?_eq_getElem→YI,getD_eq_getD_getElem?→YJ,length_toList→ir,getElem?_toList→pk,getElem?_eq_none→WO,getElem_toList→abd,perm_iff_toList_perm→abK,append_assoc→adi,toList→adj,append_empty→adw,toList_push→adL,getD→afl
open Bool renaming false_ne_true→YN,eq_false_iff→Xq,eq_iff_iff→XG,false_and→XO,and_eq_true→XQ,false_eq_true→aaH,false_or→abF,true_and→abH,or_eq_false_iff→ac0,or_false→ac7,or_eq_true→aek,and_false→aey,or_true→aeY
open PySem.Paired renaming length→Y0,snoc→ae6
open Ne renaming symm→cT
open PySem.SetTable renaming below→mr,Probe→aeB
open PySem.Shared renaming TypeIs→rl
open List.cons renaming inj→xj
open PyProof.Rows renaming boot_isinstance→xp,boot_tuple→WK,boot_list→W4,boot_dict→W5,slot_tuple_getitem→Xx,boot_sorted→XU,boot_min→aam,callWith_type1→aan,AllBare→aat,boot_bool→aaV,kws_cons→aa4,callWith_kw→abi,subscriptTail_builtinR→acz,boot_int→acT,kws_nil→ac3,firstMet_succ→ac9,callWith_builtin1→aeh,Subscript_→aei,entry_list_sort→ael,get?_update_seq→aeo,slot_list_sort→aez,IsTup→aeQ,intBits_le→ae2,bitAnd_pp→ae9,boot_all→aff,boot_max→afg,boot_abs→afh,boot_sum→afi,tuples'→afm
open PySem.Str renaming ofString→xu
open PySem.F renaming slot_dict_valueiterator_next→xy,slot_dict_itemiterator_next→Rk,slot_dict_keyiterator_next→Wq,plainAttrs_dict→WI,slot_dict_values→WX,slot_dict_get→Xd,plain_min_loop→XC,plainAttrs_list→X0,slot_list_append→X5,entry_dict_get→X9,slot_dict_items→aae,type_dict_values→aaK,args_dict_values_1→aaL,type_list_append→aaM,entry_dict_values→aaR,args_dict_get_2→aci,args_dict_get_3→acj,type_dict_items→ack,plain_list_iadd→acm,slot_dict_values_iter→aco,entry_min_loop→acA,args_dict_items_1→acB,slot_dict_items_iter→acD,type_dict_get→acK,slot_list_extend→acL,entry_dict_items→acN,slot_set_iter→acR,called_set→ads,slot_dict_iter→ad5
open PySem.NameKind renaming free→BD,cell→Xa
open PySem.PassesOwn renaming never→Ws
open False renaming elim→Wu
open PySem.Heap.SameBut renaming update→Wv
open PySem.Builtin.Int renaming intBits→WA
open PySem.Obj renaming mapSeq→WC,mapFields→aaX
open PySem.PyData renaming canLayAll0→WD,depthAll→X7,canLay0→acV,list→ae8
open Sum.inl renaming inj→WM
open PySem.Calls renaming callWith_builtin→WN,spliced_cons→aaD,evalArgs_plain→aba,Name_function_global→abE,spliced_nil→abQ
open PySem.Builtin.Dict_items renaming ownsTuple→WW,ownedTupleIsFree→adB,pairFromOwner→ad4
open True renaming intro→W7
open PySem.SetTable.below renaming go→Xp
open PySem.PyData.canLayAll0 renaming eq_2→Xy
open PyProof.Rows.F renaming plain_set_update_loop→XD,entry_set_update_loop→aaJ
open Option renaming map_some→XI,map_eq_some_iff→X8,isSome_iff_exists→aaE,none_or→aaQ,isSome_map→abR,getD_none→ab4,getD_some→aca,map_map→aeC,none→ae7,some→Ya,none→Yb
open PySem.Builtin.Slice renaming slicePlaces→XM,sliceAdjust→aaA,sliceApplied→abG,slicePartIndex→aex,sliceFields→aeR
open PySem.Builtin.Tuple renaming tupleExact→XR,tupleCompareSizes→aeb,tupleItemsOf→aeL
open PySem.Builtin.Builtins renaming bindParams→aao
open PySem.Builtin.List renaming listTooLong→aaG,listSameRef→acb,listUpdate→acn,listLengthHint→aeH,listExtendWith→aeI,listItems→afa
open PySem.SetTable.probe renaming go→aaS
open ForInStep renaming yield→abb
open PySem.Walks renaming list→abc
open List.Perm renaming refl→abt,swap→acP,append_left→afd,cons→afo
open PySem.W.Looks renaming here→abz,of_pure→afe
open PySem.Code renaming quiet_builtin→abC,isFrame→ado,frames→ae5
namespace L2
open PySem PySem.Spec PyProof.Rows
variable{us:List Yd}{a b it dx C:Ye}{u:Yd}{h h':YK}{items:Array Yd}{P:YO}{x name m Zb:Yn}{e c tg l Zf:Y2}{Za:List (Ye×Y9)}{s s':Yl}{g':Array aeS}{t' i j k n:Nat}{d':aec}{ch fp:List Ye}{M:aeP}{E Q:Yd->Yl->Prop}{pos Zp p tpos Ze:Xr}{op:aed}{es:List Y2}{Zq:List YT}{f:Yd->Yd->abL Yd}{mA:Yn->Option Yd}{pl:abL Bool}{kw:List (Yn×Yd)}{fd:Yx}{ps:List Yn}{scope:X3}{T:String}
abbrev bK:=Sum Int Yn
variable{xs:List (List bK×Ye×Yd)}
def vG:bK->Yd->Bool
 | .inl k,v=>ae3 k v
 | .inr x,v=>aeK x v
def VT(w:YW):bK->Int
 | .inl k=>hashInt k
 | .inr x=>hashStr w x
theorem cH:∀{k:bK} {v:Yd},vG k v=true->(∃i t,k=YD i/\v=Xz i t)∨(∃x t,k=abY x/\v=acr x t)
 | .inl i,v,h=>by
  obtain⟨t,e⟩:=adC (k:=i) (v:=v) h;exact .inl ⟨i,t,rfl,e⟩
 | .inr x,v,h=>by
  obtain⟨t,e⟩:=Value.isStrOf_shape (x:=x) (v:=v) h;exact .inr ⟨x,t,rfl,e⟩
theorem Je(i:Int)(t:aay):vG (.inl i) (.int i t)=true:=by simp[vG,ae3]
theorem Jk(x:Yn)(t:aay):vG (.inr x) (.str x t)=true:=by simp[vG,aeK]
theorem Sf(a b:Int):decide ((YD a:bK)=YD b)=(a==b):=by
 by_cases e:a=b
 ·subst e;simp
 ·have h:¬ (YD a:bK)=YD b:=λq=>e (WM q);rw[decide_eq_false h];exact(beq_eq_false_iff_ne.mpr e).symm
theorem Qt(a b:Yn):decide ((abY a:bK)=abY b)=decide (a=b):=by
 by_cases e:a=b
 ·subst e;simp
 ·have h:¬ (abY a:bK)=abY b:=λq=>e (Sum.inr.inj q);rw[decide_eq_false h,decide_eq_false e]
theorem QD(a:Int)(b:Yn):decide ((YD a:bK)=abY b)=false:=decide_eq_false (λq=>nomatch q)
theorem QM(a:Yn)(b:Int):decide ((abY a:bK)=YD b)=false:=decide_eq_false (λq=>nomatch q)
def aZ(prog:YO)(w:YW):abu prog w bK where
 is:=vG
 hash:=VT w
 inj:=λv a b ha d=>by
  rcases cH ha with⟨i,t,rfl,rfl⟩|⟨x,t,rfl,rfl⟩
  ·rcases cH d with⟨j,u,rfl,e⟩|⟨y,u,rfl,e⟩
   ·injection e with e1 _;rw[e1]
   ·exact nomatch e
  ·rcases cH d with⟨j,u,rfl,e⟩|⟨y,u,rfl,e⟩
   ·exact nomatch e
   ·injection e with e1 _;rw[e1]
 byValue:=λk v h=>by
  rcases cH h with⟨i,t,rfl,rfl⟩|⟨x,t,rfl,rfl⟩<;>rfl
 pyHash:=λc h=>by
  rcases cH c with⟨i,t,rfl,rfl⟩|⟨x,t,rfl,rfl⟩
  ·exact wpAny_pyHash_int h
  ·exact wpAny_pyHash_str h
 eqBool:=λf c h=>by
  rcases cH f with⟨i,t,rfl,rfl⟩|⟨x,t,rfl,rfl⟩
  ·rcases cH c with⟨j,u,rfl,rfl⟩|⟨y,u,rfl,rfl⟩
   ·rw[Sf]at h;exact wpAny_eqBool_int h
   ·rw[QD]at h;exact SeqAt.EqAt.int_str i t y u _ _ _ _ h
  ·rcases cH c with⟨j,u,rfl,rfl⟩|⟨y,u,rfl,rfl⟩
   ·rw[QM]at h;exact SeqAt.EqAt.str_int x t j u _ _ _ _ h
   ·rw[Qt]at h;exact wpAny_eqBool_str h
 «strs»:=λk x t v h=>by
  rcases cH h with⟨i,u,rfl,e⟩|⟨y,u,rfl,e⟩
  ·exact nomatch e
  ·injection e with e1 _;subst e1;cases v<;>rfl
theorem pB(prog:YO)(w:YW)(i:Int)(t:aay):(aZ prog w).is (.inl i) (.int i t)=true:=Je i t
theorem D6(prog:YO)(w:YW)(x:Yn)(t:aay):(aZ prog w).is (.inr x) (.str x t)=true:=Jk x t
inductive V where
 |non|bl (b:Bool)|int (i:Int)|str (x:Yn)|byt (b:Array UInt8)|flt (b:UInt64)|ref (a:Ye)|ty (n:String)
 deriving DecidableEq
variable{v y d:V}{vs:List V}{kvs:List (List bK×V)}
def RelV:V->Yd->Prop
 | .non,u=>u=WL
 | .bl b,u=>u=aaq b
 | .int i,u=>∃t,u=Xz i t
 | .str x,u=>∃t,u=acr x t
 | .byt b,u=>∃t,u=ae4 b t
 | .flt b,u=>∃t,u=adR b t
 | .ref a,u=>u=YA a
 | .ty n,u=>u=W6 n
abbrev Vals:List V->List Yd->Prop:=Paired RelV
theorem Vals.length{xs:List V}(r:Vals xs us):xs.length=us.length:=Y0 r
theorem Vals.get:∀{xs:List V} {us:List Yd} {i:Nat} {x:V},Vals xs us->xs[i]?=Ya x->∃u,us[i]?=Ya u/\RelV x u
 |_,_,_,_,.nil,e=>by simp at e
 |_,_,0,_,.cons r _,e=>by simp at e;subst e;exact⟨_,rfl,r⟩
 |_,_,i+ 1,x,.cons _ t,e=>by
  obtain⟨u,h1,h2⟩:=Vals.get (i:=i) (x:=x) t (by simpa using e);exact⟨u,by simpa using h1,h2⟩
theorem Vals.append:∀{xs ys:List V} {us a:List Yd},Vals xs us->Vals ys a->Vals (xs++ys) (us++a)
 |_,_,_,_,.nil,s=>s
 |_,_,_,_,.cons r t,s=>.cons r (Vals.append t s)
theorem Vals.take:∀{xs:List V} {us:List Yd} (n:Nat),Vals xs us->Vals (xs.take n) (us.take n)
 |_,_,0,_=>.nil
 |_,_,_+ 1,.nil=>.nil
 |_,_,n+ 1,.cons r t=>.cons r (Vals.take n t)
theorem Vals.drop:∀{xs:List V} {us:List Yd} (n:Nat),Vals xs us->Vals (xs.drop n) (us.drop n)
 |_,_,0,r=>r
 |_,_,_+ 1,.nil=>.nil
 |_,_,n+ 1,.cons _ t=>Vals.drop n t
def ku:Option V->Option Yd->Prop
 |some v,Ya u=>RelV v u
 |none,Yb=>True
 |_,_=>False
def KV{κ:Type}:List (κ×V)->List (κ×Yd)->Prop:=Paired fun(p:κ×V) (q:κ×Yd)=>p.1=q.1/\RelV p.2 q.2
def kV:bK->V
 | .inl i=>.int i
 | .inr x=>.str x
inductive HO where
 |lst (xs:List V)
 |tup (xs:List V)
 |dK (kvs:List (bK×V))|dT (kvs:List (List bK×V))
 |set (S:Int->Bool) (n:Nat)
 |ins (C dx:Ye) (fs:List (Yn×V))
 |own (x:Ye)
 |xd (fs:List (Yn×V))
 |met (f x:Ye)
 |rng (lo hi:Int)
 |frz (o:Y9) (u:HO)
 |tbl (ps:Array Yd)
 |ext (φ:YK->Prop)
variable{o:HO}
abbrev Hp:=Ye->Option HO
variable{H H':Hp}{R:V->V->Hp->Prop}
def upd(H:Hp)(a:Ye)(o:HO):Hp:=λb=>if b=a then Ya o else H b
theorem ai:upd H a o a=Ya o:=by unfold upd;rw[if_pos rfl]
theorem ak(h:b≠a):upd H a o b=H b:=by unfold upd;rw[if_neg h]
theorem NI{u:HO}:upd (upd H a o) a u=upd H a u:=by
 funext b;unfold upd;split<;>rfl
theorem bV{u:HO}(h:H a=Ya o)(h':H b=Ya u)(d:o≠u):a≠b:=by
 intro e;subst e;rw[h]at h';exact d (YC h')
theorem ay(h:H a=Ya o)(h':H b=Yb):a≠b:=by
 intro e;subst e;rw[h]at h';cases h'
def lG(h:YK)(a:Ye)(items:Array Yd):Prop:=∃o,h.get? a=Ya o/\o.cls=.type "tuple"/\∃n,o.data=.seq items n/\o.dict=Yb/\o.slots=#[]
theorem lG.tup(x:lG h a items):aeQ h a items:=let ⟨o,e,c,n,d,_⟩:=x;⟨o,e,c,n,d⟩
theorem lG.lt(x:lG h a items):a<h.objs.size:=x.tup.lt
theorem lG.new(h:YK)(items:Array Yd):lG (h.push {cls:=.type "tuple",data:=.seq items}) h.objs.size items:=⟨_,Yr _ rfl,rfl,_,rfl,rfl,rfl⟩
section
variable(P:YO)(w:YW)
def bZ(H:Hp)(h:YK)(a:Ye):HO->Prop
 | .lst xs=>xs.length<=sizeLine/\∃(b:List Yd) (n:Nat),Vals xs b/\h.get? a=Ya {cls:=.type "list",data:=.seq b.toArray n}
 | .tup xs=>xs.length<=sizeLine/\∃b:List Yd,Vals xs b/\lG h a b.toArray
 | .dK kvs=>kvs.length<=sizeLine/\(a==RW)=false/\∃d,KV kvs d/\h.DictOf (aZ P w) a d
 | .dT kvs=>kvs.length<=sizeLine/\(a==RW)=false/\∃xs:List (List bK×Ye×Yd),
   Paired (fun(p:List bK×V) (q:List bK×Ye×Yd)=>p.1=q.1/\H q.2.1=Ya (.tup (p.1.map kV))/\RelV p.2 q.2.2) kvs xs/\
   ∃o e g,h.get? a=Ya o/\o.ExactDict/\o.data=.dict e g/\e.toList=xs.map (entryOfKey (tupleKind (aZ P w)))/\(xs.map (·.1)).Nodup
 | .set S n=>h.SetOf (intKind P w) a S n
 | .ins C dx fs=>H dx=Ya (.own a)/\fs.length<=1000/\dx≠a/\h.get? a=Ya (Xj C dx)/\
   ∃c,h.Ns1 dx c/\(∀f,ku (fs.lookup f) (c f))/\aby c (fs.map (·.1))
 | .own _=>∃o,h.get? a=Ya o
 | .xd fs=>∃c,h.Ns1 a c/\∀f,ku (fs.lookup f) (c f)
 | .rng lo hi=>∃t u v,h.get? a=Ya {cls:=.type "range",data:=.fields #[.int lo t,.int hi u,.int 1 v]}
 | .frz o u=>h.get? a=Ya o/\bZ H h a u
 | .tbl ps=>h.get? a=Ya {cls:=.none,data:=.fields ps}
 | .met f x=>h.get? a=Ya (abM (.ref f) (.ref x))
 | .ext φ=>φ h/\(∃o,h.get? a=Ya o)/\∀h1 h2:YK,φ h1->(∀o,h1.get? a=Ya o->h2.get? a=Ya o)->φ h2
def lO(H:Hp)(h:YK):Prop:=∀a o,H a=Ya o->bZ P w H h a o
end
section
variable{w:YW}
theorem bZ.lt(x:bZ P w H h a o):a<h.objs.size:=by
 cases o with
 |lst xs=>obtain⟨_,_,_,_,e⟩:=x;exact Yu e
 |tup xs=>obtain⟨_,_,_,p⟩:=x;exact p.lt
 |dK kvs=>obtain⟨_,_,_,_,o,_,_,e,_⟩:=x;exact Yu e
 |dT kvs=>obtain⟨_,_,_,_,o,_,_,e,_⟩:=x;exact Yu e
 |set S n=>obtain⟨o,_,_,_,e,_⟩:=x;exact Yu e
 |ins C dx fs=>obtain⟨_,_,_,e,_⟩:=x;exact Yu e
 |own y=>obtain⟨_,e⟩:=x;exact Yu e
 |xd fs=>obtain⟨_,⟨_,_,_,e,_⟩,_⟩:=x;exact Yu e
 |rng lo hi=>obtain⟨_,_,_,e⟩:=x;exact Yu e
 |frz ob u=>obtain⟨e,_⟩:=x;exact Yu e
 |tbl ps=>exact Yu (show h.get? a=Ya _ from x)
 |met f y=>exact Yu (show h.get? a=Ya _ from x)
 |ext φ=>obtain⟨_,⟨_,e⟩,_⟩:=x;exact Yu e
theorem Paired.mapP{α β:Type}{F G:α->β->Prop}:∀{c:List α} {d:List β},Paired F c d->(∀a b,F a b->G a b)->Paired G c d
 |_,_,.nil,_=>.nil
 |_,_,.cons r t,f=>.cons (f _ _ r) (Paired.mapP t f)
theorem bZ.stay(x:bZ P w H h a o)(k:∀b u,(b=a∨H b=Ya (.own a))->h.get? b=Ya u->h'.get? b=Ya u)
  (ho:∀b,H b=Ya (.own a)->H' b=Ya (.own a)) (m:∀b xs,H b=Ya (.tup xs)->H' b=Ya (.tup xs)):bZ P w H' h' a o:=by
 induction o with
 |lst xs=>obtain⟨z,j,n,r,e⟩:=x;exact⟨z,j,n,r,k _ _ (.inl rfl) e⟩
 |tup xs=>obtain⟨z,j,r,ob,e,c⟩:=x;exact⟨z,j,r,ob,k _ _ (.inl rfl) e,c⟩
 |dK kvs=>obtain⟨z,y,s,r,ob,g,i,e,c⟩:=x;exact⟨z,y,s,r,ob,g,i,k _ _ (.inl rfl) e,c⟩
 |dT kvs=>
  obtain⟨z,y,xs,r,ob,g,i,e,c⟩:=x;exact⟨z,y,xs,Paired.mapP r λp q z=>⟨z.1,m _ _ z.2.1,z.2.2⟩,ob,g,i,k _ _ (.inl rfl) e,c⟩
 |set S n=>obtain⟨ob,g,i,t,e,c⟩:=x;exact⟨ob,g,i,t,k _ _ (.inl rfl) e,c⟩
 |ins C dx fs=>
  obtain⟨d,z,ne,e,l,⟨od,g,i,A,c⟩,r⟩:=x;exact⟨ho _ d,z,ne,k _ _ (.inl rfl) e,l,⟨od,g,i,k _ _ (.inr d) A,c⟩,r⟩
 |own y=>obtain⟨ob,e⟩:=x;exact⟨ob,k _ _ (.inl rfl) e⟩
 |xd fs=>obtain⟨l,⟨od,g,i,e,c⟩,r⟩:=x;exact⟨l,⟨od,g,i,k _ _ (.inl rfl) e,c⟩,r⟩
 |rng lo hi=>obtain⟨t,u,v,e⟩:=x;exact⟨t,u,v,k _ _ (.inl rfl) e⟩
 |frz ob u ih=>obtain⟨e,q⟩:=x;exact⟨k _ _ (.inl rfl) e,ih q⟩
 |tbl ps=>
  have e:h.get? a=Ya {cls:=.none,data:=.fields ps}:=x;show h'.get? a=Ya {cls:=.none,data:=.fields ps};exact k a _ (.inl rfl) e
 |met f y=>
  have e:h.get? a=Ya (abM (.ref f) (.ref y)):=x;show h'.get? a=Ya (abM (.ref f) (.ref y));exact k a _ (.inl rfl) e
 |ext φ=>obtain⟨p,⟨o,e⟩,st⟩:=x;exact⟨st _ _ p λo q=>k _ _ (.inl rfl) q,⟨o,k _ _ (.inl rfl) e⟩,st⟩
theorem lO.lt(x:lO P w H h)(e:H a=Ya o):a<h.objs.size:=(x a o e).lt
theorem lO.fresh(x:lO P w H h)(e:h.objs.size<=a):H a=none:=by
 cases q:H a with
 |none=>rfl
 |some u=>exact absurd (YU (x.lt q) e) (Y7 _)
theorem lO.kept(x:lO P w H h)(k:∀b u,h.get? b=Ya u->h'.get? b=Ya u):lO P w H h':=λa o e=>
 (x a o e).stay (λb u _ q=>k b u q) (λ_ q=>q) λ_ _ q=>q
theorem lO.laid(x:lO P w H h)(k:∀b u,h.get? b=Ya u->h'.get? b=Ya u)(hp:h.objs.size<=a)(new:bZ P w (upd H a o) h' a o):lO P w (upd H a o) h':=λb u e=>by
 have hn:=x.fresh hp;by_cases d:b=a
 ·subst d;rw[ai]at e;cases e;exact new
 ·rw[ak d]at e;exact(x b u e).stay (λc v _ q=>k c v q) (λc q=>by rw[ak (ay q hn)];exact q) λc f q=>by rw[ak (ay q hn)];exact q
end
def Rd(H:Hp)(a:Ye)(u:HO):Prop:=H a=Ya u∨∃o,H a=Ya (.frz o u)
theorem Rd.ok{w:YW}{u:HO}(r:Rd H a u)(x:lO P w H h):bZ P w H h a u:=by
 rcases r with r|⟨o,r⟩
 ·exact x a u r
 ·obtain⟨_,q⟩:=x a _ r;exact q
def U0:Option HO->Prop
 |some (.lst _)=>True
 |some (.dK _)=>True
 |some (.dT _)=>True
 |some (.set _ _)=>True
 |some (.ins _ _ _)=>True
 |some (.ext _)=>True
 |_=>False
section
variable{w:YW}{x e:Ye}{o':HO}
theorem lO.write(ok:lO P w H h)(g:U0 (H x))(n:e=x∨H e=Ya (.own x))(k:∀b u,b≠e->h.get? b=Ya u->h'.get? b=Ya u)(m:∃u,h'.get? e=Ya u)
  (new:bZ P w (upd H x o') h' x o'):lO P w (upd H x o') h':=λb u q=>by
 have d:∀c y,H c=Ya (.own y)->c≠x:=λc y r z=>by subst z;rw[r]at g;exact g
 have f:∀c i,H c=Ya (.tup i)->c≠x:=λc i r z=>by subst z;rw[r]at g;exact g
 by_cases j:b=x
 ·subst j;rw[ai]at q;cases q;exact new
 ·rw[ak j]at q;by_cases a:b=e
  ·have o:H b=Ya (.own x):=by
    rcases n with z|z
    ·exact absurd (a.trans z) j
    ·rw[a];exact z
   rw[q]at o;cases o;obtain⟨v,p⟩:=m;exact⟨v,by rw[a];exact p⟩
  ·refine(ok b u q).stay (λc v l r=>k c v ?_ r) (λc r=>by rw[ak (d c b r)];exact r) λc i r=>by rw[ak (f c i r)];exact r
   rcases l with rfl|l
   ·exact a
   ·rintro rfl;rcases n with z|z
    ·exact d c b l z
    ·rw[l]at z;cases z;exact j rfl
end
structure Un(fs ex:List Ye)(H H':Hp)(h h':YK):Prop where
 keep:∀b o,h.get? b=Ya o->H b=Yb->b∉fs->b∉ex->h'.get? b=Ya o
 slot:∀b o,h.get? b=Ya o->H b=Yb->b∈fs->b∉ex->∃sl,h'.get? b=Ya {o with slots:=sl}
 free:∀b o,h.get? b=Ya o->H b=Yb->b∉ex->H' b=Yb
 there:∀b o,h.get? b=Ya o->b∉ex->∃o',h'.get? b=Ya o'
 tups:∀b xs,H b=Ya (.tup xs)->H' b=Ya (.tup xs)
 frzs:∀b o u,H b=Ya (.frz o u)->H' b=Ya (.frz o u)
 tbls:∀b ps,H b=Ya (.tbl ps)->∃more,H' b=Ya (.tbl (ps++more))
section
variable{fs fs' ex ex':List Ye}{H1 H2:Hp}{h1 h2:YK}{x e:Ye}
theorem Un.any(u:Un fs ex H H1 h h1){ob:Y9}(q:h.get? b=Ya ob)(n:H b=Yb)(a:b∉ex):∃d,h1.get? b=Ya {ob with slots:=d}:=by
 by_cases c:b∈fs
 ·exact u.slot b ob q n c a
 ·exact⟨ob.slots,u.keep b ob q n c a⟩
theorem Un.kept(k:∀b u,h.get? b=Ya u->h'.get? b=Ya u):Un fs ex H H h h':=
 ⟨λb ob q _ _ _=>k b ob q,λb ob q _ _ _=>⟨ob.slots,k b ob q⟩,λ_ _ _ n _=>n,λb ob q _=>⟨ob,k b ob q⟩,λ_ _ q=>q,λ_ _ _ q=>q,λ_ ps q=>⟨#[],by rw[q];simp⟩⟩
theorem Un.refl:Un fs ex H H h h:=Un.kept λ_ _ q=>q
theorem Un.laid(k:∀b u,h.get? b=Ya u->h'.get? b=Ya u)(hp:h.objs.size<=a)(hn:H a=Yb):Un fs ex H (upd H a o) h h' where
 keep:=λb u q _ _ _=>k b u q
 slot:=λb u q _ _ _=>⟨u.slots,k b u q⟩
 free:=λb u q n _=>by rw[ak (YE (YU (Yu q) hp))];exact n
 there:=λb u q _=>⟨u,k b u q⟩
 tups:=λb c q=>by rw[ak (ay q hn)];exact q
 frzs:=λb u c q=>by rw[ak (ay q hn)];exact q
 tbls:=λb ps q=>⟨#[],by rw[ak (ay q hn),q];simp⟩
theorem Un.write(c:U0 (H x))(i:e=x∨H e=Ya (.own x))(k:∀b u,b≠e->h.get? b=Ya u->h'.get? b=Ya u)(d:∃u,h'.get? e=Ya u):Un fs ex H (upd H x o) h h':=by
 have f:∀b,H b=Yb->b≠x:=λb n z=>by subst z;rw[n]at c;exact c
 have g:∀b,H b=Yb->b≠e:=λb n z=>by
  subst z;rcases i with r|r
  ·exact f b n r
  ·rw[n]at r;cases r
 have hm:∀b u,H b=Ya u->¬ U0 (Ya u)->b≠x:=λb u q j z=>by subst z;rw[q]at c;exact j c
 refine⟨λb u q n _ _=>k b u (g b n) q,λb u q n _ _=>⟨u.slots,k b u (g b n) q⟩,λb u q n _=>by rw[ak (f b n)];exact n,λb u q _=>?_,
  λb l q=>by rw[ak (hm b _ q λz=>z)];exact q,λb u l q=>by rw[ak (hm b _ q λz=>z)];exact q,λb ps q=>⟨#[],by rw[ak (hm b _ q λz=>z),q];simp⟩⟩
 by_cases a:b=e
 ·subst a;exact d
 ·exact⟨u,k b u a q⟩
end
def Vw(h:YK)(H:Hp):List Ye:=(Y3 h.objs.size).filter λa=>(H a).isSome
def Bo(h:YK)(H:Hp):YK:=aa7 h (Vw h H)
theorem Ip(h:YK)(H:Hp):(Bo h H).objs.size=h.objs.size:=PySem.W.hideAll_size _ _
theorem J7{o:Y9}(e:h.get? b=Ya o)(n:H b=Yb):(Bo h H).get? b=Ya o:=
 adb _ e λhm=>by
  have q:(H b).isSome=true:=(Y4.mp hm).2;rw[n]at q;simp at q
theorem Nz{o:Y9}(e:(Bo h H).get? b=Ya o):h.get? b=Ya o/\H b=none:=by
 have a:h.get? b=Ya o:=adh (Vw h H) e;refine⟨a,?_⟩;cases q:H b with
 |none=>rfl
 |some x=>
  have hm:b∈Vw h H:=Y4.mpr ⟨WG.mpr (Yu a),by simp[q]⟩;have z:(Bo h H).get? b=none:=acW (Vw h H) hm;rw[z]at e;cases e
structure Mod(K:Yc)(mg:Yn->Option Yd)(base:YK):Prop where
 kin:K.In base
 glob:base.Ns Y5 mg
 blt:∃mb,base.Ns aee mb/\∀x:Yn,x≠"__name__"->mb x=Xk x
 nolimit:base.NoLimit
structure Cx where
 prog:YO
 w:YW
 K:Yc
 mg:Yn->Option Yd
 base:YK
 A:nh
 N:List Yn
 s₀:Yl
 H₀:Hp
 env:aad
 outer:List aad
 stack:List aad
 ex:List Ye
 fn:Yn->Bool
 calm:Bool
 pn:List (Ye×Y9)
 xe:Yd->Yl->Prop
variable{w:YW}{X:Cx}{N:List Yn}{A:nh}{prog:YO}{env:aad}{mg:Yn->Option Yd}{outer:List aad}
def lL(l:List aad):List Ye:=l.filterMap (·.frame)
abbrev Cx.fs(X:Cx):List Ye:=lL X.outer
variable{fs:List (Yn×V)}
def VN(sc:X3)(x:Yn):Prop:=sc.names.lookup x=Ya .local∨sc.names.lookup x=Ya .cell∨sc.names.lookup x=Ya .free
def Uz(sc:X3)(x:Yn):Prop:=sc.names.lookup x=Ya .local∨sc.names.lookup x=Ya .cell
def VV(env:aad)(h:YK)(m:Yn->Option Yd)(x:Yn)(u:Yd):Prop:=
 (env.kindOf x=Ya .local/\m x=Ya u)∨((env.kindOf x=Ya .cell∨env.kindOf x=Ya .free)/\∃c,env.cells.lookup x=Ya c/\h.IsCell c (Ya u))
structure Cx.Ok(X:Cx):Prop where
 mod:Mod X.K X.mg X.base
 kind:X.env.scope.kind=.function
 glob:X.env.globals=Y5
 blt:X.env.builtins=aee
 above:X.s₀.heap.objs.size<=X.env.locals
 inj:∀x y c,X.env.cells.lookup x=Ya c->X.env.cells.lookup y=Ya c->x=y
 has:∀x,(X.env.kindOf x=Ya .cell∨X.env.kindOf x=Ya .free)->∃c,X.env.cells.lookup x=Ya c
 cab:∀x c,X.fn x=true->X.env.cells.lookup x=Ya c->X.s₀.heap.objs.size<=c
 hd:X.calm=true->X.A.handled=Yb
 frames:X.A.frames=Ya X.stack
 stk:X.stack=X.outer∨(X.stack=X.env::X.outer/\X.env.frame=Ya X.env.locals)
 exf:∀b∈X.ex,b≠X.env.locals/\∀x c,X.env.cells.lookup x=Ya c->c≠b
 bs:∀b o,X.base.get? b=Ya o->X.s₀.heap.get? b=Ya o/\X.H₀ b=Yb
 bsz:X.base.objs.size<=X.s₀.heap.objs.size
 noex:∀b o,X.base.get? b=Ya o->b∉X.ex
 exfs:∀b∈X.ex,b∉X.fs
 funs:X.s₀.heap.FunFrames X.base X.outer
 frf:∀b∈X.fs,X.H₀ b=Yb
structure aM(X:Cx)(Za:List (Ye×Y9))(σ:List (Option V))(H:Hp)(s:Yl):Prop where
 ok:X.Ok
 os:s.os=X.s₀.os
 bare:aat s.gens
 base:Un X.fs X.ex X.H₀ H X.s₀.heap s.heap
 loc:∃m,s.heap.Ns X.env.locals m/\∀(i:Nat) (x:Yn) (v:V),X.N[i]?=Ya x->σ[i]?=Ya (Ya v)->VN X.env.scope x->∃u,RelV v u/\VV X.env s.heap m x u
 cell:∀x c,X.env.cells.lookup x=Ya c->∃v,s.heap.IsCell c v
 free:H X.env.locals=Yb
 freeC:∀x c,X.env.cells.lookup x=Ya c->H c=Yb
 pin:∀p∈X.pn++Za,s.heap.get? p.1=Ya p.2/\H p.1=Yb/\p.1≠X.env.locals/\p.1∉X.fs/\∀v,p.2.data≠.cell v
 hok:lO X.prog X.w H s.heap
 len:σ.length=X.N.length
section
variable{σ:List (Option V)}
theorem Cx.Ok.nofr(ok:X.Ok){o:Y9}(e:X.base.get? b=Ya o):b∉X.fs:=λa=>by
 have:=(ok.funs.mem a).1;rw[e]at this;cases this
theorem aM.bs(I:aM X Za σ H s):∀b o,X.base.get? b=Ya o->s.heap.get? b=Ya o/\H b=none:=λb o e=>
 ⟨I.base.keep b o (I.ok.bs b o e).1 (I.ok.bs b o e).2 (I.ok.nofr e) (I.ok.noex b o e),I.base.free b o (I.ok.bs b o e).1 (I.ok.bs b o e).2 (I.ok.noex b o e)⟩
theorem aM.bk(I:aM X Za σ H s):∀b o,X.base.get? b=Ya o->s.heap.get? b=Ya o:=λb o e=>(I.bs b o e).1
theorem aM.mod(I:aM X Za σ H s):Mod X.K X.mg X.base:=I.ok.mod
theorem aM.kIn(I:aM X Za σ H s):X.K.In s.heap:=I.ok.mod.kin.keeps I.bk
theorem aM.lt(I:aM X Za σ H s):X.env.locals<s.heap.objs.size:=let ⟨_,hn,_⟩:=I.loc;hn.lt
theorem aM.sz(I:aM X Za σ H s):X.s₀.heap.objs.size<=s.heap.objs.size:=cb I.ok.above (pe I.lt)
theorem aM.nofs(I:aM X Za σ H s)(h:s.heap.objs.size<=a):a∉X.fs:=λb=>by
 obtain⟨_,o,ho,_⟩:=I.ok.funs.mem b;exact absurd (YU (Yu ho) (cb I.sz h)) (Y7 _)
theorem aM.cne(I:aM X Za σ H s):∀x c,X.env.cells.lookup x=Ya c->c≠X.env.locals:=λx c e z=>by
 obtain⟨v,o,ho,hd⟩:=I.cell x c e;obtain⟨m,⟨d,f,g,a,b,_⟩,_⟩:=I.loc;rw[z,a]at ho;cases ho;rw[b]at hd;cases hd
theorem aM.funs(I:aM X Za σ H s):s.heap.FunFrames X.base X.outer:=by
 have all:∀(l:List aad),(∀b∈lL l,b∈X.fs)->X.s₀.heap.FunFrames X.base l->s.heap.FunFrames X.base l:=by
  intro l
  induction l with
  |nil=>intro _ _;trivial
  |cons env r ih=>
   intro hs hl;obtain⟨f,⟨L,o,a,hn,ho,hd⟩,g⟩:=hl;have c:L∈X.fs:=hs L (by unfold lL;rw[aau,a];exact Ys);obtain⟨h,e⟩:=I.base.slot L o ho (I.ok.frf L c) c λz=>I.ok.exfs L z c;exact⟨f,⟨L,_,a,hn,e,hd⟩,ih (λb d=>hs b (by unfold lL;rw[aau,a];exact Yp _ d)) g⟩
 exact all X.outer (λ_ d=>d) I.ok.funs
theorem aM.stack(I:aM X Za σ H s):s.heap.FunFrames X.base X.stack:=by
 rcases I.ok.stk with e|⟨e,a⟩
 ·rw[e];exact I.funs
 ·rw[e];obtain⟨m,hn,_⟩:=I.loc;refine .cons (by rw[I.ok.kind];decide) a hn ?_ I.funs;exact acX (cb I.ok.bsz I.ok.above)
theorem aM.stkSub(I:aM X Za σ H s):∀b∈lL X.stack,b∈X.env.locals::X.fs:=λb a=>by
 rcases I.ok.stk with e|⟨e,c⟩
 ·rw[e]at a;exact Yp _ a
 ·rw[e]at a;unfold lL at a;rw[aau,c]at a;exact a
theorem aM.stkFree(I:aM X Za σ H s):∀b∈lL X.stack,H b=none:=λb a=>by
 rcases Ym.mp (I.stkSub b a)with e|a
 ·rw[e];exact I.free
 ·obtain⟨_,o,ho,_⟩:=I.ok.funs.mem a;exact I.base.free b o ho (I.ok.frf b a) λz=>I.ok.exfs b z a
theorem aM.step(I:aM X Za σ H s)(f:∀b∈ch,(b∈X.ex∨X.s₀.heap.objs.size<=b)/\b≠X.env.locals/\(∀x c,X.env.cells.lookup x=Ya c->c≠b)/\∀p∈X.pn++Za,p.1≠b)(keep:∀b o,b≠X.env.locals->b∉X.fs->b∉ch->s.heap.get? b=Ya o->H b=Yb->h'.get? b=Ya o)(slot:∀b o,b≠X.env.locals->b∈X.fs->b∉ch->s.heap.get? b=Ya o->H b=Yb->∃B,h'.get? b=Ya {o with slots:=B})(free:∀b o,b∉ch->s.heap.get? b=Ya o->H b=Yb->H' b=Yb)(there:∀b o,b∉ch->s.heap.get? b=Ya o->∃o',h'.get? b=Ya o')(tups:∀b xs,H b=Ya (.tup xs)->H' b=Ya (.tup xs))(frzs:∀b o u,H b=Ya (.frz o u)->H' b=Ya (.frz o u))(tbls:∀b ps,H b=Ya (.tbl ps)->∃more,H' b=Ya (.tbl (ps++more)))(ns:∀m,s.heap.Ns X.env.locals m->h'.Ns X.env.locals m)(hok:lO X.prog X.w H' h')(F:aat g'):
  aM X Za σ H' {s with heap:=h',gens:=g',drawn:=d',toks:=t'}:=by
 have y:∀b o,X.s₀.heap.get? b=Ya o->b≠X.env.locals:=λb o e=>YE (YU (Yu e) I.ok.above);have j:∀b o,X.s₀.heap.get? b=Ya o->b∉X.ex->b∉ch:=λb o e a w=>by
  rcases(f b w).1 with z|z
  ·exact a z
  ·exact absurd (YU (Yu e) z) (Y7 _)
 have g:∀x c,X.env.cells.lookup x=Ya c->∀v,s.heap.IsCell c v->h'.IsCell c v:=λx c e v ⟨o,ho,hd⟩=>by
  have h:c∉ch:=λz=>(f c z).2.2.1 x c e rfl;by_cases D:c∈X.fs
  ·obtain⟨B,q⟩:=slot c o (I.cne x c e) D h ho (I.freeC x c e);exact⟨_,q,hd⟩
  ·exact⟨o,keep c o (I.cne x c e) D h ho (I.freeC x c e),hd⟩
 refine⟨I.ok,I.os,F,⟨λb o e n w a=>?_,λb o e n w a=>?_,λb o e n a=>?_,λb o e a=>?_,λb xs e=>tups b xs (I.base.tups b xs e),λb o xs e=>frzs b o xs (I.base.frzs b o xs e),λb ps e=>?_⟩,?_,λx c e=>?_,?_,λx c e=>?_,λp hp=>?_,hok,I.len⟩
 ·exact keep b o (y b o e) w (j b o e a) (I.base.keep b o e n w a) (I.base.free b o e n a)
 ·obtain⟨B,t⟩:=I.base.slot b o e n w a;obtain⟨C,A⟩:=slot b _ (y b o e) w (j b o e a) t (I.base.free b o e n a);exact⟨C,A⟩
 ·obtain⟨o',t⟩:=I.base.there b o e a;exact free b o' (j b o e a) t (I.base.free b o e n a)
 ·obtain⟨o',t⟩:=I.base.there b o e a;exact there b o' (j b o e a) t
 ·obtain⟨G,t⟩:=I.base.tbls b ps e;obtain⟨J,A⟩:=tbls b _ t;exact⟨G++J,by rw[A,adi]⟩
 ·obtain⟨m,hn,hl⟩:=I.loc;refine⟨m,ns m hn,λi x v t A K=>?_⟩;obtain⟨u,r,l⟩:=hl i x v t A K;refine⟨u,r,?_⟩;rcases l with l|⟨k,c,e,z⟩
  ·exact .inl l
  ·exact .inr ⟨k,c,e,g x c e _ z⟩
 ·obtain⟨v,z⟩:=I.cell x c e;exact⟨v,g x c e v z⟩
 ·obtain⟨m,⟨o,_,_,ho,_⟩,_⟩:=I.loc;exact free _ o (λz=>(f _ z).2.1 rfl) ho I.free
 ·obtain⟨v,o,ho,hd⟩:=I.cell x c e;exact free c o (λz=>(f c z).2.2.1 x c e rfl) ho (I.freeC x c e)
 ·obtain⟨e,n,ne,E,d⟩:=I.pin p hp;have h:p.1∉ch:=λz=>(f p.1 z).2.2.2 p hp rfl;exact⟨keep p.1 p.2 ne E h e n,free p.1 p.2 h e n,ne,E,d⟩
theorem aM.un(I:aM X Za σ H s)(u:Un X.fs [] H H' s.heap h')(hok:lO X.prog X.w H' h'):aM X Za σ H' {s with heap:=h',toks:=t'}:=by
 obtain⟨m,⟨o,i,j,ho,r⟩,_⟩:=id I.loc;obtain⟨k,f⟩:=u.any ho I.free (by simp);exact I.step (g':=s.gens) (d':=s.drawn) (ch:=[]) (λ_ z=>nomatch z) (λb o _ c _ e n=>u.keep b o e n c (by simp)) (λb o _ c _ e n=>u.slot b o e n c (by simp)) (λb o _ e n=>u.free b o e n (by simp)) (λb o _ e=>u.there b o e (by simp)) u.tups u.frzs u.tbls (λl hm=>by
  obtain⟨p,g,d,a,h⟩:=hm;rw[ho]at a;cases a;exact⟨_,g,d,f,h⟩) hok I.bare
theorem aM.call(I:aM X Za σ H s)(u:Un (lL X.stack) ch H H' s.heap h')(hok:lO X.prog X.w H' h')(i:aat g')(d:∀b∈ch,(b∈X.ex∨X.s₀.heap.objs.size<=b)/\b≠X.env.locals/\(∀x c,X.env.cells.lookup x=Ya c->c≠b)/\∀p∈X.pn++Za,p.1≠b):
  aM X Za σ H' {s with heap:=h',gens:=g',drawn:=d',toks:=t'}:=by
 obtain⟨m,⟨o,q,t,ho,r⟩,_⟩:=id I.loc;obtain⟨v,g⟩:=u.any ho I.free λz=>(d _ z).2.1 rfl;exact I.step (ch:=ch) d (λb o g j a e n=>u.keep b o e n (λz=>(Ym.mp (I.stkSub b z)).elim g j) a) (λb o _ _ a e n=>u.any e n a) (λb o a e n=>u.free b o e n a) (λb o a e=>u.there b o e a) u.tups u.frzs u.tbls (λw hm=>by
  obtain⟨y,k,h,f,l⟩:=hm;rw[ho]at f;cases f;exact⟨_,k,h,g,l⟩) hok i
theorem aM.turned(I:aM X Za σ H s)(k:∀b o,b≠it->s.heap.get? b=Ya o->h'.get? b=Ya o)(hn:H it=Yb)(f:it≠X.env.locals)(h1:it∈X.ex∨X.s₀.heap.objs.size<=it)(h2:∀x c,X.env.cells.lookup x=Ya c->c≠it)(h3:∀p∈X.pn++Za,p.1≠it):aM X Za σ H {s with heap:=h',toks:=t'}:=by
 have d:∀b u,H b=Ya u->b≠it:=λb u e z=>by rw[z,hn]at e;cases e
 refine I.step (g':=s.gens) (d':=s.drawn) (ch:=[it]) (λb g=>?_) (λb o _ _ a e _=>k b o (λz=>a (by simp[z])) e) (λb o _ _ a e _=>⟨o.slots,k b o (λz=>a (by simp[z])) e⟩) (λ_ _ _ _ n=>n)
  (λb o a e=>⟨o,k b o (λz=>a (by simp[z])) e⟩) (λ_ _ e=>e) (λ_ _ _ e=>e) (λb ps e=>⟨#[],by rw[e];simp⟩) (λm hm=>?_) (λb u e=>?_) I.bare
 ·have e:b=it:=by simpa using g
  subst e;exact⟨h1,f,h2,h3⟩
 ·obtain⟨o,h,i,ho,r⟩:=hm;exact⟨o,h,i,k _ o (cT f) ho,r⟩
 ·refine(I.hok b u e).stay (λc v a q=>k c v ?_ q) (λ_ q=>q) λ_ _ q=>q;rcases a with z|z
  ·rw[z];exact d b u e
  ·exact d c _ z
theorem aM.tok(I:aM X Za σ H s)(t:Nat):aM X Za σ H {s with toks:=t}:=I.un (h':=s.heap) (t':=t) Un.refl I.hok
theorem aM.kept(I:aM X Za σ H s)(k:∀b u,s.heap.get? b=Ya u->h'.get? b=Ya u):aM X Za σ H {s with heap:=h',toks:=t'}:=I.un (Un.kept k) (I.hok.kept k)
theorem aM.laid(I:aM X Za σ H s)(k:∀b u,s.heap.get? b=Ya u->h'.get? b=Ya u)(hp:s.heap.objs.size<=a)(new:bZ X.prog X.w (upd H a o) h' a o):
  aM X Za σ (upd H a o) {s with heap:=h',toks:=t'}:=I.un (Un.laid k hp (I.hok.fresh hp)) (I.hok.laid k hp new)
theorem aM.write{x e:Ye}{o:HO}{t':Nat}(I:aM X Za σ H s)(c:U0 (H x))(d:e=x∨H e=Ya (.own x))(k:∀b u,b≠e->s.heap.get? b=Ya u->h'.get? b=Ya u)(a:∃u,h'.get? e=Ya u)
  (new:bZ X.prog X.w (upd H x o) h' x o):aM X Za σ (upd H x o) {s with heap:=h',toks:=t'}:=I.un (Un.write c d k a) (I.hok.write c d k a new)
theorem aM.pins_of{a:List (Ye×Y9)}(I:aM X Za σ H s)(h:∀p∈a,s.heap.get? p.1=Ya p.2/\H p.1=Yb/\p.1≠X.env.locals/\p.1∉X.fs/\∀v,p.2.data≠.cell v):aM X a σ H s:=
 ⟨I.ok,I.os,I.bare,I.base,I.loc,I.cell,I.free,I.freeC,λp hp=>(YG.mp hp).elim (λz=>I.pin p (Y1 _ z)) (h p),I.hok,I.len⟩
theorem En(c:N.Nodup)(a:N[i]?=Ya x)(b:N[j]?=Ya x):i=j:=by
 obtain⟨h1,d⟩:=Yi.mp a;obtain⟨h2,e⟩:=Yi.mp b;exact(List.getElem_inj c).mp (d.trans e.symm)
theorem zK{Q:Unit->Yl->Prop}(I:aM X Za σ H s)(hN:X.N.Nodup)(K:X.N[i]?=Ya x)(t:Uz X.env.scope x)(r:RelV v u)(h:∀s',aM X Za (σ.set i (Ya v)) H s'->(∃a,Wt a s.heap s'.heap/\(a=X.env.locals∨X.env.cells.lookup x=Ya a))->Q () s')(hf:X.fn x=true∨X.env.scope.names.lookup x=Ya .local:=by first|exact .inl rfl|exact .inr rfl|assumption):Yo M A (storeName X.env x u) Q E s:=by
 obtain⟨m,hn,hl⟩:=id I.loc;have L:(X.env.scope.kind==.class||(X.env.scope.kind==.module&&X.env.locals !=X.env.globals))=false:=by rw[I.ok.kind];rfl
 have N:i<σ.length:=by rw[I.len];exact(Yi.mp K).1
 have cne:=I.cne;have f:∀{a:Ye} {J:YK},(∃o,s.heap.get? a=Ya o/\H a=Yb)->Wt a s.heap J->lO X.prog X.w H J:=fun{a J} ha hs b ob e=>by
  obtain⟨_,_,w⟩:=ha;refine(I.hok b ob e).stay (λc T l q=>(hs.2 c ?_).trans q) (λ_ q=>q) λ_ _ q=>q;rintro rfl;rcases l with rfl|l
  ·rw[w]at e;cases e
  ·rw[w]at l;cases l
 rcases t with C|C
 ·refine wpAny_storeName_local C hn (λJ V hs=>?_) L;obtain⟨oL,_,_,W,_⟩:=id hn;refine h _ ⟨I.ok,I.os,I.bare,⟨λb o e n D t=>?_,λb o e n D t=>?_,I.base.free,λb o e t=>?_,I.base.tups,I.base.frzs,I.base.tbls⟩,⟨_,V,λj y Y g B Z=>?_⟩,λy c e=>?_,I.free,I.freeC,λp hp=>?_,f ⟨oL,W,I.free⟩ hs,by simpa using I.len⟩ ⟨_,hs,.inl rfl⟩
  ·exact(hs.2 b (YE (YU (Yu e) I.ok.above))).trans (I.base.keep b o e n D t)
  ·obtain⟨sl,g⟩:=I.base.slot b o e n D t;exact⟨sl,(hs.2 b (YE (YU (Yu e) I.ok.above))).trans g⟩
  ·obtain⟨o',g⟩:=I.base.there b o e t;exact⟨o',(hs.2 b (YE (YU (Yu e) I.ok.above))).trans g⟩
  ·by_cases F:j=i
   ·subst F;rw[K]at g;cases g;rw[acx N]at B;cases B;exact⟨u,r,.inl ⟨C,by simp⟩⟩
   ·rw[acY (cT F)]at B;obtain⟨u',r',q⟩:=hl j y Y g B Z;refine⟨u',r',?_⟩;rcases q with⟨k,e⟩|⟨k,c,e,z⟩
    ·refine .inl ⟨k,?_⟩;have:y≠x:=λe=>F (En hN g (e▸K));simp[this,e]
    ·exact .inr ⟨k,c,e,z.sameBut hs (cne y c e)⟩
  ·obtain⟨T,z⟩:=I.cell y c e;exact⟨T,z.sameBut hs (cne y c e)⟩
  ·obtain⟨e,n,ne,nf,d⟩:=I.pin p hp;exact⟨(hs.2 p.1 ne).trans e,n,ne,nf,d⟩
 ·have G:X.fn x=true:=by
   rcases hf with z|z
   ·exact z
   ·rw[z]at C;cases C
  obtain⟨c,l⟩:=I.ok.has x (.inl C);obtain⟨T,z⟩:=I.cell x c l;refine wpAny_storeName_cell I.ok.kind C l z (λJ O hs=>?_);obtain⟨oc,P,R⟩:=id z;refine h {s with heap:=J} ⟨I.ok,I.os,I.bare,⟨λb o e n D t=>?_,λb o e n D t=>?_,I.base.free,λb o e t=>?_,I.base.tups,I.base.frzs,I.base.tbls⟩,⟨m,hn.sameBut hs (cT (cne x c l)),λj y Y g B Z=>?_⟩,λy U e=>?_,I.free,I.freeC,λp hp=>?_,f ⟨oc,P,I.freeC x c l⟩ hs,by simpa using I.len⟩ ⟨c,hs,.inr l⟩
  ·exact(hs.2 b (YE (YU (Yu e) (I.ok.cab x c G l)))).trans (I.base.keep b o e n D t)
  ·obtain⟨sl,g⟩:=I.base.slot b o e n D t;exact⟨sl,(hs.2 b (YE (YU (Yu e) (I.ok.cab x c G l)))).trans g⟩
  ·obtain⟨o',g⟩:=I.base.there b o e t;exact⟨o',(hs.2 b (YE (YU (Yu e) (I.ok.cab x c G l)))).trans g⟩
  ·by_cases F:j=i
   ·subst F;rw[K]at g;cases g;rw[acx N]at B;cases B;exact⟨u,r,.inr ⟨.inl C,c,l,O⟩⟩
   ·rw[acY (cT F)]at B;obtain⟨u',r',q⟩:=hl j y Y g B Z;refine⟨u',r',?_⟩;rcases q with q|⟨k,U,e,z'⟩
    ·exact .inl q
    ·refine .inr ⟨k,U,e,z'.sameBut hs ?_⟩;rintro rfl;exact F (En hN g (I.ok.inj _ _ _ e l▸K))
  ·by_cases S:U=c
   ·subst S;exact⟨_,O⟩
   ·obtain⟨w2,z2⟩:=I.cell y U e;exact⟨w2,z2.sameBut hs S⟩
  ·obtain⟨e,n,ne,nf,d⟩:=I.pin p hp;refine⟨(hs.2 p.1 ?_).trans e,n,ne,nf,d⟩;intro q;rw[q,P]at e;have q':oc=p.2:=YC e;exact d T (by rw[←q'];exact R)
theorem CS{Q:Unit->Yl->Prop}(I:aM X Za σ H s)(a:X.N.Nodup)(b:X.N[i]?=Ya x)(c:Uz X.env.scope x)(r:RelV v u)(h:∀s',aM X Za (σ.set i (Ya v)) H s'->Q () s')(d:X.fn x=true∨X.env.scope.names.lookup x=Ya .local:=by first|exact .inl rfl|exact .inr rfl|assumption):Yo M A (storeName X.env x u) Q E s:=
 zK I a b c r (λs' e _=>h s' e) d
theorem aM.call'(I:aM X Za σ H s)(ho:s'.os=s.os)(u:Un (lL X.stack) ch H H' s.heap s'.heap)(hok:lO X.prog X.w H' s'.heap)(d:aat s'.gens)(a:∀b∈ch,(b∈X.ex∨X.s₀.heap.objs.size<=b)/\b≠X.env.locals/\(∀x c,X.env.cells.lookup x=Ya c->c≠b)/\∀p∈X.pn++Za,p.1≠b):aM X Za σ H' s':=by
 obtain⟨j,f,g,h,i⟩:=s';have e:i=s.os:=ho;subst e;exact I.call (g':=f) (t':=h) (d':=g) u hok d a
end
abbrev XK:=Yd->Option Ye->Hp->Prop
abbrev St:=List (Option V)
variable{σ:St}
abbrev VK:=V->Hp->Prop
abbrev TE:=St->Hp->VK->Prop
variable{ta te tl tv td ty:TE}
abbrev TT:=St->Hp->(Bool->Hp->Prop)->Prop
variable{tc:TT}
abbrev TA:=St->Hp->(List V->Hp->Prop)->Prop
structure p5 where
 nx:St->Hp->Prop
 rt:VK
 bk:St->Hp->Prop:=λ_ _=>False
 ct:St->Hp->Prop:=λ_ _=>False
variable{D:p5}
abbrev TS:=p5->St->Hp->Prop
variable{tb:TS}
def EP(X:Cx)(b:List (Ye×Y9))(σ:St)(Q:VK)(u:Yd)(s':Yl):Prop:=∃v a,aM X b σ a s'/\RelV v u/\Q v a
def TP(X:Cx)(c:List (Ye×Y9))(σ:St)(Q:Bool->Hp->Prop)(b:Bool)(s':Yl):Prop:=∃a,aM X c σ a s'/\Q b a
def AP(X:Cx)(c:List (Ye×Y9))(σ:St)(Q:List V->Hp->Prop)(us:List Yd)(s':Yl):Prop:=∃a b,aM X c σ b s'/\Vals a us/\Q a b
def SP(X:Cx)(c:List (Ye×Y9))(D:p5)(f:Flow)(s':Yl):Prop:=
 match f with
 | .next=>∃b a,aM X c b a s'/\D.nx b a
 | .brk=>∃b a,aM X c b a s'/\D.bk b a
 | .cont=>∃b a,aM X c b a s'/\D.ct b a
 | .ret u=>∃v b a,aM X c b a s'/\RelV v u/\D.rt v a
def PE(X:Cx)(e:Y2)(t:TE):Prop:=
 ∀(a:List (Ye×Y9)) (s:Yl) (σ:St) (H:Hp) (Q:VK),aM X a σ H s->t σ H Q->Yo (model X.prog X.w) X.A (eval e X.env) (EP X a σ Q) X.xe s
def PT(X:Cx)(e:Y2)(t:TT):Prop:=
 ∀(a:List (Ye×Y9)) (s:Yl) (σ:St) (H:Hp) (Q:Bool->Hp->Prop),aM X a σ H s->t σ H Q->Yo (model X.prog X.w) X.A (isTrue e X.env (eval e X.env)) (TP X a σ Q) X.xe s
def PW(X:Cx)(e:Y2)(t:TT):Prop:=
 ∀(a:abL Yd) (b:List (Ye×Y9)) (s:Yl) (σ:St) (H:Hp) (Q:Bool->Hp->Prop),aM X b σ H s->t σ H Q->Yo (model X.prog X.w) X.A (isTrue e X.env a) (TP X b σ Q) X.xe s
theorem PW.pt{t:TT}(h:PW X e t):PT X e t:=h _
def PA(X:Cx)(es:List Y2)(t:TA):Prop:=
 ∀(pos:Xr) (a:List (Ye×Y9)) (s:Yl) (σ:St) (H:Hp) (Q:List V->Hp->Prop),aM X a σ H s->t σ H Q->Yo (model X.prog X.w) X.A (spliced (backTo pos (starEach es X.env))) (AP X a σ Q) X.xe s
def PS(X:Cx)(st:YT)(t:TS):Prop:=
 ∀(a:List (Ye×Y9)) (s:Yl) (σ:St) (H:Hp) (D:p5),aM X a σ H s->t D σ H->Yo (model X.prog X.w) X.A (exec st X.env) (SP X a D) X.xe s
def BA(X:Cx)(st:List YT)(t:TS):Prop:=
 ∀(a:List (Ye×Y9)) (s:Yl) (σ:St) (H:Hp) (D:p5),aM X a σ H s->t D σ H->Yo (model X.prog X.w) X.A (execs st X.env) (SP X a D) X.xe s
theorem cz{α:Type}{t:abL α}{Q b:α->Yl->Prop}(h:Yo M A t Q E s)(c:∀a s,Q a s->b a s):Yo M A t b E s:=wpAny_mono h c λ_ _ x=>x
section
theorem Wn{a b:Y2}{tb:TE}(ha:PE X a ta)(i:PE X b tb)(I:aM X Za σ H s)(h:ta σ H λx e=>tb σ e λy c=>R x y c){α:Type}{Q:α->Yl->Prop}{f:Yd->Yd->abL α}(j:∀v u d x y c,aM X Za σ c d->RelV x v->RelV y u->R x y c->Yo (model X.prog X.w) X.A (f v u) Q X.xe d):
  Yo (model X.prog X.w) X.A (eval a X.env) (λv k=>Yo (model X.prog X.w) X.A (eval b X.env) (λu l=>Yo (model X.prog X.w) X.A (f v u) Q X.xe l) X.xe k) X.xe s:=by
 refine cz (ha Za s σ H _ I h) λv m g=>?_;obtain⟨x,e,n,o,p⟩:=g;refine cz (i Za m σ e _ n p) λu d g=>?_;obtain⟨y,c,q,r,t⟩:=g;exact j v u d x y c q o r t
def Jl(i:Nat):TE:=λσ H Q=>∃v,σ[i]?=Ya (Ya v)/\Q v H
def tC(v:V):TE:=λ_ H Q=>Q v H
theorem Sr(g:X.N[i]?=Ya x)(j:VN X.env.scope x)(hd:(x==("__debug__":Yn))=false:=by decide)(d:(x==("__classdict__":Yn))=false:=by decide):PE X (.Name x pos) (Jl i):=by
 intro k s σ H Q I h;obtain⟨v,e,h⟩:=h;obtain⟨m,hn,hl⟩:=I.loc;obtain⟨u,r,l⟩:=hl i x v g e j;have fin:EP X k σ Q u s:=⟨v,H,I,r,h⟩;rcases l with⟨b,hm⟩|⟨b,c,f,a⟩
 ·exact aef (wpAny_loadName_local I.ok.kind b hn hm fin) hd
 ·rcases b with b|b
  ·exact aef (wpAny_loadName_cell I.ok.kind b f a fin) hd
  ·exact aef (wpAny_loadName_free I.ok.kind b f a fin d) hd
theorem ax{i j pos}:PE X (.Constant (.int i) j pos) (tC (.int i)):=λ_ _ _ H _ I h=>wpAny_Constant_int ⟨.int i,H,I.tok _,⟨_,rfl⟩,h⟩
theorem i8{b j pos}:PE X (.Constant (.bool b) j pos) (tC (.bl b)):=λ_ _ _ H _ I h=>Constant_bool ⟨.bl b,H,I,rfl,h⟩
theorem pX{j pos}:PE X (.Constant .none j pos) (tC .non):=λ_ _ _ H _ I h=>Constant_none ⟨.non,H,I,rfl,h⟩
theorem gF{x j pos}:PE X (.Constant (.str x) j pos) (tC (.str x)):=λ_ _ _ H _ I h=>Calls.Constant_str ⟨.str x,H,I.tok _,⟨_,rfl⟩,h⟩
def Gl(X:Cx)(x:Yn):Prop:=X.env.kindOf x=Ya .globalImplicit
theorem my(I:aM X Za σ H s)(a:Gl X x)(hm:X.mg x=Ya u)(h:Q u s)(hd:(x==("__debug__":Yn))=false:=by decide):Yo (model X.prog X.w) X.A (eval (.Name x pos) X.env) Q E s:=
 abE I.ok.kind a (Calls.loadGlobal_global (by rw[I.ok.glob];exact I.mod.glob.keeps I.bk) hm h) hd
theorem pR(I:aM X Za σ H s)(a:Gl X x)(hm:X.mg x=Yb)(b:Xk x=Ya u)(h:Q u s)(hn:x≠"__name__":=by decide)(hd:(x==("__debug__":Yn))=false:=by decide):Yo (model X.prog X.w) X.A (eval (.Name x pos) X.env) Q E s:=by
 obtain⟨c,h1,h2⟩:=I.mod.blt;exact abE I.ok.kind a (Calls.loadGlobal_builtin (by rw[I.ok.glob];exact I.mod.glob.keeps I.bk) hm (by rw[I.ok.blt];exact h1.keeps I.bk) ((h2 x hn).trans b) h) hd
theorem Gu(a:Gl X x)(hm:X.mg x=Ya u)(r:RelV v u)(hd:(x==("__debug__":Yn))=false:=by decide):PE X (.Name x pos) (tC v):=
 λ_ _ _ H _ I h=>my I a hm ⟨v,H,I,r,h⟩ hd
theorem Nx(a:Gl X x)(hm:X.mg x=Yb)(b:Xk x=Ya u)(r:RelV v u)(hn:x≠"__name__":=by decide)(hd:(x==("__debug__":Yn))=false:=by decide):PE X (.Name x pos) (tC v):=
 λ_ _ _ H _ I h=>pR I a hm b ⟨v,H,I,r,h⟩ hn hd
variable{a b:Y2}{tb:TE}
def PC(X:Cx)(op:aed)(a b:Y2)(t:TE):Prop:=
 ∀(c:List (Ye×Y9)) (s:Yl) (σ:St) (H:Hp) (Q:VK),aM X c σ H s->t σ H Q->
  Yo (model X.prog X.w) X.A (eval a X.env) (λv d=>Yo (model X.prog X.w) X.A (eval b X.env) (λu e=>Yo (model X.prog X.w) X.A (compareOp op v u) (EP X c σ Q) X.xe e) X.xe d) X.xe s
def tB(t:TE):TT:=λσ H Q=>t σ H λx a=>∃c,x=.bl c/\Q c a
theorem Fq{t:TE}(h:PC X op a b t)(h1:aaW op b=false:=by first|exact nobehind _ (by decide) (by decide)|rfl):PT X (.Compare a [op] [b] pos) (tB t):=by
 intro e s σ H Q I hw;refine acG (cz (h e s σ H _ I hw) λv l h1=>cz h1 λu m h2=>cz h2 λc n f=>?_) h1;obtain⟨x,g,i,j,k⟩:=f;obtain⟨d,rfl,q⟩:=k;cases j;exact wpAny_truthy_bool ⟨g,i,q⟩
variable{tA Zy:TT}{Zd:List Y2}
def UO(t u:TT):TT:=λσ H Q=>t σ H λc a=>if c=true then u σ a Q else Q false a
def V6(t u:TT):TT:=λσ H Q=>t σ H λc a=>if c=true then Q true a else u σ a Q
def TV(t:TT):TT:=λσ H Q=>t σ H λc a=>Q (!c) a
theorem ue(ha:PT X a tA):PW X (.BoolOp .And [a] pos) tA:=by
 intro d b s σ H Q I h;refine isTrue_and (cz (ha b s σ H Q I h) λc f e=>?_);cases c with
 |true=>exact isTrue_and_nil e
 |false=>exact e
theorem EK(ha:PT X a tA):PW X (.BoolOp .Or [a] pos) tA:=by
 intro d b s σ H Q I h;refine isTrue_or (cz (ha b s σ H Q I h) λc f e=>?_);cases c with
 |false=>exact isTrue_or_nil e
 |true=>exact e
theorem w5(ha:PT X a tA)(i:PW X (.BoolOp .And (b::Zd) pos) Zy):PW X (.BoolOp .And (a::b::Zd) pos) (UO tA Zy):=by
 intro j d s σ H Q I h;refine isTrue_and (cz (ha d s σ H _ I h) λc k l=>?_);obtain⟨e,f,g⟩:=l;cases c with
 |true=>exact i j d k σ e Q f g
 |false=>exact⟨e,f,g⟩
theorem zW(ha:PT X a tA)(i:PW X (.BoolOp .Or (b::Zd) pos) Zy):PW X (.BoolOp .Or (a::b::Zd) pos) (V6 tA Zy):=by
 intro j d s σ H Q I h;refine isTrue_or (cz (ha d s σ H _ I h) λc k l=>?_);obtain⟨e,f,g⟩:=l;cases c with
 |true=>exact⟨e,f,g⟩
 |false=>exact i j d k σ e Q f g
theorem mE(ha:PT X a tA):PT X (.UnaryOp .Not a pos) (TV tA):=by
 intro b s σ H Q I h;exact isTrue_not (ha b s σ H (λc d=>Q (!c) d) I h)
def P0(ta tb:TE):TE:=λσ H Q=>ta σ H λx a=>∃c,x=.bl c/\if c=true then tb σ a Q else Q (.bl false) a
def Tp(ta tb:TE):TE:=λσ H Q=>ta σ H λx a=>∃c,x=.bl c/\if c=true then Q (.bl true) a else tb σ a Q
def PM(ta:TE):TE:=λσ H Q=>ta σ H λx a=>∃c,x=.bl c/\Q (.bl (!c)) a
theorem yx{op}{t:TE}(h:PE X a t):PE X (.BoolOp op [a] pos) t:=λb s σ H Q I hw=>BoolOp_one (h b s σ H Q I hw)
theorem Bv(ha:PE X a ta)(i:PE X (.BoolOp .And (b::Zd) pos) tb):PE X (.BoolOp .And (a::b::Zd) pos) (P0 ta tb):=by
 intro e s σ H Q I h;refine BoolOp_and (cz (ha e s σ H _ I h) λv j k=>?_);obtain⟨x,f,g,l,d⟩:=k;obtain⟨c,rfl,d⟩:=d;cases l;refine wpAny_truthy_bool ?_;cases c with
 |true=>exact i e j σ f Q g d
 |false=>exact⟨.bl false,f,g,rfl,d⟩
theorem UB(ha:PE X a ta)(i:PE X (.BoolOp .Or (b::Zd) pos) tb):PE X (.BoolOp .Or (a::b::Zd) pos) (Tp ta tb):=by
 intro e s σ H Q I h;refine BoolOp_or (cz (ha e s σ H _ I h) λv j k=>?_);obtain⟨x,f,g,l,d⟩:=k;obtain⟨c,rfl,d⟩:=d;cases l;refine wpAny_truthy_bool ?_;cases c with
 |false=>exact i e j σ f Q g d
 |true=>exact⟨.bl true,f,g,rfl,d⟩
theorem J1(ha:PE X a ta):PE X (.UnaryOp .Not a pos) (PM ta):=by
 intro d s σ H Q I h;refine UnaryOp_ (cz (ha d s σ H _ I h) λv j e=>?_);obtain⟨x,f,g,i,b⟩:=e;obtain⟨c,rfl,b⟩:=b;cases i;exact not_of (wpAny_truthy_bool ⟨.bl (!c),f,g,rfl,b⟩)
def V4(t:TT)(ta tb:TE):TE:=λσ H Q=>t σ H λc a=>if c=true then ta σ a Q else tb σ a Q
theorem xv(k:PT X c tA)(ha:PE X a ta)(l:PE X b tb):PE X (.IfExp c a b pos) (V4 tA ta tb):=by
 intro e s σ H Q I h;refine wpAny_IfExp (cz (k e s σ H _ I h) λd f m=>?_);obtain⟨g,i,j⟩:=m;cases d with
 |true=>exact ha e f σ g Q i j
 |false=>exact l e f σ g Q i j
end
def bo(K:Yc)(H:Hp)(a:Ye)(xs:List V):Prop:=
 Rd H a (.lst xs)∨
  ∃(o:Y9) (b:Array Yd) (n:Nat),K.lookup a=Ya o/\o.cls=.type "list"/\o.dict=Yb/\o.data=.seq b n/\b.size<=sizeLine/\Vals xs b.toList
def bC(K:Yc)(H:Hp)(a:Ye)(xs:List V):Prop:=
 Rd H a (.tup xs)∨
  ∃(o:Y9) (b:Array Yd) (n:Nat),K.lookup a=Ya o/\o.cls=.type "tuple"/\o.data=.seq b n/\b.size<=sizeLine/\Vals xs b.toList
def VC:Yd->Option V
 | .none=>Ya .non
 | .bool b=>Ya (.bl b)
 | .int i _=>Ya (.int i)
 | .str x _=>Ya (.str x)
 | .bytes b _=>Ya (.byt b)
 | .float b _=>Ya (.flt b)
 | .ref a=>Ya (.ref a)
 | .type n=>Ya (.ty n)
 |_=>Yb
theorem RelV.abs{x:V}(r:RelV x u):VC u=Ya x:=by
 cases x with
 |non=>cases r;rfl
 |bl _=>cases r;rfl
 |int _=>obtain⟨t,rfl⟩:=r;rfl
 |str _=>obtain⟨t,rfl⟩:=r;rfl
 |byt _=>obtain⟨t,rfl⟩:=r;rfl
 |flt _=>obtain⟨t,rfl⟩:=r;rfl
 |ref _=>cases r;rfl
 |ty _=>cases r;rfl
theorem RelV.inj{x:V}(r:RelV x u)(q:RelV y u):x=y:=YC (r.abs.symm.trans q.abs)
theorem Vals.inj:∀{xs ys:List V} {us:List Yd},Vals xs us->Vals ys us->xs=ys:=by
 intro xs ys us h
 induction h generalizing ys with
 |nil=>
  intro h;cases h;rfl
 |cons r t ih=>
  intro h;cases h with|cons r' t'=>
  rw[r.inj r',ih t']
section
variable{xs ys:List V}
theorem bo.of{K:Yc}(h:H a=Ya (.lst xs)):bo K H a xs:=.inl (.inl h)
theorem bC.of{K:Yc}(h:H a=Ya (.tup xs)):bC K H a xs:=.inl (.inl h)
theorem aM.list(I:aM X Za σ H s)(h:bo X.K H a xs):∃its:List Yd,Vals xs its/\PlainL s.heap a its.toArray/\xs.length<=sizeLine:=by
 rcases h with h|⟨o,its,n,b,c,hd,hs,d,r⟩
 ·obtain⟨z,its,n,r,e⟩:=h.ok I.hok;exact⟨its,r,⟨_,n,e,rfl,rfl,rfl⟩,z⟩
 ·refine⟨its.toList,r,⟨o,n,I.kIn a o b,c,hd,by simpa using hs⟩,?_⟩;have e:=r.length;simp only[ir]at e;omega
theorem aM.tuple(I:aM X Za σ H s)(h:bC X.K H a xs):∃its:List Yd,Vals xs its/\aeQ s.heap a its.toArray/\xs.length<=sizeLine:=by
 rcases h with h|⟨o,its,n,b,c,hs,d,r⟩
 ·obtain⟨z,its,r,p⟩:=h.ok I.hok;exact⟨its,r,p.tup,z⟩
 ·refine⟨its.toList,r,⟨o,I.kIn a o b,c,n,by simpa using hs⟩,?_⟩;have e:=r.length;simp only[ir]at e;omega
theorem aM.list_inj(I:aM X Za σ H s)(h:bo X.K H a xs)(h':bo X.K H a ys):xs=ys:=by
 obtain⟨c,r,⟨o,n,e,_,_,d⟩,_⟩:=I.list h;obtain⟨b,i,⟨j,k,f,_,_,g⟩,_⟩:=I.list h';rw[e]at f;cases f;rw[d]at g;injection g with d1 _;have:c=b:=by simpa using congrArg adj d1
 subst this;exact r.inj i
theorem aM.tuple_inj(I:aM X Za σ H s)(h:bC X.K H a xs)(h':bC X.K H a ys):xs=ys:=by
 obtain⟨c,r,⟨o,e,_,n,d⟩,_⟩:=I.tuple h;obtain⟨b,i,⟨j,f,_,k,g⟩,_⟩:=I.tuple h';rw[e]at f;cases f;rw[d]at g;injection g with d1 _;have:c=b:=by simpa using congrArg adj d1
 subst this;exact r.inj i
end
abbrev Cx.wish(X:Cx)(E:Yd->Yl->Prop):Cx:={X with xe:=E}
abbrev Cx.nox(X:Cx):Cx:=X.wish λ_ _=>False
theorem Cx.Ok.wish(ok:X.Ok)(E:Yd->Yl->Prop):(X.wish E).Ok:=
 ⟨ok.mod,ok.kind,ok.glob,ok.blt,ok.above,ok.inj,ok.has,ok.cab,ok.hd,ok.frames,ok.stk,ok.exf,ok.bs,ok.bsz,ok.noex,ok.exfs,ok.funs,ok.frf⟩
theorem Cx.Ok.unwish(ok:(X.wish E).Ok):X.Ok:=
 ⟨ok.mod,ok.kind,ok.glob,ok.blt,ok.above,ok.inj,ok.has,ok.cab,ok.hd,ok.frames,ok.stk,ok.exf,ok.bs,ok.bsz,ok.noex,ok.exfs,ok.funs,ok.frf⟩
section
theorem aM.wish(I:aM X Za σ H s)(E:Yd->Yl->Prop):aM (X.wish E) Za σ H s:=⟨I.ok.wish E,I.os,I.bare,I.base,I.loc,I.cell,I.free,I.freeC,I.pin,I.hok,I.len⟩
theorem aM.unwish(I:aM (X.wish E) Za σ H s):aM X Za σ H s:=⟨I.ok.unwish,I.os,I.bare,I.base,I.loc,I.cell,I.free,I.freeC,I.pin,I.hok,I.len⟩
theorem SP.unwish{f:Flow}(h:SP (X.wish E) Za D f s'):SP X Za D f s':=by
 cases f with
 |next=>obtain⟨a,b,I,q⟩:=h;exact⟨a,b,I.unwish,q⟩
 |brk=>obtain⟨a,b,I,q⟩:=h;exact⟨a,b,I.unwish,q⟩
 |cont=>obtain⟨a,b,I,q⟩:=h;exact⟨a,b,I.unwish,q⟩
 |ret u=>obtain⟨v,a,b,I,r,q⟩:=h;exact⟨v,a,b,I.unwish,r,q⟩
theorem BA.nox{st:List YT}{t:TS}(h:BA X.nox st t):BA X st t:=λa s σ H D I hw=>
 wpAny_mono (h a s σ H D (I.wish _) hw) (λ_ _ q=>q.unwish) λ_ _ z=>Wu z
end
section
variable{st:YT}{Zd:List YT}{t u:TS}
def Gv:TS:=λD σ H=>D.nx σ H
def pH(t u:TS):TS:=λD σ H=>t {D with nx:=u D} σ H
theorem bD:BA X [] Gv:=λ_ _ σ H _ I h=>aaz ⟨σ,H,I,h⟩
theorem aj(h1:PS X st t)(h2:BA X Zd u):BA X (st::Zd) (pH t u):=by
 intro a s σ H D I h;refine adT (cz (h1 a s σ H {D with nx:=u D} I h) λf b q=>?_);cases f with
 |next=>
  obtain⟨c,d,e,q⟩:=q;exact h2 a b c d D e q
 |ret v=>exact q
 |brk=>exact q
 |cont=>exact q
theorem au(h1:PS X st t):BA X [st] t:=by
 intro a s σ H D I h;refine adT (cz (h1 a s σ H D I h) λf b q=>?_);cases f with
 |next=>exact aaz q
 |ret v=>exact q
 |brk=>exact q
 |cont=>exact q
def K5:TS:=λD σ H=>D.bk σ H
theorem Mg:PS X (.Break pos) K5:=λ_ _ σ H _ I h=>wpAny_Break ⟨σ,H,I,h⟩
theorem aM.quiet(I:aM X Za σ H s):interactive X.env=false:=by simp[interactive,I.ok.kind]
def Mh(a:TE):TS:=λD σ H=>a σ H λ_ b=>D.nx σ b
theorem dC(a:PE X e te)(hs:aa1 e Yb pos.line X.env=pure false:=by rfl):PS X (.Expr e pos) (Mh te):=by
 intro b s σ H D I h;exact wpAny_Expr_any (cz (a b s σ H _ I h) λv g ⟨x,c,d,i,f⟩=>⟨σ,c,d,f⟩) I.quiet hs
def RD(a:TE):TS:=λD σ H=>a σ H D.rt
theorem aL(a:PE X e te):PS X (.Return (Ya e) pos) (RD te):=by
 intro b s σ H D I h;exact wpAny_Return_some (cz (a b s σ H _ I h) λv i ⟨x,c,d,f,g⟩=>⟨x,σ,c,d,f,g⟩)
def Oe(c:TT)(t u:TS):TS:=λD σ H=>c σ H λb a=>if b=true then t D σ a else u D σ a
theorem dg{a b:List YT}(k:PT X c tc)(ha:BA X a t)(l:BA X b u):PS X (.If c a b pos) (Oe tc t u):=by
 intro e s σ H D I h;refine wpAny_If (cz (k e s σ H _ I h) λd f m=>?_);obtain⟨g,i,j⟩:=m;cases d with
 |true=>exact ha e f σ g D i j
 |false=>exact l e f σ g D i j
def Mw:TS:=λ_ _ _=>False
theorem Eo:PS X st Mw:=λ_ _ _ _ _ _ h=>h.elim
end
abbrev TG:=V->St->Hp->(St->Hp->Prop)->Prop
variable{g:TG}
abbrev M9:=List V->St->Hp->(St->Hp->Prop)->Prop
def PG(X:Cx)(a:Y2)(t:TG):Prop:=
 ∀(b:List (Ye×Y9)) (s:Yl) (σ:St) (H:Hp) (v:V) (u:Yd) (Q:St->Hp->Prop),aM X b σ H s->RelV v u->t v σ H Q->
  Yo (model X.prog X.w) X.A (assign a X.env u) (λ_ s'=>∃c d,aM X b c d s'/\Q c d) X.xe s
def Tr(X:Cx)(f:List Y2)(t:M9):Prop:=
 ∀(a:List (Ye×Y9)) (s:Yl) (σ:St) (H:Hp) (b:List V) (c:List Yd) (Q:St->Hp->Prop),aM X a σ H s->Vals b c->t b σ H Q->
  Yo (model X.prog X.w) X.A (assignInOrder ((assignEach f X.env).map (·.2)) c) (λ_ s'=>∃d e,aM X a d e s'/\Q d e) X.xe s
section
def yA(i:Nat):TG:=λv σ H Q=>Q (σ.set i (Ya v)) H
theorem aP(a:X.N.Nodup)(b:X.N[i]?=Ya x)(c:Uz X.env.scope x)(d:X.fn x=true∨X.env.scope.names.lookup x=Ya .local:=by first|exact .inl rfl|exact .inr rfl|assumption):PG X (.Name x pos) (yA i):=by
 intro f s σ H v u Q I r h;exact adD (CS I a b c r (λs' e=>⟨_,H,e,h⟩) d)
def SA:M9:=λa σ H Q=>a=[]/\Q σ H
def Hf(t:TG)(u:M9):M9:=λa σ H Q=>∃v r,a=v::r/\t v σ H λb c=>u r b c Q
theorem mK:Tr X [] SA:=by
 intro a s σ H b c Q I r h;obtain⟨e,h⟩:=h;subst e;cases r;exact assignInOrder_nil ⟨σ,H,I,h⟩
theorem c9{t:TG}{u:M9}(h1:PG X e t)(h2:Tr X es u)(hs:(assignEach (e::es) X.env).map (·.2)=assign e X.env::(assignEach es X.env).map (·.2):=by rfl):Tr X (e::es) (Hf t u):=by
 intro a s σ H k l Q I r h;obtain⟨v,m,b,h⟩:=h;subst b;cases r with
 |cons r rr=>
  rw[hs];refine assignInOrder_cons (cz (h1 a s σ H _ _ _ I r h) λ_ c d=>?_);obtain⟨f,g,i,j⟩:=d;exact h2 a c f g _ _ Q i rr j
def Oa(K:Yc)(n:Nat)(t:M9):TG:=λv σ H Q=>∃a b,v=.ref a/\bC K H a b/\b.length=n/\t b σ H Q
theorem Rw{t:M9}(g:X.calm=true)(h:Tr X es t)(hn:(assignEach es X.env).length=n:=by rfl)(c:(assignEach es X.env).findIdx? (·.1)=none:=by rfl):PG X (.Tuple es k pos) (Oa X.K n t):=by
 intro d s σ H v u Q I r hw;obtain⟨a,i,j,l,hl,hw⟩:=hw;subst j;cases r;obtain⟨m,f,p,y⟩:=I.tuple l;refine assign_Tuple_tuple (I.ok.hd g) p (by simp[hn,←hl,f.length]) c λq w=>?_;have x:aM X d σ H {s with heap:=q}:=I.kept (t':=s.toks) λb o e=>w b o (YE (Yu e)) e;exact h d _ σ H i _ Q x (by simpa using f) hw
def Ky(a:TE)(g:TG):TS:=λD σ H=>a σ H λx b=>g x σ b D.nx
theorem SG(b:PE X e te)(c:PG X tg g)(hs:swapsWithSole [tg] e pos.line X.env=pure false:=by rfl)(hw:swappedStores [tg] e X.env=pure none:=by rfl)(h1:(assignEach [tg] X.env).map (·.2)=[assign tg X.env]:=by rfl):PS X (.Assign [tg] e pos) (Ky te g):=by
 intro a s σ H D I h;refine wpAny_Assign_stores (cz (b a s σ H _ I h) λv d f=>?_) hs hw;obtain⟨x,i,j,k,l⟩:=f;rw[h1];exact cz (c a d σ i x v _ j k l) λ_ m q=>q
theorem aX(a:X.N.Nodup)(b:X.N[i]?=Ya x)(c:Uz X.env.scope x)(d:PE X e te)(hs:aa1 e (Ya (.Name x Zp)) pos.line X.env=pure false:=by rfl)(f:X.fn x=true∨X.env.scope.names.lookup x=Ya .local:=by first|exact .inl rfl|exact .inr rfl|assumption):
  PS X (.Assign [.Name x Zp] e pos) (Ky te (yA i)):=by
 intro g s σ H D I h;refine wpAny_Assign_Name (cz (d g s σ H _ I h) λv p j=>?_) hs;obtain⟨y,k,l,m,n⟩:=j;exact CS l a b c m (λq o=>⟨_,k,o,n⟩) f
end
section
def EF(c:TT)(tb:TS):TS:=λD σ H=>∃W:Nat->St->Hp->Prop,(∃m,W m σ H)/\∀m σ H,W m σ H->
 c σ H λb a=>if b=true then∃N:St->Hp->Prop,(∀d e,N d e->∃f,f<m/\W f d e)/\tb {D with nx:=N,ct:=N,bk:=D.nx} σ a else D.nx σ a
theorem yK(hp:PassesOwn (model X.prog X.w) X.A X.env X.xe)(w:PT X c tc)(x:BA X Zq tb):PS X (.While c Zq [] pos) (EF tc tb):=by
 intro j s σ H D I h;obtain⟨W,⟨y,z⟩,turn⟩:=h;refine wpAny_While (codeAny_whileLoop (λn s'=>∃o p,aM X j o p s'/\W n o p) ?_ y ⟨σ,H,I,z⟩);rintro n A ⟨e,q,B,C⟩;refine XF hp (cz (w j A e q _ B (turn n e q C)) λb E F=>?_);obtain⟨r,t,g⟩:=F;cases b with
 |true=>
  obtain⟨N,u,g⟩:=g;rw[if_pos rfl];refine XF hp (cz (x j E e r _ t g) λf G i=>?_);cases f with
  |next=>
   obtain⟨a,d,k,n3⟩:=i;obtain⟨l,hm,m⟩:=u a d n3;exact⟨l,hm,a,d,k,m⟩
  |cont=>
   obtain⟨a,d,k,n3⟩:=i;obtain⟨l,hm,m⟩:=u a d n3;exact⟨l,hm,a,d,k,m⟩
  |brk=>exact i
  |ret v=>exact i
 |false=>
  rw[if_neg YN];exact aaz ⟨e,r,t,g⟩
end
structure It where
 go:Nat->Hp->Prop
 yld:Nat->Hp->V->Hp->Prop
 stop:Nat->Hp->Prop
def tR(X:Cx)(a:List (Ye×Y9))(H:Hp)(b:Ye):Prop:=
 H b=Yb/\b≠X.env.locals/\b∉X.fs/\(b∈X.ex∨X.s₀.heap.objs.size<=b)/\(∀x c,X.env.cells.lookup x=Ya c->c≠b)/\∀p∈X.pn++a,p.1≠b
theorem aM.fpOk(I:aM X Za σ H s)(a:s.heap.objs.size<=b)(hn:H' b=Yb):tR X Za H' b:=by
 refine⟨hn,XA (YU I.lt a),I.nofs a,.inr (cb I.sz a),λx c e z=>?_,λp hp z=>?_⟩
 ·obtain⟨v,q⟩:=I.cell x c e;exact absurd (YU q.lt (by rw[z];exact a)) (Y7 _)
 ·exact absurd (YU (Yu (I.pin p hp).1) (by rw[z];exact a)) (Y7 _)
structure Turn(P:YO)(w:YW)(K:Yc)(tg:Y2)(J:It)(fp:List Ye)(it:Ye)(tn:Nat->YK->Prop):Prop where
 mem:it∈fp
 obj:∀i h,tn i h->∀b∈fp,∃o,h.get? b=Ya o/\∀v,o.data≠.cell v
 keep:∀i h h',tn i h->(∀b∈fp,∀o,h.get? b=Ya o->h'.get? b=Ya o)->tn i h'
 item:∀(X:Cx),X.prog=P->X.w=w->X.K=K->X.calm=true->∀(i:Nat) (Za:List (Ye×Y9)) (s:Yl) (σ:St) (H:Hp) (E:Yd->Yl->Prop),aM X Za σ H s->(∀b∈fp,tR X Za H b)->tn i s.heap->J.go i H->
  Yo (model P w) X.A (pyNext (.ref it)) (λr s1=>∃u,r=Ya u/\
   Yo (model P w) X.A (letOwnedTupleGo tg (.ref it) u) (λ_ s2=>∃x H',aM X Za σ H' s2/\RelV x u/\J.yld i H x H'/\tn (i+ 1) s2.heap/\∀b∈fp,H' b=Yb) E s1) E s
 done:∀(X:Cx),X.prog=P->X.w=w->X.K=K->X.calm=true->∀(i:Nat) (Za:List (Ye×Y9)) (s:Yl) (σ:St) (H:Hp) (E:Yd->Yl->Prop),aM X Za σ H s->(∀b∈fp,tR X Za H b)->tn i s.heap->J.stop i H->
  Yo (model P w) X.A (pyNext (.ref it)) (λr s1=>r=Yb/\aM X Za σ H s1) E s
 self:∀(A:nh) (i:Nat) (s:Yl) (Q:Yd->Yl->Prop) (E:Yd->Yl->Prop),tn i s.heap->Q (.ref it) s->Yo (model P w) A (pyIter (.ref it)) Q E s
abbrev TI:=St->Hp->(It->Hp->Prop)->Prop
def V7(X:Cx)(d:List (Ye×Y9))(σ:St)(i:Y2)(R:It->Hp->Prop)(a:Yd)(e:Yl):Prop:=
 ∃(f:Ye) (g:List Ye) (h:Nat->YK->Prop) (J:It) (c:Hp),a=.ref f/\aM X d σ c e/\Turn X.prog X.w X.K i J g f h/\h 0 e.heap/\(∀b∈g,tR X d c b)/\R J c
def PI(X:Cx)(b iter:Y2)(c:TI):Prop:=
 ∀(a:List (Ye×Y9)) (s:Yl) (σ:St) (H:Hp) (R:It->Hp->Prop),aM X a σ H s->c σ H R->
  Yo (model X.prog X.w) X.A (eval iter X.env) (λv d=>Yo (model X.prog X.w) X.A (pyIter v) (V7 X a σ b R) X.xe d) X.xe s
theorem Dh{o:Y9}{n:String}{vs:Array Yd}{Q:Unit->Yl->Prop}(ho:s.heap.get? it=Ya o)(b:o.cls=.type n)(hd:o.data=.fields vs)(hn:["enumerate","zip","dict_itemiterator","dict_reverseitemiterator","odict_iterator","itertools.zip_longest","itertools.pairwise"].contains n=false)(a:Q () s):Yo M A (letOwnedTupleGo tg (.ref it) u) Q E s:=by
 unfold letOwnedTupleGo;cases tg<;>first
  |exact wpAny_pure a
  |(cases u<;>first
    |exact wpAny_pure a
    |(refine wpAny_bind (wpAny_load ho ?_)
      rw[b,hd];show Yo M A (if(["enumerate","zip","dict_itemiterator","dict_reverseitemiterator","odict_iterator","itertools.zip_longest","itertools.pairwise"].contains n&&vs[0]?==Ya (rawInt _))=true then _ else _) Q E s;rw[if_neg (by intro h;rw[hn,XO]at h;cases h)];exact wpAny_pure a))
def Ko(K:Yc)(a:Ye):It:=
 ⟨λi H=>∃b x,bo K H a b/\b[i]?=Ya x,λi H x c=>c=H/\∀b,bo K H a b->b[i]?=Ya x,λi H=>∃b,bo K H a b/\b.length<=i⟩
def LK(K:Yc)(a:Ye):It:=
 ⟨λi H=>∃b x,bC K H a b/\b[i]?=Ya x,λi H x c=>c=H/\∀b,bC K H a b->b[i]?=Ya x,λi H=>∃b,bC K H a b/\b.length<=i⟩
def JG(lo:Int)(n:Nat):It:=⟨λi _=>i<n,λi H x a=>a=H/\x=.int (lo+ i),λi _=>n<=i⟩
theorem zX{K:Yc}(a it:Ye):Turn P w K tg (Ko K a) [it] it (λi h=>h.IsListIter it a i) where
 mem:=by simp
 obj:=λi h st b f=>by
  have e:b=it:=by simpa using f
  subst e;obtain⟨o,e,c,d⟩:=st;exact⟨o,e,λv z=>by rw[d]at z;cases z⟩
 keep:=λi h j st k=>st.at λo e=>k it (by simp) o e
 item:=by
  intro X n hw q J i L s σ H E I l st r;subst n hw q;obtain⟨M,x,m,t⟩:=r;obtain⟨y,A,p,N⟩:=I.list m;obtain⟨u,O,Q⟩:=A.get t;obtain⟨B,C,R,D,F,G⟩:=l it (by simp);refine wpAny_pyNext_list_item st p.isList (x:=u) (by simpa using O) λj g S=>?_;have T:aM X L σ H {s with heap:=j}:=I.turned (t':=s.toks) (λb o f e=>(S.2 b f).trans e) B C D F G;obtain⟨o,e,c,d⟩:=id g;exact⟨u,rfl,Dh (s:={s with heap:=j}) e c d (by decide) ⟨x,H,T,Q,⟨rfl,λW U=>by rw[I.list_inj U m];exact t⟩,g,λb f=>(l b f).1⟩⟩
 done:=by
  intro X n hw q J i L s σ H E I l st r;subst n hw q;obtain⟨M,m,t⟩:=r;obtain⟨y,A,p,N⟩:=I.list m;obtain⟨B,C,R,D,F,G⟩:=l it (by simp);have hl:=A.length;exact wpAny_pyNext_list_end (I.ok.hd J) st p.isList (by simp;omega) λj V=>⟨rfl,I.turned (t':=s.toks) (λb o f e=>V b o f e) B C D F G⟩
 self:=λ_ _ _ _ _ st h=>wpAny_pyIter_listiter st h
theorem yB{K:Yc}(a it:Ye):Turn P w K tg (LK K a) [it] it (λi h=>h.IsTupleIter it a i) where
 mem:=by simp
 obj:=λi h st b f=>by
  have e:b=it:=by simpa using f
  subst e;obtain⟨o,e,c,d⟩:=st;exact⟨o,e,λv z=>by rw[d]at z;cases z⟩
 keep:=λi h l st k=>st.at λo e=>k it (by simp) o e
 item:=by
  intro X q hw r J i L s σ H E I m st t;subst q hw r;obtain⟨M,x,n,y⟩:=t;obtain⟨g,A,p,N⟩:=I.tuple n;obtain⟨u,O,Q⟩:=A.get y;obtain⟨B,C,R,D,F,G⟩:=m it (by simp);refine wpAny_pyNext_tuple_item st (show s.heap.IsTuple a g.toArray from p) (x:=u) (by simpa using O) λl j S=>?_;have T:aM X L σ H {s with heap:=l}:=I.turned (t':=s.toks) (λb o f e=>(S.2 b f).trans e) B C D F G;obtain⟨o,e,c,d⟩:=id j;exact⟨u,rfl,Dh (s:={s with heap:=l}) e c d (by decide) ⟨x,H,T,Q,⟨rfl,λW U=>by rw[I.tuple_inj U n];exact y⟩,j,λb f=>(m b f).1⟩⟩
 done:=by
  intro X q hw r J i L s σ H E I m st t;subst q hw r;obtain⟨M,n,y⟩:=t;obtain⟨g,A,p,N⟩:=I.tuple n;obtain⟨B,C,R,D,F,G⟩:=m it (by simp);have hl:=A.length;exact wpAny_pyNext_tuple_end (I.ok.hd J) st (show s.heap.IsTuple a g.toArray from p) (by simp;omega) λl V=>⟨rfl,I.turned (t':=s.toks) (λb o f e=>V b o f e) B C D F G⟩
 self:=λ_ _ _ _ _ st h=>wpAny_pyIter_tupleiter st h
theorem FN{K:Yc}(it:Ye)(lo:Int)(n:Nat):Turn P w K tg (JG lo n) [it] it (λi h=>IsRangeIter h it (lo+ (i:Nat)*1) ((n:Int)-(i:Nat)) 1) where
 mem:=by simp
 obj:=λi h st b a=>by
  have e:b=it:=by simpa using a
  subst e;exact⟨_,st,λv z=>by
   have A:Data.fields _=Data.cell v:=z;cases A⟩
 keep:=λi h d st k=>k it (by simp) _ st
 item:=by
  intro X g hw j l i y s σ H E I f st m;subst g hw j;obtain⟨p,q,B,r,u,x⟩:=f it (by simp);have W:=Walks.range (prog:=X.prog) (w:=X.w) (I.ok.hd l) it lo 1 n;refine W.item i s _ _ m st λv d tk C c D=>?_;obtain⟨t,rfl⟩:=C;have F:aM X y σ H {s with heap:=d,toks:=tk}:=I.turned (λb o a e=>D b o (by simpa using a) e) p q r u x;refine⟨_,rfl,Dh (s:={s with heap:=d,toks:=tk}) (n:="range_iterator") c rfl rfl (by decide) ⟨.int (lo+ i),H,F,⟨t,?_⟩,⟨rfl,rfl⟩,c,λb a=>(f b a).1⟩⟩;rw[Int.mul_one]
 done:=by
  intro X g hw j l i y s σ H E I f st m;subst g hw j;obtain⟨p,q,B,r,u,x⟩:=f it (by simp);exact wpAny_pyNext_range_end (I.ok.hd l) st (by have:n<=i:=m;omega) λd G=>⟨rfl,I.turned (t':=s.toks) (λb o a e=>G b o a e) p q r u x⟩
 self:=λ_ _ _ _ _ st h=>wpAny_pyIter_rangeiter st h
section
def MP(K:Yc)(tl:TE):TI:=λσ H R=>tl σ H λx b=>∃a,x=.ref a/\(∃c,bo K b a c)/\R (Ko K a) b
def Ra(K:Yc)(tl:TE):TI:=λσ H R=>tl σ H λx b=>∃a,x=.ref a/\(∃c,bC K b a c)/\R (LK K a) b
theorem O7(hl:PE X l tl):PI X tg l (MP X.K tl):=by
 intro f s σ H R I h;refine cz (hl f s σ H _ I h) λv c g=>?_;obtain⟨x,i,d,j,k⟩:=g;obtain⟨a,e,⟨t,m⟩,q⟩:=k;subst e;cases j;obtain⟨n,u,p,w⟩:=d.list m;refine wpAny_pyIter_list p.isList ?_;refine⟨c.heap.objs.size,[c.heap.objs.size],_,_,i,rfl,d.kept (t':=c.toks) λb o e=>Yg _ e,zX a _,⟨_,Yr _ rfl,rfl,rfl⟩,λb r=>?_,q⟩;have e:b=c.heap.objs.size:=by simpa using r
 subst e;exact d.fpOk (Yj _) (d.hok.fresh (Yj _))
theorem QT(hl:PE X l tl):PI X tg l (Ra X.K tl):=by
 intro g s σ H R I h;refine cz (hl g s σ H _ I h) λv c i=>?_;obtain⟨x,j,d,k,m⟩:=i;obtain⟨a,e,⟨t,n⟩,q⟩:=m;subst e;cases k;obtain⟨f,u,p,w⟩:=d.tuple n;refine adk (show c.heap.IsTuple a f.toArray from p) ?_;refine⟨c.heap.objs.size,[c.heap.objs.size],_,_,j,rfl,d.kept (t':=c.toks) λb o e=>Yg _ e,yB a _,⟨_,Yr _ rfl,rfl,rfl⟩,λb r=>?_,q⟩;have e:b=c.heap.objs.size:=by simpa using r
 subst e;exact d.fpOk (Yj _) (d.hok.fresh (Yj _))
theorem El{R:It->Hp->Prop}{lo a:Int}{t u v:aay}{tk:Nat}(I:aM X Za σ H s)(h1:-(2^62)<=lo)(h2:lo<2^62)(h3:-(2^62)<=a)(h4:a<2^62)(q:R (JG lo (a-lo).toNat) H):Yo (model X.prog X.w) X.A (pyIter (.ref s.heap.objs.size)) (V7 X Za σ tg R) E {s with heap:=s.heap.push {cls:=.type "range",data:=.fields #[.int lo t,.int a u,.int 1 v]},toks:=tk}:=by
 refine wpAny_pyIter_range (IsRange.new ..) (small_one h1 h2 h3 h4) ?_;have c:aM X Za σ H {s with heap:=s.heap.push {cls:=.type "range",data:=.fields #[.int lo t,.int a u,.int 1 v]},toks:=tk}:=I.kept λb o e=>Yg _ e;refine⟨(s.heap.push {cls:=.type "range",data:=.fields #[.int lo t,.int a u,.int 1 v]}).objs.size,[(s.heap.push {cls:=.type "range",data:=.fields #[.int lo t,.int a u,.int 1 v]}).objs.size],_,_,H,rfl,
  c.kept (t':=tk) λb o e=>Yg _ e,FN _ lo (a-lo).toNat,?_,λb d=>?_,q⟩
 ·have f:lo+ ((0:Nat):Int)*1=lo:=by simp
  have g:(((a-lo).toNat:Nat):Int)-((0:Nat):Int)=Builtin.Range.rangeSize lo a 1:=by rw[rangeSize_one];split<;>omega
  show IsRangeIter _ _ (lo+ ((0:Nat):Int)*1) ((((a-lo).toNat:Nat):Int)-((0:Nat):Int)) 1;rw[f,g];exact Yr _ rfl
 ·have e:b=(s.heap.push {cls:=.type "range",data:=.fields #[.int lo t,.int a u,.int 1 v]}).objs.size:=by simpa using d
  subst e;exact c.fpOk (Yj _) (c.hok.fresh (Yj _))
def Qd(ta:TA):TI:=λσ H R=>ta σ H λa b=>∃j:Int,a=[.int j]/\-(2^62)<=j/\j<2^62/\R (JG 0 j.toNat) b
def PD(ta:TA):TI:=λσ H R=>ta σ H λa b=>∃i j:Int,a=[.int i,.int j]/\(-(2^62)<=i/\i<2^62/\-(2^62)<=j/\j<2^62)/\R (JG i (j-i).toNat) b
theorem qg{a:Y2}{ta:TA}(c:Gl X "range")(hm:X.mg "range"=Yb)(ha:PA X [a] ta)(hs:starEach [a] X.env=[(false,eval a X.env)]:=by rfl):PI X tg (.Call (.Name "range" p) [a] [] pos) (Qd ta):=by
 intro d s σ H R I h;refine Call_ (pR I c hm boot_range (aan (cz (ha pos d s σ H _ I h) λl m f=>?_) hs rfl));obtain⟨n,o,g,i,b⟩:=f;obtain⟨j,e,b,k,q⟩:=b;subst e;cases i with
 |cons r rr=>
  cases rr;obtain⟨t,rfl⟩:=r;exact call_range_1 (El g (by omega) (by omega) b k (by simpa using q))
theorem Hv{a b:Y2}{ta:TA}(f:Gl X "range")(hm:X.mg "range"=Yb)(ha:PA X [a,b] ta)(hs:starEach [a,b] X.env=[(false,eval a X.env),(false,eval b X.env)]:=by rfl)(c:starEach [b] X.env=[(false,eval b X.env)]:=by rfl):
  PI X tg (.Call (.Name "range" p) [a,b] [] pos) (PD ta):=by
 intro g s σ H R I h;refine Call_ (pR I f hm boot_range (aan (cz (ha pos g s σ H _ I h) λu v ⟨w,x,k,l,d⟩=>?_) (by rw[hs,c]) (by rw[c];rfl)));obtain⟨i,j,e,⟨d,m,n,o⟩,q⟩:=d;subst e;cases l with
 |cons r rr=>
  cases rr with
  |cons r' rr=>
   cases rr;obtain⟨t,rfl⟩:=r;obtain⟨y,rfl⟩:=r';exact call_range_2 (El k d m n o q)
def NW(d:TI)(g:TG)(tb:TS):TS:=λD σ H=>d σ H λJ e=>∃W:Nat->Nat->St->Hp->Prop,(∃m,W 0 m σ e)/\∀i m σ H,W i m σ H->
 (J.stop i H/\D.nx σ H)∨(J.go i H/\∃N:St->Hp->Prop,(∀b a,N b a->∃c,c<m/\W (i+ 1) c b a)/\∀x a,J.yld i H x a->g x σ a λf h=>tb {D with nx:=N,ct:=N,bk:=D.nx} f h)
def uq(fp:List Ye)(h:YK):List (Ye×Y9):=fp.filterMap λb=>(h.get? b).map λo=>(b,o)
theorem hG{o:Y9}(a:b∈fp)(e:h.get? b=Ya o):(b,o)∈uq fp h:=aaC.mpr ⟨b,a,by rw[e];rfl⟩
theorem Iv{p:Ye×Y9}(hp:p∈uq fp h):p.1∈fp/\h.get? p.1=Ya p.2:=by
 obtain⟨b,a,e⟩:=aaC.mp hp;cases q:h.get? b with
 |none=>rw[q]at e;cases e
 |some o=>
  rw[q]at e;have c:(b,o)=p:=YC e;subst c;exact⟨a,q⟩
theorem aM.pinned(I:aM X Za σ H s)(f:∀b∈fp,tR X Za H b)(ho:∀b∈fp,∃o,s.heap.get? b=Ya o/\∀v,o.data≠.cell v):aM X (Za++uq fp s.heap) σ H s:=
 I.pins_of λp hp=>(YG.mp hp).elim (λz=>I.pin p (YF _ z)) λz=>by
  obtain⟨a,e⟩:=Iv z;obtain⟨g,h,i,_⟩:=f p.1 a;obtain⟨o,c,d⟩:=ho p.1 a;rw[e]at c;cases c;exact⟨e,g,h,i,d⟩
theorem aM.unpinned{pl:List (Ye×Y9)}(I:aM X (Za++pl) σ H s):aM X Za σ H s:=I.pins_of λp hp=>I.pin p (YF _ (Y1 _ hp))
theorem kC{iter:Y2}{P:TI}(hp:PassesOwn (model X.prog X.w) X.A X.env X.xe)(Q:X.calm=true)(hi:PI X tg iter P)(hg:PG X tg g)(a:BA X Zq tb)(hs:∀x,foldedSetIterable iter X.env x=pure x:=by intro _;rfl):PS X (.For tg iter Zq [] pos) (NW P g tb):=by
 intro t s σ H D I h;refine wpAny_For (cz (hi t s σ H _ I h) λv s1 h1=>cz h1 λab s2 h2=>?_) hs;obtain⟨it,z,R,J,H2,e,I2,T,G,S,W,⟨m0,w0⟩,turn⟩:=h2;subst e
 -- what stays true of the iterator's objects through the loop
 have c:∀{p:Hp},(∀b∈z,p b=Yb)->∀b∈z,tR X t p b:=λhn b a=>⟨hn b a,(S b a).2⟩;refine codeAny_forLoop_any (λn s'=>∃i A p,aM X t A p s'/\R i s'.heap/\(∀b∈z,p b=Yb)/\W i n A p) ?_ m0 ⟨0,σ,H2,I2,G,λb a=>(S b a).1,w0⟩;rintro n U ⟨i,B,F,V,C,E,w3⟩;rcases turn i n B F w3 with⟨stop,qn⟩|⟨go,N,hN,step⟩
 ·refine XF hp (cz (T.done X rfl rfl rfl Q i t U B F X.xe V (c E) C stop) λr s4 w=>?_);obtain⟨K,I4⟩:=w;subst K;exact aaz ⟨B,F,I4,qn⟩
 ·refine XF hp (cz (T.item X rfl rfl rfl Q i t U B F X.xe V (c E) C go) λr s4 w=>?_);obtain⟨u,K,h4⟩:=w;subst K;refine XF hp (cz h4 λ_ Y w=>?_);obtain⟨x,Z,I5,r5,y5,y,L⟩:=w;have M:=I5.pinned (c L) (T.obj _ _ y);refine XF hp (cz (hg _ Y B Z x u _ M r5 (step x Z y5)) λ_ s6 w=>?_);obtain⟨σ6,H6,I6,q6⟩:=w;refine XF hp (cz (a _ s6 σ6 H6 _ I6 q6) λf O q=>?_);have again:∀{j:St} {k:Hp},aM X (t++uq z Y.heap) j k O->N j k->∃m,m<n/\∃i A p,aM X t A p O/\R i O.heap/\(∀b∈z,p b=Yb)/\W i m A p:=fun{j k} l n7=>by
   obtain⟨m',hm,w7⟩:=hN j k n7;refine⟨m',hm,i+ 1,j,k,l.unpinned,T.keep _ _ _ y λb a o e=>(l.pin (b,o) (YF _ (YF _ (hG a e)))).1,λb a=>?_,w7⟩;obtain⟨o,e,d⟩:=T.obj _ _ y b a;exact(l.pin (b,o) (YF _ (YF _ (hG a e)))).2.1
  cases f with
  |next=>obtain⟨j,k,l,n7⟩:=q;exact again l n7
  |cont=>obtain⟨j,k,l,n7⟩:=q;exact again l n7
  |brk=>obtain⟨j,k,l,q⟩:=q;exact⟨j,k,l.unpinned,q⟩
  |ret v=>obtain⟨x7,j,k,l,r7,q⟩:=q;exact⟨x7,j,k,l.unpinned,r7,q⟩
end
theorem lu{K:Yc}{xs:List V}(b:Nat->St->Hp->Prop)(h0:b 0 σ H)(hl:∀i σ H,i<=xs.length->b i σ H->bo K H a xs)(hs:∀i x σ H,xs[i]?=Ya x->b i σ H->g x σ H λd f=>tb {D with nx:=b (i+ 1),ct:=b (i+ 1),bk:=D.nx} d f)(hd:∀σ H,b xs.length σ H->D.nx σ H):
  ∃W:Nat->Nat->St->Hp->Prop,(∃m,W 0 m σ H)/\∀i m σ H,W i m σ H->
   ((Ko K a).stop i H/\D.nx σ H)∨((Ko K a).go i H/\∃N:St->Hp->Prop,(∀h H',N h H'->∃j,j<m/\W (i+ 1) j h H')/\∀x H',(Ko K a).yld i H x H'->g x σ H' λd f=>tb {D with nx:=N,ct:=N,bk:=D.nx} d f):=by
 refine⟨λi m σ H=>m=xs.length-i/\i<=xs.length/\b i σ H,⟨xs.length,by simp,Y6 _,h0⟩,?_⟩;rintro i m σ H ⟨rfl,k,p⟩;have q:=hl i σ H k p;by_cases c:i<xs.length
 ·refine .inr ⟨⟨xs,xs[i],q,by simp[c]⟩,b (i+ 1),λh H' l=>⟨xs.length-(i+ 1),by omega,rfl,c,l⟩,λx H' y=>?_⟩;obtain⟨e,y⟩:=y;subst e;exact hs i x σ _ (y xs q) p
 ·have e:i=xs.length:=by omega
  subst e;exact .inl ⟨⟨xs,q,Yj _⟩,hd σ H p⟩
theorem Bq{K:Yc}{xs:List V}(b:Nat->St->Hp->Prop)(h0:b 0 σ H)(hl:∀i σ H,i<=xs.length->b i σ H->bC K H a xs)(hs:∀i x σ H,xs[i]?=Ya x->b i σ H->g x σ H λd f=>tb {D with nx:=b (i+ 1),ct:=b (i+ 1),bk:=D.nx} d f)(hd:∀σ H,b xs.length σ H->D.nx σ H):
  ∃W:Nat->Nat->St->Hp->Prop,(∃m,W 0 m σ H)/\∀i m σ H,W i m σ H->
   ((LK K a).stop i H/\D.nx σ H)∨((LK K a).go i H/\∃N:St->Hp->Prop,(∀h H',N h H'->∃j,j<m/\W (i+ 1) j h H')/\∀x H',(LK K a).yld i H x H'->g x σ H' λd f=>tb {D with nx:=N,ct:=N,bk:=D.nx} d f):=by
 refine⟨λi m σ H=>m=xs.length-i/\i<=xs.length/\b i σ H,⟨xs.length,by simp,Y6 _,h0⟩,?_⟩;rintro i m σ H ⟨rfl,k,p⟩;have q:=hl i σ H k p;by_cases c:i<xs.length
 ·refine .inr ⟨⟨xs,xs[i],q,by simp[c]⟩,b (i+ 1),λh H' l=>⟨xs.length-(i+ 1),by omega,rfl,c,l⟩,λx H' y=>?_⟩;obtain⟨e,y⟩:=y;subst e;exact hs i x σ _ (y xs q) p
 ·have e:i=xs.length:=by omega
  subst e;exact .inl ⟨⟨xs,q,Yj _⟩,hd σ H p⟩
theorem zo{lo:Int}(a:Nat->St->Hp->Prop)(h0:a 0 σ H)(hs:∀i σ H,i<n->a i σ H->g (.int (lo+ i)) σ H λc d=>tb {D with nx:=a (i+ 1),ct:=a (i+ 1),bk:=D.nx} c d)(hd:∀σ H,a n σ H->D.nx σ H):
  ∃W:Nat->Nat->St->Hp->Prop,(∃m,W 0 m σ H)/\∀i m σ H,W i m σ H->
   ((JG lo n).stop i H/\D.nx σ H)∨((JG lo n).go i H/\∃N:St->Hp->Prop,(∀f H',N f H'->∃h,h<m/\W (i+ 1) h f H')/\∀x H',(JG lo n).yld i H x H'->g x σ H' λc d=>tb {D with nx:=N,ct:=N,bk:=D.nx} c d):=by
 refine⟨λi m σ H=>m=n-i/\i<=n/\a i σ H,⟨n,by simp,Y6 _,h0⟩,?_⟩;rintro i m σ H ⟨rfl,k,p⟩;by_cases b:i<n
 ·refine .inr ⟨b,a (i+ 1),λf H' j=>⟨n-(i+ 1),by omega,rfl,b,j⟩,λx H' y=>?_⟩;obtain⟨e,y⟩:=y;subst e y;exact hs i σ _ b p
 ·have e:i=n:=by omega
  subst e;exact .inl ⟨Yj _,hd σ H p⟩
abbrev R2:=V->V->Hp->VK->Prop
variable{r:R2}
def rA(X:Cx)(f:Yd->Yd->abL Yd)(r:R2):Prop:=
 ∀(a:List (Ye×Y9)) (s:Yl) (σ:St) (H:Hp) (x y:V) (v u:Yd) (Q:VK),aM X a σ H s->RelV x v->RelV y u->r x y H Q->
  Yo (model X.prog X.w) X.A (f v u) (EP X a σ Q) X.xe s
def dh(X:Cx)(f:Yd)(r:List V->Hp->VK->Prop):Prop:=
 ∀(a:List (Ye×Y9)) (s:Yl) (σ:St) (H:Hp) (b:List V) (c:List Yd) (Q:VK),aM X a σ H s->Vals b c->r b H Q->
  Yo (model X.prog X.w) X.A (call f c) (EP X a σ Q) X.xe s
def VS(X:Cx)(r:V->Hp->(Bool->Hp->Prop)->Prop):Prop:=
 ∀(a:List (Ye×Y9)) (s:Yl) (σ:St) (H:Hp) (x:V) (v:Yd) (Q:Bool->Hp->Prop),aM X a σ H s->RelV x v->r x H Q->
  Yo (model X.prog X.w) X.A (truthy v) (TP X a σ Q) X.xe s
def SV(r:R2)(ta tb:TE):TE:=λσ H Q=>ta σ H λx a=>tb σ a λy b=>r x y b Q
def rI(C:Int->Int->Prop)(g:Int->Int->V):R2:=λx y H Q=>∃i j,x=.int i/\y=.int j/\C i j/\Q (g i j) H
def La(g:Int->Int->V):R2:=λx y H Q=>∃i j,x=.int i/\y=.int j/\Q (g i j) H
section
variable{a b:Y2}{tb tc:TE}
theorem R3(ha:PE X a ta)(i:PE X b tb)(I:aM X Za σ H s)(h:ta σ H λx e=>tb σ e λy c=>R x y c)(j:∀v u d x y c,aM X Za σ c d->RelV x v->RelV y u->R x y c->Yo (model X.prog X.w) X.A (f v u) Q X.xe d):
  Yo (model X.prog X.w) X.A (eval a X.env) (λv k=>Yo (model X.prog X.w) X.A (eval b X.env) (λu l=>Yo (model X.prog X.w) X.A (f v u) Q X.xe l) X.xe k) X.xe s:=by
 refine cz (ha Za s σ H _ I h) λv m g=>?_;obtain⟨x,e,n,o,p⟩:=g;refine cz (i Za m σ e _ n p) λu d g=>?_;obtain⟨y,c,q,r,t⟩:=g;exact j v u d x y c q o r t
theorem aW{op:Operator}(ho:rA X (binaryOp op) r)(ha:PE X a ta)(c:PE X b tb):PE X (.BinOp a op b pos) (SV r ta tb):=by
 intro d s σ H Q I h;exact wpAny_BinOp (R3 ha c I h λv u e x y f g i j q=>ho d e σ f x y v u Q g i j q)
theorem TL{C:Int->Int->Prop}{g:Int->Int->Int}(rule:∀(i j:Int) (t u:aay) (s:Yl) (Q:Yd->Yl->Prop) (E:Yd->Yl->Prop),C i j->Q (.int (g i j) s.toks) {s with toks:=s.toks+ 1}->Yo (model X.prog X.w) X.A (f (.int i t) (.int j u)) Q E s):
  rA X f (rI C λi j=>.int (g i j)):=by
 intro e s σ H x y v u Q I a b h;obtain⟨i,j,rfl,rfl,c,q⟩:=h;obtain⟨t,rfl⟩:=a;obtain⟨d,rfl⟩:=b;exact rule i j t d s _ _ c ⟨.int (g i j),H,I.tok _,⟨_,rfl⟩,q⟩
theorem Sh{g:Int->Int->Int}(rule:∀(i j:Int) (t u:aay) (s:Yl) (Q:Yd->Yl->Prop) (E:Yd->Yl->Prop),Q (.int (g i j) s.toks) {s with toks:=s.toks+ 1}->Yo (model X.prog X.w) X.A (f (.int i t) (.int j u)) Q E s):
  rA X f (La λi j=>.int (g i j)):=by
 intro d s σ H x y v u Q I a b h;obtain⟨i,j,rfl,rfl,q⟩:=h;obtain⟨t,rfl⟩:=a;obtain⟨c,rfl⟩:=b;exact rule i j t c s _ _ ⟨.int (g i j),H,I.tok _,⟨_,rfl⟩,q⟩
theorem Pm{g:Int->Int->Bool}(rule:∀(i j:Int) (t u:aay) (s:Yl) (Q:Yd->Yl->Prop) (E:Yd->Yl->Prop),Q (.bool (g i j)) s->Yo (model X.prog X.w) X.A (f (.int i t) (.int j u)) Q E s):
  rA X f (La λi j=>.bl (g i j)):=by
 intro d s σ H x y v u Q I a b h;obtain⟨i,j,rfl,rfl,q⟩:=h;obtain⟨t,rfl⟩:=a;obtain⟨c,rfl⟩:=b;exact rule i j t c s _ _ ⟨.bl (g i j),H,I,rfl,q⟩
def VW(i j:Int):Prop:=0<j/\j<1073741824
def MA(i j:Int):Prop:=0<=j/\j<=1000000/\i.natAbs<2^64
def Ba(i j:Int):Prop:=(-(2^64)<i/\i<2^64)∨(-(2^64)<j/\j<2^64)
theorem Ba.ok{i j:Int}(h:Ba i j):IntMulOk i j:=by
 rcases h with⟨h1,h2⟩|⟨h1,h2⟩
 ·exact .of_left (intBits_le_64 h1 h2)
 ·exact .of_right (intBits_le_64 h1 h2)
theorem Fs(k:Nat):(0:Int)<=2^k:=by
 rw[two_pow_cast];exact adl _
theorem d0:rA X (binaryOp .Add) (La λi j=>.int (i+ j)):=Sh λ_ _ _ _ _ _ _ q=>add_int q
theorem xT:rA X (binaryOp .Sub) (La λi j=>.int (i-j)):=Sh λ_ _ _ _ _ _ _ q=>sub_int q
theorem uM:rA X (binaryOp .Mult) (rI Ba λi j=>.int (i*j)):=TL λ_ _ _ _ _ _ _ a q=>mul_int q a.ok
theorem f9:rA X (binaryOp .FloorDiv) (rI VW λi j=>.int (i / j)):=TL λi j _ _ _ _ _ a q=>by
 have h1:(0:Int)<j:=a.1;have h2:j<1073741824:=a.2;exact floordiv_int (by omega) (by rw[Int.fdiv_eq_ediv_of_nonneg i (by omega)];exact q) (.inl (PyProof.noPylong_small (by omega)))
theorem c7:rA X (binaryOp .Mod) (rI (λ_ j=>0<j) λi j=>.int (i%j)):=TL λi j _ _ _ _ _ a q=>by
 have h1:(0:Int)<j:=a;exact mod_int' (by omega) (by rw[Int.fmod_eq_emod_of_nonneg i (by omega)];exact q)
theorem Bg:rA X (binaryOp .Pow) (rI MA λi j=>.int (i^j.toNat)):=TL λ_ _ _ _ _ _ _ a q=>pow_int_small a.1 a.2.1 a.2.2 q
theorem LW:rA X (binaryOp .LShift) (rI MA λi j=>.int (i*2^j.toNat)):=TL λ_ _ _ _ _ _ _ a q=>lshift_int_small a.1 a.2.1 a.2.2 q
theorem SM:rA X (binaryOp .BitAnd) (La λi j=>.int (Builtin.bitAnd i j)):=Sh λ_ _ _ _ _ _ _ q=>and_int q
end
def U4:V->V->Bool
 | .non,.non=>true| .non,.int _=>true| .int _,.non=>true| .non,.bl _=>true| .bl _,.non=>true| .non,.str _=>true| .str _,.non=>true
 | .int _,.int _=>true| .bl _,.bl _=>true| .str _,.str _=>true| .byt _,.byt _=>true
 | .int _,.str _=>true| .str _,.int _=>true| .bl _,.str _=>true| .str _,.bl _=>true
 |_,_=>false
def V1:R2:=λx y H Q=>U4 x y=true/\Q (.bl (decide (x=y))) H
def VY:R2:=λx y H Q=>U4 x y=true/\Q (.bl (!decide (x=y))) H
theorem Hu{i j:Int}:decide (V.int i=V.int j)=(i==j):=by
 rw[XG];simp
theorem Kl{i j:Bool}:decide (V.bl i=V.bl j)=(i==j):=by
 rw[XG];simp
theorem GY{i j:Yn}:decide (V.str i=V.str j)=(i==j):=by
 rw[XG];simp
theorem Gd{i j:Array UInt8}:decide (V.byt i=V.byt j)=(i.toList==j.toList):=by
 rw[XG];cases i;cases j;simp
section
variable{a b:Y2}{tb tc:TE}
theorem bS{Q:VK}{k a:Bool}(I:aM X Za σ H s)(q:Q (.bl k) H)(e:k=a):EP X Za σ Q (.bool a) s:=by
 subst e;exact⟨.bl k,H,I,rfl,q⟩
theorem oP:rA X (compareOp .Eq) V1:=by
 intro d s σ H x y v u Q I c a h;obtain⟨hs,q⟩:=h;cases x with
 |non=>
  cases c;cases y with
  |non=>cases a;exact PySem.EqNone.eq_none_none (bS I q (by simp))
  |bl j=>cases a;exact PySem.EqNone.eq_none_bool (bS I q (by simp))
  |int j=>obtain⟨b,rfl⟩:=a;exact PySem.EqNone.eq_none_int (bS I q (by simp))
  |str j=>obtain⟨b,rfl⟩:=a;exact PySem.EqNone.eq_none_str (bS I q (by simp))
  |_=>exact absurd (show false=true from hs) YN
 |bl i=>
  cases c;cases y with
  |non=>cases a;exact PySem.EqNone.eq_bool_none (bS I q (by simp))
  |bl j=>cases a;exact eq_bool (bS I q Kl)
  |str j=>obtain⟨b,rfl⟩:=a;exact PySem.EqMixed.eq_bool_str (bS I q (by simp))
  |_=>exact absurd (show false=true from hs) YN
 |int i=>
  obtain⟨t,rfl⟩:=c;cases y with
  |non=>cases a;exact PySem.EqNone.eq_int_none (bS I q (by simp))
  |int j=>obtain⟨b,rfl⟩:=a;exact eq_int (bS I q Hu)
  |str j=>obtain⟨b,rfl⟩:=a;exact PySem.EqMixed.eq_int_str (bS I q (by simp))
  |_=>exact absurd (show false=true from hs) YN
 |str i=>
  obtain⟨t,rfl⟩:=c;cases y with
  |non=>cases a;exact PySem.EqNone.eq_str_none (bS I q (by simp))
  |bl j=>cases a;exact PySem.EqMixed.eq_str_bool (bS I q (by simp))
  |int j=>obtain⟨b,rfl⟩:=a;exact PySem.EqMixed.eq_str_int (bS I q (by simp))
  |str j=>obtain⟨b,rfl⟩:=a;exact eq_str (bS I q GY)
  |_=>exact absurd (show false=true from hs) YN
 |byt i=>
  obtain⟨t,rfl⟩:=c;cases y with
  |byt j=>obtain⟨b,rfl⟩:=a;exact PySem.W.eq_bytes (bS I q Gd)
  |_=>exact absurd (show false=true from hs) YN
 |_=>cases y<;>exact absurd (show false=true from hs) YN
theorem ya:rA X (compareOp .NotEq) VY:=by
 intro d s σ H x y v u Q I c a h;obtain⟨hs,q⟩:=h;cases x with
 |non=>
  cases c;cases y with
  |non=>cases a;exact PySem.EqNone.ne_none_none (bS I q (by simp))
  |bl j=>cases a;exact PySem.EqNone.ne_none_bool (bS I q (by simp))
  |int j=>obtain⟨b,rfl⟩:=a;exact PySem.EqNone.ne_none_int (bS I q (by simp))
  |str j=>obtain⟨b,rfl⟩:=a;exact PySem.EqNone.ne_none_str (bS I q (by simp))
  |_=>exact absurd (show false=true from hs) YN
 |bl i=>
  cases c;cases y with
  |non=>cases a;exact PySem.EqNone.ne_bool_none (bS I q (by simp))
  |bl j=>cases a;exact ne_bool (bS I q (congrArg not Kl))
  |str j=>obtain⟨b,rfl⟩:=a;exact PySem.EqMixed.ne_bool_str (bS I q (by simp))
  |_=>exact absurd (show false=true from hs) YN
 |int i=>
  obtain⟨t,rfl⟩:=c;cases y with
  |non=>cases a;exact PySem.EqNone.ne_int_none (bS I q (by simp))
  |int j=>obtain⟨b,rfl⟩:=a;exact ne_int (bS I q (congrArg not Hu))
  |str j=>obtain⟨b,rfl⟩:=a;exact PySem.EqMixed.ne_int_str (bS I q (by simp))
  |_=>exact absurd (show false=true from hs) YN
 |str i=>
  obtain⟨t,rfl⟩:=c;cases y with
  |non=>cases a;exact PySem.EqNone.ne_str_none (bS I q (by simp))
  |bl j=>cases a;exact PySem.EqMixed.ne_str_bool (bS I q (by simp))
  |int j=>obtain⟨b,rfl⟩:=a;exact PySem.EqMixed.ne_str_int (bS I q (by simp))
  |str j=>obtain⟨b,rfl⟩:=a;exact ne_str (bS I q (congrArg not GY))
  |_=>exact absurd (show false=true from hs) YN
 |byt i=>
  obtain⟨t,rfl⟩:=c;cases y with
  |byt j=>obtain⟨b,rfl⟩:=a;exact PySem.W.ne_bytes (bS I q (congrArg not Gd))
  |_=>exact absurd (show false=true from hs) YN
 |_=>cases y<;>exact absurd (show false=true from hs) YN
theorem yl:rA X (compareOp .Lt) (La λi j=>.bl (decide (i<j))):=Pm λ_ _ _ _ _ _ _ q=>lt_int q
theorem Uv:rA X (compareOp .LtE) (La λi j=>.bl (decide (i<=j))):=Pm λ_ _ _ _ _ _ _ q=>le_int q
theorem L0:rA X (compareOp .Gt) (La λi j=>.bl (decide (j<i))):=Pm λ_ _ _ _ _ _ _ q=>gt_int q
theorem DP:rA X (compareOp .GtE) (La λi j=>.bl (decide (j<=i))):=Pm λ_ _ _ _ _ _ _ q=>ge_int q
theorem wB:rA X (compareOp .IsNot) (λx y H Q=>y=.non/\Q (.bl (!decide (x=.non))) H):=by
 intro c s σ H x y v u Q I a b h;obtain⟨rfl,q⟩:=h;cases b;refine isnot_none_gen (bS I q ?_);cases x<;>first
  |(cases a;rfl)
  |(obtain⟨t,rfl⟩:=a;rfl)
theorem bu(b:Y2)(h:op≠.In:=by decide)(h2:op≠.NotIn:=by decide):aaW op b=false:=by
 have a:(op==CmpOp.In)=false:=by cases op<;>first|rfl|exact absurd rfl h
 have c:(op==CmpOp.NotIn)=false:=by cases op<;>first|rfl|exact absurd rfl h2
 cases b<;>simp[aaW,a,c]
theorem mi(ho:rA X (compareOp op) r)(ha:PE X a ta)(c:PE X b tb)(hm:aaW op b=false):PE X (.Compare a [op] [b] pos) (SV r ta tb):=by
 intro d s σ H Q I h;exact wpAny_Compare1 (R3 ha c I h λv u e x y f g i j q=>ho d e σ f x y v u Q g i j q) hm
def Lh(t:TE):TT:=λσ H Q=>t σ H λx a=>∃k,x=.bl k/\Q k a
theorem bc(ho:rA X (compareOp op) r)(ha:PE X a ta)(f:PE X b tb)(hm:aaW op b=false):PT X (.Compare a [op] [b] pos) (Lh (SV r ta tb)):=by
 intro d s σ H Q I h;refine acG (cz (ha d s σ H _ I h) λv g ⟨x,i,j,l,m⟩=>cz (f d g σ i _ j m) λu n ⟨y,o,p,q,t⟩=>
  cz (ho d n σ o x y v u _ p l q t) λc D ⟨z,w,A,B,k,e,C⟩=>?_) hm
 subst e;cases B;exact wpAny_truthy_bool ⟨w,A,C⟩
def Lm(K:Yc)(x:V)(H:Hp)(k:Bool):Prop:=
 match x with
 | .non=>k=false
 | .bl b=>k=b
 | .int i=>k=(i !=0)
 | .str y=>y.length<=sizeLine/\k=((y.length:Int) !=0)
 | .byt y=>y.size<=sizeLine/\k=((y.size:Int) !=0)
 | .ref p=>(∃a,bo K H p a/\k=!a.isEmpty)∨(∃a,bC K H p a/\k=!a.isEmpty)∨∃c,H p=Ya (.dK c)/\k=!c.isEmpty
 |_=>False
theorem FR{κ:Type}{kvs:List (κ×V)}{vs:List (κ×Yd)}(r:KV kvs vs):(!vs.isEmpty)=!kvs.isEmpty:=by
 cases r<;>rfl
theorem wX{xs:List V}{its:List Yd}(r:Vals xs its):(!its.toArray.isEmpty)=!xs.isEmpty:=by
 cases r<;>simp
theorem yf:(sizeLine:Nat)<2^63:=by rw[WU];decide
theorem Sd:VS X (λx H Q=>∃k,Lm X.K x H k/\Q k H):=by
 intro z s σ H x v Q I g h;obtain⟨k,e,q⟩:=h;have hl:=yf;have hs:sizeLine=16777216:=WU;cases x with
 |non=>
  cases g;have a:k=false:=e;subst a;exact truthy_none ⟨H,I,q⟩
 |bl b=>
  cases g;have a:k=b:=e;subst a;exact wpAny_truthy_bool ⟨H,I,q⟩
 |int i=>
  obtain⟨t,rfl⟩:=g;have a:k=(i !=0):=e;subst a;exact PySem.P.truthy_int ⟨H,I,q⟩
 |str y=>
  obtain⟨t,rfl⟩:=g;obtain⟨u,a⟩:y.length<=sizeLine/\k=((y.length:Int) !=0):=e;subst a;exact PySem.P.truthy_str (by omega) ⟨H,I.tok _,q⟩
 |byt y=>
  obtain⟨t,rfl⟩:=g;obtain⟨u,a⟩:y.size<=sizeLine/\k=((y.size:Int) !=0):=e;subst a;exact PySem.W.truthy_bytes (by omega) ⟨H,I.tok _,q⟩
 |ref p=>
  cases g;have a:(∃f,bo X.K H p f/\k=!f.isEmpty)∨(∃f,bC X.K H p f/\k=!f.isEmpty)∨∃c,H p=Ya (.dK c)/\k=!c.isEmpty:=e;rcases a with⟨f,j,a⟩|⟨f,j,a⟩|⟨c,j,a⟩
  ·subst a;obtain⟨l,r,n,o⟩:=I.list j;have d:=r.length;exact wpAny_truthy_list n.isList (by simp only[Yw];omega) ⟨H,I.tok _,by rw[wX r];exact q⟩
  ·subst a;obtain⟨l,r,n,o⟩:=I.tuple j;have d:=r.length;exact truthy_tuple n (by simp only[Yw];omega) ⟨H,I.tok _,by rw[wX r];exact q⟩
  ·subst a;obtain⟨o,w,vs,r,m⟩:c.length<=sizeLine/\(p==RW)=false/\∃vs,KV c vs/\s.heap.DictOf (aZ X.prog X.w) p vs:=I.hok p _ j;have d:c.length=vs.length:=Y0 r;exact wpAny_truthy_dict w m (by omega) ⟨H,I.tok _,by rw[FR r];exact q⟩
 |_=>exact(show False from e).elim
theorem Df(ha:PE X a ta)(d:∀b,isTrue a X.env b=(do let v←b;aa2 a.pos;holding [v] (truthy v))):
  PT X a (λσ H Q=>ta σ H λx H'=>∃k,Lm X.K x H' k/\Q k H'):=by
 intro c s σ H Q I h;exact isTrue_plain (cz (ha c s σ H _ I h) λv e ⟨x,f,g,i,j⟩=>Sd c e σ f x v Q g i j) (d _)
theorem d9{x:V}(r:Vals [x] us):∃u,us=[u]/\RelV x u:=by
 cases r with
 |cons r1 r2=>cases r2;exact⟨_,rfl,r1⟩
theorem zM{x:V}(r:Vals [x,y] us):∃u w',us=[u,w']/\RelV x u/\RelV y w':=by
 cases r with
 |cons r1 r2=>
  cases r2 with
  |cons r3 r4=>cases r4;exact⟨_,_,rfl,r1,r3⟩
theorem Mo:dh X (.builtin "abs") (λxs H Q=>∃i,xs=[.int i]/\Q (.int (if i<0 then-i else i)) H):=by
 intro a s σ H xs b Q I r h;obtain⟨i,rfl,q⟩:=h;obtain⟨u,rfl,t,rfl⟩:=d9 r;exact call_abs_int λu tk=>⟨.int (if i<0 then-i else i),H,I.tok _,⟨_,rfl⟩,q⟩
theorem Ij(b:X.calm=true):dh X (.builtin "max") (λxs H Q=>∃i j,xs=[.int i,.int j]/\Q (.int (if j>i then j else i)) H):=by
 intro c s σ H xs d Q I r h;obtain⟨i,j,rfl,q⟩:=h;obtain⟨u,e,rfl,⟨t,rfl⟩,⟨f,rfl⟩⟩:=zM r;refine max_two_ints (I.ok.hd b) λg tk k=>⟨_,H,I.kept k,?_,q⟩;by_cases a:j>i
 ·rw[if_pos a,if_pos a];exact⟨_,rfl⟩
 ·rw[if_neg a,if_neg a];exact⟨_,rfl⟩
theorem HR(b:X.calm=true):dh X (.builtin "min") (λxs H Q=>∃i j,xs=[.int i,.int j]/\Q (.int (if j<i then j else i)) H):=by
 intro c s σ H xs d Q I r h;obtain⟨i,j,rfl,q⟩:=h;obtain⟨u,e,rfl,⟨t,rfl⟩,⟨f,rfl⟩⟩:=zM r;refine min_two_ints (I.ok.hd b) λg tk k=>⟨_,H,I.kept k,?_,q⟩;by_cases a:j<i
 ·rw[if_pos a,if_pos a];exact⟨_,rfl⟩
 ·rw[if_neg a,if_neg a];exact⟨_,rfl⟩
theorem Iw:dh X (.type "int") (λxs H Q=>(∃i,xs=[.int i]/\Q (.int i) H)∨∃k,xs=[.bl k]/\Q (.int (if k then 1 else 0)) H):=by
 intro b s σ H xs c Q I r h;rcases h with⟨i,rfl,q⟩|⟨k,rfl,q⟩
 ·obtain⟨u,rfl,t,rfl⟩:=d9 r;exact call_int_int ⟨.int i,H,I,⟨_,rfl⟩,q⟩
 ·obtain⟨u,rfl,a⟩:=d9 r;cases a;exact call_int_bool ⟨.int (if k then 1 else 0),H,I.tok _,⟨_,rfl⟩,q⟩
end
structure FV(h:YK)(x dx C:Ye)(mA:Yn->Option Yd):Prop where
 obj:h.get? x=Ya (Xj C dx)
 ns:h.Ns1 dx mA
 ne:dx≠x
theorem Iq(n:h.Ns1 dx mA):∃od,h.get? dx=Ya od/\∀name,abp name od=Ya (mA name):=by
 obtain⟨o,c,i,ho,hd,d,_,hm⟩:=n;refine⟨o,ho,λname=>?_⟩;have e:=hm name;unfold nsFind findBy at e;rw[←Array.find?_toList]at e;unfold abp;rw[hd];dsimp only;split
 ·rename_i y q;rw[q]at e;exact congrArg Ya e
 ·rename_i q;rw[q]at e;have a:c.toList.any (·.refKey)=false:=by
   rw[abN];intro y f;obtain⟨z,t,b⟩:=d y (Array.mem_toList_iff.mp f);simp[DictEntry.refKey,b]
  have g:¬ c.toList.any (·.refKey)=true:=by rw[a];exact YN
  rw[if_neg g];exact congrArg Ya e
theorem FV.look{x:Ye}(I:FV h x dx C mA):∃od,PySem.W.InstAt h x (Xj C dx) C (Ya od)/\∀name,abp name od=Ya (mA name):=
 let ⟨od,ho,hl⟩:=Iq I.ns
 ⟨od,⟨I.obj,rfl,rfl,ho⟩,hl⟩
section
variable{K:Yc}{x f:Ye}{v:Yd}
theorem NK{a:Bool}(X:K.In s.heap)(I:FV s.heap x dx C mA)(c:aaY K C name=true)(d:abO K C=true)(ha:YZ K (.ref C) name=Ya Yb)(e:mA name=Ya v)(b:ab0 v=true)(h:Q v {s with toks:=s.toks+ 1}):
  Yo (model prog w) A (getAttr (.ref x) name a) Q E s:=by
 obtain⟨od,J,hl⟩:=I.look;exact PySem.W.get_value X J (abk c).1 (PySem.W.findObj_own d ha rfl (by rw[hl,e])) b h
theorem KP{Q:Yd×List Yd->Yl->Prop}(X:K.In s.heap)(I:FV s.heap x dx C mA)(a:aaY K C name=true)(b:YZ K (.ref C) name=Ya (Ya (.ref f)))(c:adm K (.ref f)=true)(d:mA name=Yb)(h:Q (.ref f,[.ref x]) s):
  Yo (model prog w) A (getMethod (.ref x) name pl) Q E s:=by
 obtain⟨od,J,hl⟩:=I.look;exact PySem.W.method_fn X J (abk a).1 (abk a).2 b (beq_iff_eq.mp c) (by show(abp name od).map (·.isSome)=Ya false;rw[hl,d];rfl) h
theorem OK{ns:List Yn}{Q:Unit->Yl->Prop}(X:K.In s.heap)(I:FV s.heap x dx C mA)
  (hs:YZ K (.ref C) "__setattr__"=Ya (Ya (.builtin "object.__setattr__"))) (hp:adE K C=true) (j:acs K C name=Ya Yb) (k:abO K C=true)
  (hw:aby mA ns) (hsz:ns.length<=sizeLine)
  (h:∀h',FV h' x dx C (λy=>if y=name then Ya v else mA y)->Wt dx s.heap h'->Q () {s with heap:=h',toks:=s.toks+ 2}):
  Yo (model prog w) A (setAttr (.ref x) name v) Q E s:=by
 obtain⟨od,J,hl⟩:=I.look;refine abP X J hs (PySem.W.osa_open (s:={s with toks:=s.toks+ 1}) (r:=Yb) X J hp j λb=>?_);obtain⟨p,l,e⟩:=PySem.W.any_some k;have m:s.heap.get? x=Ya ⟨.ref C,Ya dx,.plain,#[]⟩:=I.obj;refine wpAny_bind (wpAny_pure (wpAny_bind (wpAny_bind (wpAny_loadPart m (wpAny_bind (abz (s:={s with toks:=s.toks+ 1}) (abl X l) ?_))))));rw[e];refine wpAny_pure (a:=Ya dx) (wpAny_bind (wpAny_pure (wpAny_bind ?_)));refine wpAny_nsSet1 (s:={s with toks:=s.toks+ 1}) I.ns λh' c d=>?_;obtain⟨q,n,o,f,g,i⟩:=c.count (PySem.Within.cons name v hw);refine wpAny_bind (wpAny_lookBehind f (by rw[g];exact adU (cb i (by rw[cw];omega))) ?_);exact wpAny_pure (h _ ⟨(d.2 _ (cT I.ne)).trans I.obj,c,I.ne⟩ d)
theorem Me{R:aaj->Yl->Prop}{vs:List Yd}(X:K.In s.heap)(hm:aeg K C=true)(a:YZ K (.ref C) "__init__"=Ya (Ya (.ref f)))(b:adn K (.ref f)=Ya (.type "function"))(h:sq (model prog w) (A.under (.builtin "type.__call__" ⟨.ref C::vs,kw⟩)) (.call (.ref f) ⟨.ref (s.heap.objs.size+ 1)::vs,kw⟩) (adV (s.heap.objs.size+ 1) R)
   {s with heap:=(s.heap.push WQ).push (Xj C s.heap.objs.size)}):
  sq (model prog w) A (.call (.ref C) ⟨vs,kw⟩) R s:=by
 obtain⟨c,g,d,t,os⟩:=s;exact PySem.W.make_core (PySem.W.makes_of X hm) (PySem.W.looks_findIn X a) (λself=>PySem.W.bind_fn X self b) (.inl rfl) h
end
def dB(f:Yn)(v:V):List (Yn×V)->List (Yn×V)
 |[]=>[(f,v)]
 |(g,x)::r=>if g=f then(g,v)::r else(g,x)::dB f v r
theorem pj(f g:Yn)(v:V):∀fs:List (Yn×V),(dB f v fs).lookup g=if g=f then Ya v else fs.lookup g
 |[]=>by
  show XN g [(f,v)]=_;by_cases h:g=f
  ·have a:(g==f)=true:=beq_iff_eq.mpr h;simp only[XN,a,if_pos h]
  ·have a:(g==f)=false:=beq_eq_false_iff_ne.mpr h;simp only[XN,a,if_neg h]
 |(k,x)::r=>by
  have c:=pj f g v r;rw[show dB f v ((k,x)::r)=(if k=f then(k,v)::r else(k,x)::dB f v r)from rfl];by_cases b:k=f
  ·rw[if_pos b];by_cases h:g=k
   ·have a:(g==k)=true:=beq_iff_eq.mpr h;simp only[XN,a,if_pos (h.trans b)]
   ·have a:(g==k)=false:=beq_eq_false_iff_ne.mpr h;simp only[XN,a,if_neg (λe:g=f=>h (e.trans b.symm))]
  ·rw[if_neg b];by_cases h:g=k
   ·have a:(g==k)=true:=beq_iff_eq.mpr h;simp only[XN,a,if_neg (λe:g=f=>b (h.symm.trans e))]
   ·have a:(g==k)=false:=beq_eq_false_iff_ne.mpr h;simp only[XN,a];exact c
theorem lH(f:Yn)(v:V):∀fs:List (Yn×V),f∈(dB f v fs).map (·.1)/\∀g,g∈fs.map (·.1)->g∈(dB f v fs).map (·.1)
 |[]=>⟨by simp[dB],λg h=>by simp at h⟩
 |(k,x)::r=>by
  obtain⟨b,c⟩:=lH f v r;rw[show dB f v ((k,x)::r)=(if k=f then(k,v)::r else(k,x)::dB f v r)from rfl];by_cases a:k=f
  ·rw[if_pos a];subst a;exact⟨by simp,λg h=>by simpa using h⟩
  ·rw[if_neg a];refine⟨?_,λg h=>?_⟩
   ·rw[Yz];exact Yp _ b
   ·rw[Yz]at h⊢;rcases Ym.mp h with e|e
    ·exact Ym.mpr (.inl e)
    ·exact Yp _ (c g e)
theorem vx(f:Yn)(v:V):∀fs:List (Yn×V),(dB f v fs).length<=fs.length+ 1
 |[]=>by simp[dB]
 |(k,x)::r=>by
  have b:=vx f v r;rw[show dB f v ((k,x)::r)=(if k=f then(k,v)::r else(k,x)::dB f v r)from rfl];by_cases a:k=f
  ·rw[if_pos a,cw,cw];omega
  ·rw[if_neg a,cw,cw];omega
theorem ku.some_of{o:Option Yd}(r:ku (Ya v) o):∃u,o=Ya u/\RelV v u:=by
 cases o with
 |none=>exact(show False from r).elim
 |some u=>exact⟨u,rfl,r⟩
theorem ku.none_of{o:Option Yd}(r:ku Yb o):o=none:=by
 cases o with
 |none=>rfl
 |some u=>exact(show False from r).elim
theorem HV(r:RelV v u):ab0 u=true:=by
 cases v with
 |non=>cases (show u=WL from r);rfl
 |bl b=>cases (show u=aaq b from r);rfl
 |int i=>obtain⟨t,e⟩:=(show∃t,u=Xz i t from r);cases e;rfl
 |str x=>obtain⟨t,e⟩:=(show∃t,u=acr x t from r);cases e;rfl
 |byt b=>obtain⟨t,e⟩:=(show∃t,u=ae4 b t from r);cases e;rfl
 |flt b=>obtain⟨t,e⟩:=(show∃t,u=adR b t from r);cases e;rfl
 |ref a=>cases (show u=YA a from r);rfl
 |ty n=>cases (show u=W6 n from r);rfl
section
variable{fs':List (Yn×V)}
theorem wI(hok:lO P w H h)(e:H a=Ya (.ins C dx fs)):∃mA,FV h a dx C mA/\(∀f,ku (fs.lookup f) (mA f))/\aby mA (fs.map (·.1))/\fs.length<=1000/\H dx=Ya (.own a):=by
 obtain⟨d,z,ne,ob,mA,n,r,q⟩:=(show bZ P w H h a (.ins C dx fs)from hok a _ e);exact⟨mA,⟨ob,n,ne⟩,r,q,z,d⟩
end
structure zJ(K:Yc)(C:Ye):Prop where
 pg:aaY K C Str.empty=true
 hd:abO K C=true
 po:adE K C=true
 sa:YZ K (.ref C) "__setattr__"=Ya (Ya (.builtin "object.__setattr__"))
theorem zJ.get{K:Yc}(c:zJ K C)(f:Yn):aaY K C f=true:=c.pg
def cC(K:Yc)(C:Ye)(f:Yn):Prop:=YZ K (.ref C) f=Ya Yb
theorem cC.taker{K:Yc}{f:Yn}(n:cC K C f):acs K C f=Ya none:=by
 unfold acs;rw[show YZ K (.ref C) f=Ya Yb from n];rfl
structure bB(K:Yc)(C:Ye)(m:Yn)(f:Ye):Prop where
 at_:YZ K (.ref C) m=Ya (Ya (.ref f))
 fn:adm K (.ref f)=true
 kp:Xl K (.ref f)=true
section
variable{f:Yn}
theorem FP{b:Bool}(I:aM X Za σ H s)(e:H a=Ya (.ins C dx fs))(c:zJ X.K C)(n:cC X.K C f)(l:fs.lookup f=Ya v)(h:∀u s',aM X Za σ H s'->RelV v u->Q u s'):Yo (model X.prog X.w) A (getAttr (.ref a) f b) Q E s:=by
 obtain⟨g,O,r,_,_,_⟩:=wI I.hok e;obtain⟨u,i,d⟩:=ku.some_of (v:=v) (o:=g f) (by rw[←l];exact r f);exact NK I.kIn O (c.get f) c.hd n i (HV d) (h u _ (I.tok _) d)
theorem jy{g:Ye}{Q:Yd×List Yd->Yl->Prop}(I:aM X Za σ H s)(e:H a=Ya (.ins C dx fs))(c:zJ X.K C)(k:bB X.K C m g)(l:fs.lookup m=Yb)(h:Q (.ref g,[.ref a]) s):Yo (model X.prog X.w) A (getMethod (.ref a) m pl) Q E s:=by
 obtain⟨b,O,r,_,_,_⟩:=wI I.hok e;have hn:b m=none:=ku.none_of (by rw[←l];exact r m);exact KP I.kIn O (c.get m) k.at_ k.fn hn h
theorem Fv{Q:Unit->Yl->Prop}(I:aM X Za σ H s)(e:H a=Ya (.ins C dx fs))(c:zJ X.K C)(n:cC X.K C f)(hl:fs.length<1000)(k:RelV y u)(h:∀s',aM X Za σ (upd H a (.ins C dx (dB f y fs))) s'->Q () s'):Yo (model X.prog X.w) A (setAttr (.ref a) f u) Q E s:=by
 obtain⟨i,O,r,j,_,ho⟩:=wI I.hok e;have l:(fs.map (·.1)).length<=sizeLine:=by rw[Yf,WU];omega
 refine OK I.kIn O c.sa c.po n.taker c.hd j l λm d p=>h _ ?_;have hd:∃o,m.get? dx=Ya o:=let ⟨o,_,_,e',_⟩:=d.ns;⟨o,e'⟩;refine I.write (x:=a) (e:=dx) (by rw[e];exact W7) (.inr ho) (λb q t z=>(p.2 b t).trans z) hd ?_;refine⟨by rw[ak O.ne];exact ho,?_,O.ne,d.obj,_,d.ns,λg=>?_,λg v=>?_⟩
 ·have:=vx f y fs;omega
 ·show ku ((dB f y fs).lookup g) (if g=f then Ya u else i g);rw[pj];by_cases q:g=f
  ·rw[if_pos q,if_pos q];exact k
  ·rw[if_neg q,if_neg q];exact r g
 ·by_cases q:g=f
  ·rw[q];exact(lH f y fs).1
  ·refine(lH f y fs).2 g (j g λz=>v ?_);show(if g=f then Ya u else i g)=Yb;rw[if_neg q];exact z
theorem aM.made(I:aM X Za σ H s):aM X Za σ (upd (upd H s.heap.objs.size (.own (s.heap.objs.size+ 1))) (s.heap.objs.size+ 1) (.ins C s.heap.objs.size []))
  {s with heap:=(s.heap.push WQ).push (Xj C s.heap.objs.size)}:=by
 have c:(s.heap.push WQ).get? s.heap.objs.size=Ya WQ:=Yr s.heap rfl;have d:((s.heap.push WQ).push (Xj C s.heap.objs.size)).get? (s.heap.objs.size+ 1)=Ya (Xj C s.heap.objs.size):=by
  have:=Yr (s.heap.push WQ) (o:=Xj C s.heap.objs.size) rfl;rwa [WV]at this
 have f:(s.heap.push WQ).Ns s.heap.objs.size (λ_=>Yb):=⟨WQ,#[],_,c,rfl,(λe g=>absurd g (by simp)),λ_=>rfl⟩;have h:=I.laid (a:=s.heap.objs.size) (o:=.own (s.heap.objs.size+ 1)) (h':=s.heap.push WQ) (t':=s.toks) (λb u q=>Yg _ q) (Yj _) ⟨_,c⟩;refine h.laid (a:=s.heap.objs.size+ 1) (o:=.ins C s.heap.objs.size []) (t':=s.toks) (λb u q=>Yg _ q) (aa8 (WV _ _)) ?_;have ne:s.heap.objs.size≠s.heap.objs.size+ 1:=YE (Xv _);refine⟨by rw[ak ne,ai],Y6 _,ne,d,λ_=>Yb,(Heap.Ns1.of_empty f).at λo q=>Yg _ q,λ_=>W7,λy i=>absurd rfl i⟩
theorem NP{f:Yn}(a:W8 e f env (eval e env)=eval e env)(h:Yo (model prog w) A (eval e env) (λo b=>Yo (model prog w) A (getAttr o f true) Q E b) E s):Yo (model prog w) A (eval (.Attribute e f pos) env) Q E s:=
 Attribute_any_ h (by rw[arm_eval_Attribute,a])
end
def RZ(K:Yc)(ta:TE)(f:Yn):TE:=λσ H Q=>ta σ H λx b=>∃a C c fs v,x=.ref a/\b a=Ya (.ins C c fs)/\zJ K C/\cC K C f/\fs.lookup f=Ya v/\Q v b
def LZ(K:Yc)(ta tv:TE)(f:Yn):TS:=λD σ H=>tv σ H λy d=>ta σ d λx b=>∃a C c fs,x=.ref a/\b a=Ya (.ins C c fs)/\zJ K C/\cC K C f/\fs.length<1000/\
 D.nx σ (upd b a (.ins C c (dB f y fs)))
section
variable{o:Y2}{f:Yn}
theorem SD(b:PE X e ta)(d:W8 e f X.env (eval e X.env)=eval e X.env):PE X (.Attribute e f pos) (RZ X.K ta f):=by
 intro g s σ H Q I h;refine NP d (cz (b g s σ H _ I h) λu t i=>?_);obtain⟨x,j,k,m,a,C,w,fs,v,ex,o,c,n,l,q⟩:=i;subst ex;obtain rfl:u=YA a:=m;exact FP k o c n l λy z p r=>⟨v,j,p,r,q⟩
theorem Q3(ha:PE X o ta)(d:PE X Zf tv)(hs:aa1 Zf (Ya (.Attribute o f Zp)) pos.line X.env=pure false):PS X (.Assign [.Attribute o f Zp] Zf pos) (LZ X.K ta tv f):=by
 intro b s σ H D I h;refine aa6 (cz (d b s σ H _ I h) λu e ⟨y,g,i,j,q⟩=>cz (ha b e σ g _ i q) λk z m=>?_) hs;obtain⟨x,A,p,r,a,C,B,fs,ex,t,c,n,l,v⟩:=m;subst ex;obtain rfl:k=YA a:=r;exact Fv p t c n l j λE w=>⟨σ,_,w,v⟩
theorem PY{b:List Y2}(n:PE X e te)(I:aM X Za σ H s)(h:te σ H λx i=>∃a C dx fs g,x=.ref a/\i a=Ya (.ins C dx fs)/\zJ X.K C/\bB X.K C m g/\fs.lookup m=Yb/\
   ∀d,aM X Za σ i d->Yo (model X.prog X.w) X.A (callWith pos (.ref g) [.ref a] (backTo pos (starEach b X.env)) (backToKw pos (keywordEach [] X.env))) Q X.xe d) (o:eval (.Call (.Attribute e m Ze) b [] pos) X.env=(do
   let ov←eval e X.env
   aa2 Ze.atName
   let (f,first)←holding [ov] (getMethod ov m pl)
   callWith pos f first (backTo pos (starEach b X.env)) (backToKw pos (keywordEach [] X.env)))):
  Yo (model X.prog X.w) X.A (eval (.Call (.Attribute e m Ze) b [] pos) X.env) Q X.xe s:=by
 refine Xc (pl:=pl) (cz (n Za s σ H _ I h) λu d p=>?_) o;obtain⟨x,i,j,r,a,C,dx,fs,g,ex,t,c,k,l,q⟩:=p;subst ex;obtain rfl:u=YA a:=r;exact jy j t c k l (q d j)
end
section
variable{c:Yd}{b:Bool}
inductive sX (K:Yc) (H:Hp):V->Yd->Prop where
 |non:sX K H .non (.type "NoneType")
 |bl (x:Bool):sX K H (.bl x) (.type "bool")
 |int (i:Int):sX K H (.int i) (.type "int")
 |str (x:Yn):sX K H (.str x) (.type "str")
 |flt (x:UInt64):sX K H (.flt x) (.type "float")
 |lst {a:Ye} {xs:List V} (e:H a=Ya (.lst xs)):sX K H (.ref a) (.type "list")
 |frz {a:Ye} {o:Y9} {xs:List V} (e:H a=Ya (.frz o (.lst xs))):sX K H (.ref a) (.type "list")
 |tup {a:Ye} {xs:List V} (e:H a=Ya (.tup xs)):sX K H (.ref a) (.type "tuple")
 |dK {a:Ye} {kvs:List (bK×V)} (e:H a=Ya (.dK kvs)):sX K H (.ref a) (.type "dict")
 |dT {a:Ye} {kvs:List (List bK×V)} (e:H a=Ya (.dT kvs)):sX K H (.ref a) (.type "dict")
 |ins {a C dx:Ye} {fs:List (Yn×V)} (e:H a=Ya (.ins C dx fs)) (cl:zJ K C) (ha:YZ K (.ref C) "__class__"=Ya (Ya (.builtin "object.__class__")))
   (hn:adF K (.builtin "object.__class__") "__get__"=Ya (Ya (.builtin "getset_descriptor.__get__"))) (htk:PySem.W.takesIn K (.builtin "object.__class__")=Ya true)
   (hm:abD K C (.type "object")=Ya true):sX K H (.ref a) (.ref C)
theorem Jg{x:V}{t:Yd}(I:aM X Za σ H s)(d:RelV x u)(ty:sX X.K H x t)(e:acH X.K t c=Ya b)(h:∀tk,Q (.bool b) {s with toks:=tk}):
  Yo (model X.prog X.w) A (call (.builtin "isinstance") [u,c]) Q E s:=by
 cases ty with
 |non=>cases (show u=WL from d);exact WH PySem.W.kitx_none I.kIn W7 e (λz=>nomatch z) h
 |bl y=>cases (show u=aaq y from d);exact WH PySem.W.kitx_bool I.kIn W7 e (λz=>nomatch z) h
 |int i=>obtain⟨t,q⟩:=(show∃t,u=Xz i t from d);cases q;exact WH PySem.W.kitx_int I.kIn W7 e (λz=>nomatch z) h
 |str y=>obtain⟨t,q⟩:=(show∃t,u=acr y t from d);cases q;exact WH PySem.W.kitx_str I.kIn W7 e (λz=>nomatch z) h
 |flt y=>obtain⟨t,q⟩:=(show∃t,u=adR y t from d);cases q;exact WH PySem.W.kitx_float I.kIn W7 e (λz=>nomatch z) h
 |@lst a xs ea=>
  cases (show u=YA a from d);obtain⟨_,_,n,_,h1⟩:=(show bZ X.prog X.w H s.heap a (.lst xs)from I.hok a _ ea);exact WH adG I.kIn ⟨_,h1,rfl⟩ e (λz=>nomatch z) h
 |@frz a ob xs ea=>
  cases (show u=YA a from d);obtain⟨_,_,_,n,_,h1⟩:=(show bZ X.prog X.w H s.heap a (.frz ob (.lst xs))from I.hok a _ ea);exact WH adG I.kIn ⟨_,h1,rfl⟩ e (λz=>nomatch z) h
 |@tup a xs ea=>
  cases (show u=YA a from d);obtain⟨_,_,_,p⟩:=(show bZ X.prog X.w H s.heap a (.tup xs)from I.hok a _ ea);obtain⟨o,h1,h2,_⟩:=p;exact WH PySem.W.kitx_tuple I.kIn ⟨o,h1,h2⟩ e (λz=>nomatch z) h
 |@dK a kvs ea=>
  cases (show u=YA a from d);obtain⟨_,_,j,_,p⟩:=(show bZ X.prog X.w H s.heap a (.dK kvs)from I.hok a _ ea);obtain⟨o,f,g,h1,h2,_⟩:=p;exact WH adH I.kIn ⟨o,h1,h2.1⟩ e (λz=>nomatch z) h
 |@dT a kvs ea=>
  cases (show u=YA a from d);obtain⟨_,_,xs,_,o,f,g,h1,h2,_⟩:=(show bZ X.prog X.w H s.heap a (.dT kvs)from I.hok a _ ea);exact WH adH I.kIn ⟨o,h1,h2.1⟩ e (λz=>nomatch z) h
 |@ins a C dx fs ea cl ha hn htk hm=>
  cases (show u=YA a from d);obtain⟨k,O,_⟩:=wI I.hok ea;obtain⟨od,J,_⟩:=O.look;exact WH (PySem.W.kitx_own (cl.get _) cl.hd ha hn htk hm) I.kIn J e (λz=>nomatch z) h
end
structure cR(k:Nat)(A:nh):Prop where
 hd:A.handled=Yb
 dp:A.depth+ 3*k+ 5<abq
 un:A.units+ 16*k+ 200<Wy
theorem cR.mono(r:cR k A)(h:j<=k):cR j A:=⟨r.hd,by have:=r.dp;omega,by have:=r.un;omega⟩
theorem cR.deeper(r:cR (k+ 1) A)(env:aad):cR k (A.deeper env):=
 ⟨r.hd,by have:=r.dp;show A.depth+ 1+ 3*k+ 5<_;omega,by have:=r.un;show A.units+ 3+ 16*k+ 200<_;omega⟩
theorem EB:(A.under (.builtin "type.__call__" ⟨.ref C::us,kw⟩)).depth=A.depth+ 1:=by
 first|rfl|simp[Around.under,Code.weight,Code.isCreation,Code.isGuard,Code.isCaller,ae5,ado,guardIds]
theorem Fp:(A.under (.builtin "type.__call__" ⟨.ref C::us,kw⟩)).units=A.units+ 1:=by
 first|rfl|simp[Around.under,Code.cUnits,ae5,ado]
theorem cR.make(r:cR (k+ 1) A)(C:Ye)(us:List Yd)(a:List (Yn×Yd)):cR k (A.under (.builtin "type.__call__" ⟨.ref C::us,a⟩)):=
 ⟨r.hd,by have:=r.dp;rw[EB];omega,by have:=r.un;rw[Fp];omega⟩
theorem cR.depth(r:cR k A):A.depth<abq:=by have:=r.dp;omega
theorem cR.units(r:cR k A):A.units+ 64<Wy:=by have:=r.un;omega
theorem cR.units0(r:cR k A):A.units<Wy:=by have:=r.un;omega
def Bd:TA:=λ_ H Q=>Q [] H
def yn(ta:TE)(tr:TA):TA:=λσ H Q=>ta σ H λx a=>tr σ a λb c=>Q (x::b) c
section
variable{t:TA}
theorem af:PA X [] Bd:=λ_ _ _ _ H Q I h=>abQ ⟨[],H,I,.nil,h⟩
theorem aa(ha:PE X e te)(b:PA X es t)(hs:starEach (e::es) X.env=(false,eval e X.env)::starEach es X.env:=by rfl):PA X (e::es) (yn te t):=by
 intro pos a s σ H Q I h;rw[hs];show Yo _ _ (spliced ((false,eval e X.env)::backTo pos (starEach es X.env))) _ _ s;refine aaD (cz (ha a s σ H _ I h) λu c d=>?_);obtain⟨x,f,g,i,j⟩:=d;exact cz (b pos a c σ f _ g j) λp q ⟨k,l,m,n,o⟩=>⟨x::k,l,m,.cons i n,o⟩
def SU(t:TA):TE:=λσ H Q=>t σ H λa b=>a.length<=sizeLine/\∀p,b p=Yb->Q (.ref p) (upd b p (.tup a))
def U5(t:TA):TE:=λσ H Q=>t σ H λa b=>a.length<=sizeLine/\∀p,b p=Yb->Q (.ref p) (upd b p (.lst a))
theorem cv{f}(h:PA X es t):PE X (.Tuple es f pos) (SU t):=by
 intro g s σ H Q I i;refine wpAny_Tuple_spliced (cz (h pos g s σ H _ I i) λj a ⟨k,c,d,r,z,q⟩=>⟨by rw[←r.length];exact z,?_⟩);have l:c a.heap.objs.size=none:=d.hok.fresh (Yj _);refine⟨.ref a.heap.objs.size,upd c a.heap.objs.size (.tup k),d.laid (t':=a.toks) (λb u e=>Yg _ e) (Yj _) ?_,rfl,q _ l⟩;exact⟨z,j,r,lG.new _ _⟩
theorem dQ(h:PA X es t):PE X (.List es pos) (U5 t):=by
 intro f s σ H Q I g;refine wpAny_List_spliced (cz (h pos f s σ H _ I g) λi a ⟨j,c,d,r,z,q⟩=>⟨by rw[←r.length];exact z,?_⟩);have k:c a.heap.objs.size=none:=d.hok.fresh (Yj _);refine⟨.ref a.heap.objs.size,upd c a.heap.objs.size (.lst j),d.laid (t':=a.toks) (λb u e=>Yg _ e) (Yj _) ?_,rfl,q _ k⟩;exact⟨z,i,0,r,Yr _ rfl⟩
end
abbrev Sp:=List V->Hp->VK->XK->Prop
variable{sp:Sp}
abbrev LV:=List aad->Hp->Yl->XK->Yd->Yl->Prop
variable{CX:LV}
structure Ex(P:YO)(w:YW)(K:Yc)(mg:Yn->Option Yd)(base:YK)(A:nh)(outer:List aad)(s:Yl)(H:Hp):Prop where
 frames:A.frames=Ya outer
 mod:Mod K mg base
 bs:∀b o,base.get? b=Ya o->s.heap.get? b=Ya o/\H b=Yb
 bsz:base.objs.size<=s.heap.objs.size
 funs:s.heap.FunFrames base outer
 frf:∀b∈lL outer,H b=Yb
 hok:lO P w H s.heap
 bare:aat s.gens
def CE(outer:List aad)(P:YO)(w:YW)(H:Hp)(s:Yl)(Q:VK)(u:Yd)(s':Yl):Prop:=
 ∃v a,s'.os=s.os/\aat s'.gens/\Un (lL outer) [] H a s.heap s'.heap/\lO P w a s'.heap/\RelV v u/\Q v a
def CR(CX:LV)(outer:List aad)(P:YO)(w:YW)(H:Hp)(s:Yl)(Q:VK)(E:XK)(r:aaj)(s':Yl):Prop:=
 match r with
 | .ok (.ret u)=>CE outer P w H s Q u s'
 | .ok _=>False
 | .error e=>CX outer H s E e s'
structure aF(P:YO)(w:YW)(K:Yc)(mg:Yn->Option Yd)(base:YK)(CX:LV)(k:Nat)(f:Ye)(fd:Yx)(ps:List Yn)(sp:Sp):Prop where
 len:∀vs H Q E,sp vs H Q E->vs.length=ps.length
 run:∀(A:nh) (outer:List aad) (s:Yl) (H:Hp) (args:Args) (us:List Yd) (vs:List V) (Q:VK) (E:XK),cR k A->Ex P w K mg base A outer s H->BindsTo s fd args (ps.zip us)->Vals vs us->sp vs H Q E->
  sq (model P w) A (.call (.ref f) args) (CR CX outer P w H s Q E) s
theorem aF.mono{K:Yc}{base:YK}{f:Ye}(F:aF P w K mg base CX j f fd ps sp)(h:j<=k):
  aF P w K mg base CX k f fd ps sp:=⟨F.len,λA outer s H a b c Q E d=>F.run A outer s H a b c Q E (d.mono h)⟩
theorem Ex.make{K:Yc}{base:YK}(e:Ex P w K mg base A outer s H)(C:Ye)(us:List Yd)(a:List (Yn×Yd)):
  Ex P w K mg base (A.under (.builtin "type.__call__" ⟨.ref C::us,a⟩)) outer s H:=⟨by first|exact e.frames|(simpa [Around.under,Code.envs,ado,pushEnvs]using e.frames),e.mod,e.bs,e.bsz,e.funs,e.frf,e.hok,e.bare⟩
section
theorem aM.env0(I:aM X Za σ H s):Ex X.prog X.w X.K X.mg X.base X.A X.stack s H:=
 ⟨I.ok.frames,I.ok.mod,I.bs,cb I.ok.bsz I.sz,I.stack,I.stkFree,I.hok,I.bare⟩
theorem aM.after{Q:VK}(I:aM X Za σ H s)(h:CE X.stack X.prog X.w H s Q u s'):EP X Za σ Q u s':=by
 obtain⟨v,c,os,bare,un,hok,r,q⟩:=h;obtain⟨e,g,d,t,a⟩:=s';obtain rfl:a=s.os:=os;exact⟨v,c,I.call (h':=e) (g':=g) (d':=d) (t':=t) (ch:=[]) un hok bare (λb z=>absurd z (by simp)),r,q⟩
end
def GK(sp:Sp)(a:List V)(E:XK)(t:TA):TE:=λσ H Q=>t σ H λb c=>sp (b++a) c Q E
def PR(C:Ye)(m:Yn)(sp:Sp)(c:List V)(E:XK)(ta:TE)(t:TA):TE:=λσ H Q=>ta σ H λx b=>∃a d fs,x=.ref a/\b a=Ya (.ins C d fs)/\fs.lookup m=Yb/\
 t σ b λe f=>sp (x::(e++c)) f Q E
def PH(C:Ye)(sp:Sp)(c:List V)(E:XK)(t:TA):TE:=λσ H Q=>t σ H λd b=>∀x a,b x=Yb->b a=Yb->a≠x->
 sp (.ref x::(d++c)) (upd (upd b a (.own x)) x (.ins C a [])) (λv e=>v=.non/\Q (.ref x) e) E
def Binds(K:Yc)(fd:Yx)(ps:List Yn)(ds:List Yd):Prop:=
 ∀(s:Yl) (a:List Yd),K.In s.heap->(a++ds).length=ps.length->BindsTo s fd ⟨a,[]⟩ (ps.zip (a++ds))
theorem Binds.all{K:Yc}(h:∀us:List Yd,us.length=ps.length->bindArgs fd ⟨us,[]⟩=pure (ps.zip us)):Binds K fd ps []:=λs us _ hl=>by
 rw[gf]at hl⊢;exact .of_eq (h us hl)
def rV(CX:LV)(X:Cx)(E:XK):Prop:=∀(a:List (Ye×Y9)) (σ:St) (H:Hp) (s:Yl) (e:Yd) (s':Yl),aM X a σ H s->CX X.stack H s E e s'->X.xe e s'
section
variable{f:Ye}{Zl:List V}{ds:List Yd}{E:XK}{o:Y2}{t:TA}
theorem rN{Q:VK}(F:aF X.prog X.w X.K X.mg X.base CX k f fd ps sp)(c:cR k X.A)(d:Binds X.K fd ps ds)(hd:Vals Zl ds)(g:rV CX X E)(I:aM X Za σ H s)(r:Vals vs us)(h:sp (vs++Zl) H Q E):Yo (model X.prog X.w) X.A (call (.ref f) us) (EP X Za σ Q) X.xe s:=by
 have b:Vals (vs++Zl) (us++ds):=r.append hd;have hl:(us++ds).length=ps.length:=by rw[←b.length];exact F.len _ _ _ _ h
 refine aa9 (codeAny_mono (F.run X.A X.stack s H ⟨us,[]⟩ (us++ds) (vs++Zl) Q E c I.env0 (d s us I.kIn hl) b h) λr s' a=>?_);cases r with
 |error e=>exact g Za σ H s e s' I a
 |ok fl=>
  cases fl with
  |ret u=>exact I.after a
  |next=>exact Wu a
  |brk=>exact Wu a
  |cont=>exact Wu a
theorem Oj(F:aF X.prog X.w X.K X.mg X.base CX k f fd ps sp)(d:cR k X.A)(g:Gl X x)(hm:X.mg x=Ya (.ref f))(hk:Xl X.K (.ref f)=true)(i:Binds X.K fd ps ds)(hd:Vals Zl ds)(j:rV CX X E)
  (ha:PA X (e::es) t) (a:(x==("__debug__":Yn))=false:=by decide) (l:starEach (e::es) X.env=(false,eval e X.env)::starEach es X.env:=by rfl) (b:(backTo pos (starEach es X.env)).any (·.1)=false:=by rfl):
  PE X (.Call (.Name x p) (e::es) [] pos) (GK sp Zl E t):=by
 intro m s σ H Q I h;refine WT (my I g hm ?_ a);refine XB (h₀:=X.base) I.ok.mod.kin hk (cz (ha pos m s σ H _ I h) λn o ⟨u,v,c,r,q⟩=>⟨c.kIn,?_⟩) l b;exact rN F d i hd j c r q
theorem wO(d:PE X o ta)(c:zJ X.K C)(hm:bB X.K C m f)(F:aF X.prog X.w X.K X.mg X.base CX k f fd ps sp)(e:cR k X.A)(g:Binds X.K fd ps ds)(hd:Vals Zl ds)(i:rV CX X E)(j:eval (.Call (.Attribute o m Ze) [] [] pos) X.env=(do
   let ov←eval o X.env
   aa2 Ze.atName
   let (f,first)←holding [ov] (getMethod ov m pl)
   callWith pos f first (backTo pos (starEach [] X.env)) (backToKw pos (keywordEach [] X.env))):=by rfl):
  PE X (.Call (.Attribute o m Ze) [] [] pos) (PR C m sp Zl E ta Bd):=by
 intro n s σ H Q I h;refine Xc (pl:=pl) (cz (d n s σ H _ I h) λu v p=>?_) j;obtain⟨x,w,b,r,a,y,fs,ex,t,l,q⟩:=p;subst ex;obtain rfl:u=YA a:=r;refine jy b t c hm l ?_;exact ade (first:=[.ref a]) b.kIn hm.kp (rN (us:=[.ref a]) (vs:=[.ref a]) F e g hd i b (.cons rfl .nil) q)
structure Mk(K:Yc)(C f:Ye):Prop where
 makes:aeg K C=true
 init:YZ K (.ref C) "__init__"=Ya (Ya (.ref f))
 fn:adm K (.ref f)=true
 kp:Xl K (.ref C)=true
theorem LH{Q:VK}(M:Mk X.K C f)(F:aF X.prog X.w X.K X.mg X.base CX k f fd ps sp)(g:cR (k+ 1) X.A)(i:Binds X.K fd ps ds)(hd:Vals Zl ds)(j:rV CX X E)(I:aM X Za σ H s)(r:Vals vs us)(h:∀x dx,H x=Yb->H dx=Yb->dx≠x->sp (.ref x::(vs++Zl)) (upd (upd H dx (.own x)) x (.ins C dx [])) (λv l=>v=.non/\Q (.ref x) l) E):
  Yo (model X.prog X.w) X.A (call (.ref C) us) (EP X Za σ Q) X.xe s:=by
 have c:=h (s.heap.objs.size+ 1) s.heap.objs.size (I.hok.fresh (Xh _)) (I.hok.fresh (Yj _)) (YE (Xv _));have b:=aM.made (C:=C) I;have d:Vals (V.ref (s.heap.objs.size+ 1)::(vs++Zl)) (YA (s.heap.objs.size+ 1)::(us++ds)):=.cons rfl (r.append hd);have hl:(YA (s.heap.objs.size+ 1)::us++ds).length=ps.length:=by
  have e:=d.length;rw[F.len _ _ _ _ c]at e;exact e.symm
 refine aa9 (Me (f:=f) I.kIn M.makes M.init (beq_iff_eq.mp M.fn) (codeAny_mono (F.run _ X.stack _ _ ⟨YA (s.heap.objs.size+ 1)::us,[]⟩ (YA (s.heap.objs.size+ 1)::(us++ds)) _ _ E (g.make C us [])
  (b.env0.make C us []) (i _ (YA (s.heap.objs.size+ 1)::us) b.kIn hl) d c) λr s' a=>?_))
 cases r with
 |error e=>exact j Za σ _ _ e s' b a
 |ok fl=>
  cases fl with
  |ret u=>
   obtain⟨v,m,n,o,p,q⟩:=b.after a;subst p;exact⟨o,⟨V.ref (s.heap.objs.size+ 1),m,n,rfl,q⟩⟩
  |next=>exact Wu a
  |brk=>exact Wu a
  |cont=>exact Wu a
theorem qd(M:Mk X.K C f)(F:aF X.prog X.w X.K X.mg X.base CX k f fd ps sp)(d:cR (k+ 1) X.A)(g:Gl X x)(hm:X.mg x=Ya (.ref C))(i:Binds X.K fd ps ds)(hd:Vals Zl ds)(j:rV CX X E)
  (ha:PA X (e::es) t) (a:(x==("__debug__":Yn))=false:=by decide) (l:starEach (e::es) X.env=(false,eval e X.env)::starEach es X.env:=by rfl) (b:(backTo pos (starEach es X.env)).any (·.1)=false:=by rfl):
  PE X (.Call (.Name x p) (e::es) [] pos) (PH C sp Zl E t):=by
 intro m s σ H Q I h;refine WT (my I g hm ?_ a);refine XB (h₀:=X.base) I.ok.mod.kin M.kp (cz (ha pos m s σ H _ I h) λn o ⟨u,v,c,r,q⟩=>⟨c.kIn,?_⟩) l b;exact LH M F d i hd j c r q
end
def PK(X:Cx)(b:List aa3)(t:TA):Prop:=
 ∀(pos:Xr) (a:List (Ye×Y9)) (s:Yl) (σ:St) (H:Hp) (Q:List V->Hp->Prop),aM X a σ H s->t σ H Q->Yo (model X.prog X.w) X.A (evalAll ((backToKw pos (keywordEach b X.env)).map (·.2))) (AP X a σ Q) X.xe s
section
variable{f:Ye}{ks:List Yn}{E:XK}{kpos:Xr}{o:Y2}{Zn:List aa3}{t tk:TA}{nm:Option Yn}
theorem SS:PK X [] Bd:=λ_ _ _ _ H Q I h=>wpAny_evalAll_nil ⟨[],H,I,.nil,h⟩
theorem ND(ha:PE X e te)(b:PK X Zn t):PK X (⟨nm,e,kpos⟩::Zn) (yn te t):=by
 intro pos a s σ H Q I h;show Yo _ _ (evalAll ((do let v←eval e X.env;aa2 pos;pure v)::(backToKw pos (keywordEach Zn X.env)).map (·.2))) _ _ s;refine wpAny_evalAll_cons (wpAny_bind (cz (ha a s σ H _ I h) λu c ⟨x,d,f,g,i⟩=>wpAny_bind (wpAny_standAt (wpAny_pure ?_))));exact cz (b pos a c σ d _ f i) λo p ⟨j,k,l,m,n⟩=>⟨x::j,k,l,.cons g m,n⟩
variable{g:List Yd->List Yd->List Yd}{gV:List V->List V->List V}
end
structure aE(N P:List Yn)(sc:X3):Prop where
 kind:sc.kind=.function
 co:sc.isCoroutine=false
 gen:sc.isGenerator=false
 nd:N.Nodup
 pre:N.take P.length=P
 par:∀x∈P,sc.names.lookup x=Ya .local∨sc.names.lookup x=Ya .cell
 nofree:∀y∈sc.names,y.2≠.free
theorem Ab{kindOf:Yn->Option aaZ}{x:Yn}:∀{binds:List (Yn×Yd)} {m:Yn->Option Yd},(∀v,(x,v)∉binds)->bindL kindOf binds m x=m x
 |[],_,_=>rfl
 |(n,v)::r,m,h=>by
  unfold bindL;rw[Ab λw hw=>h w (Yp _ hw)];split
  ·have:x≠n:=by rintro rfl;exact h v Ys
   simp[this]
  ·rfl
theorem Ae{kindOf:Yn->Option aaZ}{x:Yn}:∀{binds:List (Yn×Yd)} {m:Yn->Option Yd},(∀v,(x,v)∉binds)->bindC kindOf binds m x=m x
 |[],_,_=>rfl
 |(n,v)::r,m,h=>by
  unfold bindC;rw[Ae λw hw=>h w (Yp _ hw)];split
  ·rfl
  ·have:x≠n:=by rintro rfl;exact h v Ys
   simp[this]
theorem Ak{kindOf:Yn->Option aaZ}{x:Yn}{v:Yd}:∀{P:List Yn} {vs:List Yd} {i:Nat} {m:Yn->Option Yd},P.Nodup->P[i]?=Ya x->vs[i]?=Ya v->kindOf x=Ya .local->
  bindL kindOf (P.zip vs) m x=Ya v
 |[],_,_,_,_,h,_,_=>by simp at h
 |_::_,[],_,_,_,_,h,_=>by simp at h
 |p::P,w::vs,0,m,nd,h1,h2,hk=>by
  simp at h1 h2;subst h1;subst h2;show bindL kindOf ((p,w)::P.zip vs) m p=_;unfold bindL;rw[Ab λv a=>(tq.mp nd).1 (X4 a).1,if_pos hk];simp
 |p::P,w::vs,i+ 1,m,nd,h1,h2,hk=>by
  show bindL kindOf ((p,w)::P.zip vs) m x=_;unfold bindL;exact Ak (i:=i) (tq.mp nd).2 (by simpa using h1) (by simpa using h2) hk
theorem Ai{kindOf:Yn->Option aaZ}{x:Yn}{v:Yd}:∀{P:List Yn} {vs:List Yd} {i:Nat} {m:Yn->Option Yd},P.Nodup->P[i]?=Ya x->vs[i]?=Ya v->kindOf x≠Ya .local->
  bindC kindOf (P.zip vs) m x=Ya v
 |[],_,_,_,_,h,_,_=>by simp at h
 |_::_,[],_,_,_,_,h,_=>by simp at h
 |p::P,w::vs,0,m,nd,h1,h2,hk=>by
  simp at h1 h2;subst h1;subst h2;show bindC kindOf ((p,w)::P.zip vs) m p=_;unfold bindC;rw[Ae λv a=>(tq.mp nd).1 (X4 a).1,if_neg hk];simp
 |p::P,w::vs,i+ 1,m,nd,h1,h2,hk=>by
  show bindC kindOf ((p,w)::P.zip vs) m x=_;unfold bindC;exact Ai (i:=i) (tq.mp nd).2 (by simpa using h1) (by simpa using h2) hk
def start(N:List Yn)(vs:List V):St:=vs.map Ya++aew (N.length-vs.length) Yb
def nX(CX:LV)(P:YO)(w:YW)(K:Yc)(mg:Yn->Option Yd)(base:YK)(N:List Yn)(c:Yn)(a:X3)(f:Ye)(d:Yd)(A:nh)(outer:List aad)(s:Yl)(H:Hp)(E:XK):Cx where
 prog:=P
 w:=w
 K:=K
 mg:=mg
 base:=base
 A:=A.deeper (envOfC c a s.heap.objs.size f d)
 N:=N
 s₀:=s
 H₀:=H
 env:=envOfC c a s.heap.objs.size f d
 outer:=outer
 stack:=envOfC c a s.heap.objs.size f d::outer
 ex:=[]
 calm:=true
 fn:=λ_=>true
 pn:=[]
 xe:=λe s'=>Yo (model P w) (A.deeper (envOfC c a s.heap.objs.size f d)) (leaving (envOfC c a s.heap.objs.size f d) e) (λ_ b=>CX outer H s E e b) (λg b=>CX outer H s E g b) s'
theorem CH{sc:X3}(h:sc.names.lookup x=Ya .cell):∃c,(cellsFrom n sc.names []).lookup x=Ya c:=by
 have q:=acy sc.names n [] (.inl h);exact aaE.mp q
theorem HQ{K:Yc}{base:YK}{f:Ye}{m:Yd}{t:Yl}{E:XK}(S:aE N ps scope)(hd:A.handled=Yb)(d:Ex P w K mg base A outer s H)(hl:vs.length=ps.length)(r:Vals vs us)(x:InCallC s s.heap.objs.size (bindL (envOfC Zb scope s.heap.objs.size f m).kindOf (ps.zip us) λ_=>Yb) (cellsFrom (s.heap.objs.size+ 1) scope.names []) (bindC (envOfC Zb scope s.heap.objs.size f m).kindOf (ps.zip us) λ_=>Yb) t):
  aM (nX CX P w K mg base N Zb scope f m A outer s H E) [] (start N vs) H t:=by
 have D:ps.length<=N.length:=by have:=congrArg abv S.pre;rw[Y8]at this;omega
 obtain⟨h1,tk,rfl,B⟩:=x.done;have g:∀b:Ye,b∉(nX CX P w K mg base N Zb scope f m A outer s H E).ex:=λb z=>absurd (show b∈([]:List Ye)from z) (by simp);refine⟨⟨d.mod,S.kind,rfl,rfl,Yj _,λy z c h1 h2=>?_,λy j=>?_,λy c _ h=>?_,λ_=>hd,Around.frames_deeper d.frames,.inr ⟨rfl,rfl⟩,λb z=>absurd z (g b),d.bs,d.bsz,λb _ _=>g b,λb z=>absurd z (g b),d.funs,d.frf⟩,
  rfl,d.bare,Un.kept B,⟨_,x.toInCall.ns,λi y v h1 h2 h3=>?_⟩,λy c h=>⟨_,x.cell y c h⟩,d.hok.fresh (Yj _),λy c h=>?_,λp hp=>absurd (show p∈([]:List (Ye×Y9))from hp) (by simp),d.hok.kept B,?_⟩
 ·exact name_of_addr x.apart (WR h1) (WR h2)
 ·have j:scope.names.lookup y=Ya .cell∨scope.names.lookup y=Ya .free:=j;rcases j with j|j
  ·exact CH j
  ·exact absurd rfl (S.nofree _ (WR j))
 ·exact pe (x.above y c (WR h))
 ·have o:i<vs.length:=by
   unfold start at h2;by_cases o:i<vs.length
   ·exact o
   ·rw[W9 (by simpa using o)]at h2;rw[List.getElem?_replicate]at h2;split at h2<;>cases h2
  have ha:vs[i]?=Ya v:=by
   unfold start at h2;rw[Xf (by simpa using o),Yv]at h2;cases e:vs[i]? with
   |none=>rw[e]at h2;cases h2
   |some a=>rw[e]at h2;cases h2;rfl
  obtain⟨u,C,F⟩:=r.get ha;have hp:ps[i]?=Ya y:=by
   rw[←S.pre,List.getElem?_take_of_lt (by omega)];exact h1
  have l:ps.Nodup:=by rw[←S.pre];exact S.nd.sublist (aaf _ _)
  refine⟨u,F,?_⟩;rcases S.par y (Yy hp)with k|k
  ·exact .inl ⟨k,Ak l hp C k⟩
  ·obtain⟨c,e⟩:=CH (n:=s.heap.objs.size+ 1) k;refine .inr ⟨.inl k,c,e,?_⟩;have q:=x.cell y c e;rw[Ai l hp C (by show scope.names.lookup y≠_;rw[k];decide)]at q;exact q
 ·exact d.hok.fresh (pe (x.above y c (WR h)))
 ·unfold start;show _=N.length;rw[Yq,Yf,acI];omega
theorem JJ{K:Yc}{base:YK}{f:Ye}{c:Arguments}{D kV h F a ct R:Yd}{G od:Option Ye}{m:Array (Option Yd)}(lk:K.lookup f=Ya ⟨R,od,.func (WS name Zb c Zq scope D kV h F G a ct),m⟩)(p:aaO K a Zb=true)(S:aE N ps scope)(len:∀vs H Q E,sp vs H Q E->vs.length=ps.length)(d:∀(A:nh) (outer:List aad) (s:Yl) (H:Hp) (vs:List V) (Q:VK) (E:XK),cR k (A.deeper (envOfC Zb scope s.heap.objs.size f a))->sp vs H Q E->
   ∃t,BA (nX CX P w K mg base N Zb scope f a A outer s H E) Zq t/\t {nx:=λ_ H'=>Q .non H',rt:=Q} (start N vs) H):
  aF P w K mg base CX (k+ 1) f (WS name Zb c Zq scope D kV h F G a ct) ps sp:=by
 refine⟨len,λA outer s H L T vs Q E z i U r j=>?_⟩;have hl:=len _ _ _ _ j;have M:K.In s.heap:=i.mod.kin.keeps λb o e=>(i.bs b o e).1;have B:s.heap.NoLimit:=i.mod.nolimit.keeps λb o e=>(i.bs b o e).1;have g:∀y∈ps.zip T,scope.names.lookup y.1=Ya .local∨(scope.names.lookup y.1=Ya .cell/\((cellsFrom (s.heap.objs.size+ 1) scope.names []).lookup y.1).isSome=true):=fun⟨n,v⟩ W=>by
  rcases S.par n (X4 W).1 with q|q
  ·exact .inl q
  ·exact .inr ⟨q,acy _ _ _ (.inl q)⟩
 refine codeAny_call_function z.depth (M _ _ lk) rfl S.co S.gen rfl (PySem.W.codeRec_of M p) (U _ _ _ _ ?_);refine wpAny_newFunctionEnv_cells S.kind g λenv X O x=>?_;subst X;refine⟨B.keeps x.toInCall.keep,codeAny_func ?_⟩;obtain⟨t,Y,Z⟩:=d A outer s H vs Q E (z.deeper _) j;have I:aM (nX CX P w K mg base N Zb scope f a A outer s H E) [] (start N vs) H O:=HQ S z.hd i hl r x;refine wpAny_mono (Y [] O (start N vs) H _ I Z) (λfl s' hs=>?_) λe s' hs=>hs;have fin:∀{l:St} {H':Hp} {v:V} {u:Yd},aM (nX CX P w K mg base N Zb scope f a A outer s H E) [] l H' s'->RelV v u->Q v H'->CE outer P w H s Q u s':=
  fun{l H' v u} J C q=>⟨v,H',J.os,J.bare,J.base,J.hok,C,q⟩
 cases fl with
 |ret u=>
  obtain⟨v,l,H',J,C,q⟩:=hs;exact fin J C q
 |next=>
  obtain⟨l,H',J,q⟩:=hs;exact fin (v:=V.non) (u:=WL) J rfl q
 |brk=>
  obtain⟨_,_,_,q⟩:=hs;exact Wu q
 |cont=>
  obtain⟨_,_,_,q⟩:=hs;exact Wu q
section
variable{t:TA}{id:String}{r:List V->Hp->VK->Prop}
def VH(r:List V->Hp->VK->Prop)(t:TA):TE:=λσ H Q=>t σ H λa b=>r a b Q
theorem bj(d:dh X (.builtin id) r)(f:Gl X x)(hm:X.mg x=Yb)(g:Xk x=Ya (.builtin id))(ha:PA X (e::es) t)(hn:x≠"__name__":=by decide)(a:(x==("__debug__":Yn))=false:=by decide)
  (i:starEach (e::es) X.env=(false,eval e X.env)::starEach es X.env:=by rfl) (b:(backTo pos (starEach es X.env)).any (·.1)=false:=by rfl):PE X (.Call (.Name x p) (e::es) [] pos) (VH r t):=by
 intro c s σ H Q I h;refine WT (pR I f hm g ?_ hn a);exact aeh (cz (ha pos c s σ H _ I h) λj k ⟨l,m,n,o,q⟩=>d c k σ m l j Q n o q) i b
theorem bO(d:dh X (.type T) r)(f:Gl X x)(hm:X.mg x=Yb)(g:Xk x=Ya (.type T))(ha:PA X (e::es) t)(hn:x≠"__name__":=by decide)(a:(x==("__debug__":Yn))=false:=by decide)
  (i:starEach (e::es) X.env=(false,eval e X.env)::starEach es X.env:=by rfl) (b:(backTo pos (starEach es X.env)).any (·.1)=false:=by rfl):PE X (.Call (.Name x p) (e::es) [] pos) (VH r t):=by
 intro c s σ H Q I h;refine WT (pR I f hm g ?_ hn a);exact aan (cz (ha pos c s σ H _ I h) λj k ⟨l,m,n,o,q⟩=>d c k σ m l j Q n o q) i b
end
section
variable{κ:Type}[DecidableEq κ]
def d3(kvs:List (κ×V))(k:κ):Option V:=(kvs.find? λa=>decide (a.1=k)).map (·.2)
def gy(kvs:List (κ×V))(k:κ)(v:V):List (κ×V):=
 if(kvs.any λa=>decide (a.1=k))=true then kvs.map (λa=>if a.1=k then(a.1,v)else a)else kvs++[(k,v)]
theorem dw{p:κ×V}{r:List (κ×V)}{k:κ}(e:p.1=k):d3 (p::r) k=Ya p.2:=by simp[d3,XH,e]
theorem dq{p:κ×V}{r:List (κ×V)}{k:κ}(e:¬ p.1=k):d3 (p::r) k=d3 r k:=by simp[d3,XH,e]
theorem pM(k:κ):∀kvs:List (κ×V),(kvs.any λa=>decide (a.1=k))=(d3 kvs k).isSome
 |[]=>rfl
 |p::r=>by
  rw[X1];by_cases e:p.1=k
  ·simp only[dw e,decide_eq_true e,Bool.true_or,Option.isSome_some]
  ·rw[dq e,decide_eq_false e,abF];exact pM k r
theorem DX(k j:κ)(y:V):∀kvs:List (κ×V),d3 (kvs.map λa=>if a.1=k then(a.1,y)else a) j=(d3 kvs j).map λx=>if j=k then y else x
 |[]=>rfl
 |p::r=>by
  have b:=DX k j y r;rw[Yz];by_cases h:p.1=k
  ·rw[if_pos h];by_cases e:p.1=j
   ·rw[dw (p:=(p.1,y)) e,dw e,XI,if_pos (e.symm.trans h)]
   ·rw[dq (p:=(p.1,y)) e,dq e,b]
  ·rw[if_neg h];by_cases e:p.1=j
   ·rw[dw (p:=p) e,dw e,XI,if_neg (λz=>h (e.trans z))]
   ·rw[dq (p:=p) e,dq e,b]
theorem z6(k j:κ)(y:V):∀kvs:List (κ×V),d3 kvs k=Yb->d3 (kvs++[(k,y)]) j=if j=k then Ya y else d3 kvs j
 |[],_=>by
  by_cases e:k=j
  ·rw[if_pos e.symm];exact dw (p:=(k,y)) e
  ·rw[if_neg (λz=>e z.symm)];exact dq (p:=(k,y)) e
 |p::r,hn=>by
  rw[List.cons_append];have a:¬ p.1=k:=λz=>by rw[dw z]at hn;cases hn
  rw[dq a]at hn;have b:=z6 k j y r hn;by_cases e:p.1=j
  ·rw[dw e,dw e,if_neg (λz=>a (e.trans z))]
  ·rw[dq e,dq e,b]
theorem KH(kvs:List (κ×V))(k j:κ)(y:V):d3 (gy kvs k y) j=if j=k then Ya y else d3 kvs j:=by
 unfold gy;by_cases a:(kvs.any λb=>decide (b.1=k))=true
 ·rw[if_pos a,DX];rw[pM]at a;by_cases e:j=k
  ·obtain⟨x,c⟩:=aaE.mp a;rw[if_pos e,e,c,XI,if_pos rfl]
  ·rw[if_neg e];cases d3 kvs j with
   |none=>rfl
   |some x=>rw[XI,if_neg e]
 ·rw[if_neg a];refine z6 k j y kvs ?_;rw[pM]at a;cases q:d3 kvs k with
  |none=>rfl
  |some x=>rw[q]at a;exact(a rfl).elim
theorem oa(kvs:List (κ×V))(k:κ)(v:V):(gy kvs k v).length<=kvs.length+ 1:=by
 unfold gy;split
 ·rw[Yf];omega
 ·rw[Yq,cw,W0];omega
theorem ku.isSome_eq{o:Option V}{u:Option Yd}(r:ku o u):o.isSome=u.isSome:=by
 cases o with
 |none=>cases u with
  |none=>rfl
  |some _=>exact(show False from r).elim
 |some _=>cases u with
  |none=>exact(show False from r).elim
  |some _=>rfl
theorem ku.getD{o:Option V}{u:Option Yd}{d':Yd}(r:ku o u)(rd:RelV d d'):RelV (o.getD d) (u.getD d'):=by
 cases o with
 |none=>cases u with
  |none=>exact rd
  |some _=>exact(show False from r).elim
 |some _=>cases u with
  |none=>exact(show False from r).elim
  |some _=>exact r
theorem KV.val{kvs:List (κ×V)}{vs:List (κ×Yd)}(r:KV kvs vs)(k:κ):ku (d3 kvs k) (valueAt vs k):=by
 unfold KV at r
 induction r with
 |nil=>exact W7
 |@cons p q ps qs h t ih=>
  obtain⟨h1,h2⟩:=h;by_cases e:p.1=k
  ·have a:q.1=k:=h1.symm.trans e;have b:valueAt (q::qs) k=Ya q.2:=by simp[valueAt,XH,a]
   rw[dw e,b];exact h2
  ·have a:¬ q.1=k:=λz=>e (h1.trans z);have b:valueAt (q::qs) k=valueAt qs k:=by simp[valueAt,XH,a]
   rw[dq e,b];exact ih
theorem KV.any{kvs:List (κ×V)}{vs:List (κ×Yd)}(r:KV kvs vs)(k:κ):(kvs.any λa=>decide (a.1=k))=vs.any λa=>decide (a.1=k):=by
 unfold KV at r
 induction r with
 |nil=>rfl
 |cons h t ih=>rw[X1,X1,ih,h.1]
theorem KV.repl{kvs:List (κ×V)}{vs:List (κ×Yd)}(r:KV kvs vs)(k:κ)(b:RelV y u):
  KV (kvs.map λa=>if a.1=k then(a.1,y)else a) (vs.map λa=>if a.1=k then(a.1,u)else a):=by
 unfold KV at r⊢
 induction r with
 |nil=>exact .nil
 |@cons p q ps qs h t ih=>
  rw[Yz,Yz];refine .cons ?_ ih;obtain⟨h1,h2⟩:=h;by_cases e:p.1=k
  ·rw[if_pos e,if_pos (h1.symm.trans e)];exact⟨h1,b⟩
  ·rw[if_neg e,if_neg (λz=>e (h1.trans z))];exact⟨h1,h2⟩
theorem KV.put{kvs:List (κ×V)}{vs:List (κ×Yd)}(r:KV kvs vs)(k:κ)(a:RelV y u):KV (gy kvs k y) (stored vs k u):=by
 unfold gy stored;rw[r.any k];by_cases e:(vs.any λb=>decide (b.1=k))=true
 ·rw[if_pos e,if_pos e];exact r.repl k a
 ·rw[if_neg e,if_neg e];exact ae6 r ⟨rfl,a⟩
theorem KV.length{kvs:List (κ×V)}{vs:List (κ×Yd)}(r:KV kvs vs):kvs.length=vs.length:=Y0 r
end
theorem yE{k:bK}(r:RelV (kV k) u):(aZ P w).is k u=true:=by
 cases k with
 |inl i=>obtain⟨t,e⟩:=(show∃t,u=Xz i t from r);subst e;exact pB P w i t
 |inr x=>obtain⟨t,e⟩:=(show∃t,u=acr x t from r);subst e;exact D6 P w x t
theorem zQ{P:YO}{w:YW}:∀{ks:List bK} {us:List Yd},Vals (ks.map kV) us->ItemsAre (aZ P w) ks us
 |[],_,r=>by rw[aaF]at r;cases r;exact .nil
 |k::ks,_,r=>by
  rw[Yz]at r;cases r with
  |cons h t=>exact .cons (yE h) (zQ t)
abbrev KT(H:Hp):List (List bK×V)->List (List bK×Ye×Yd)->Prop:=Paired λp q=>p.1=q.1/\H q.2.1=Ya (.tup (p.1.map kV))/\RelV p.2 q.2.2
theorem KT.val(r:KT H kvs xs)(k:List bK):ku (d3 kvs k) ((atKey xs k).map (·.2)):=by
 induction r with
 |nil=>exact W7
 |@cons p q ps qs h t ih=>
  obtain⟨h1,_,h2⟩:=h;by_cases e:p.1=k
  ·have a:q.1=k:=h1.symm.trans e;have b:atKey (q::qs) k=Ya q.2:=by simp[atKey,XH,a]
   rw[dw e,b];exact h2
  ·have a:¬ q.1=k:=λz=>e (h1.trans z);have b:atKey (q::qs) k=atKey qs k:=by simp[atKey,XH,a]
   rw[dq e,b];exact ih
theorem KT.repl(r:KT H kvs xs)(k:List bK)(b:RelV y u):
  KT H (kvs.map λa=>if a.1=k then(a.1,y)else a) (xs.map (putAt k u)):=by
 induction r with
 |nil=>exact .nil
 |@cons p q ps qs h t ih=>
  rw[Yz,Yz];refine .cons ?_ ih;obtain⟨h1,h2,h3⟩:=h;unfold putAt;by_cases e:p.1=k
  ·rw[if_pos e,if_pos (h1.symm.trans e)];exact⟨h1,h2,b⟩
  ·rw[if_neg e,if_neg (λz=>e (h1.trans z))];exact⟨h1,h2,h3⟩
theorem KT.put(r:KT H kvs xs)(k:List bK)(c:H b=Ya (.tup (k.map kV)))(a:RelV y u):
  KT H (gy kvs k y) (storedH xs k b u):=by
 have e:(kvs.any λd=>decide (d.1=k))=(atKey xs k).isSome:=by
  rw[pM,(r.val k).isSome_eq,abR]
 unfold gy storedH;rw[e];by_cases q:(atKey xs k).isSome=true
 ·rw[if_pos q,if_pos q];exact r.repl k a
 ·rw[if_neg q,if_neg q];exact ae6 r ⟨rfl,c,a⟩
theorem KT.keeps(r:KT H kvs xs)(a:∀b ys,H b=Ya (.tup ys)->H' b=Ya (.tup ys)):KT H' kvs xs:=
 Paired.mapP r λ_ _ z=>⟨z.1,a _ _ z.2.1,z.2.2⟩
section
theorem PU{u:HO}(ok:lO P w H h)(e:Rd H a u):bZ P w H h a u:=e.ok ok
theorem iB{kvs:List (bK×V)}(ok:lO P w H h)(e:Rd H a (.dK kvs)):kvs.length<=sizeLine/\(a==RW)=false/\∃vs,KV kvs vs/\h.DictOf (aZ P w) a vs:=
 show bZ P w H h a (.dK kvs)from PU ok e
theorem G6{kvs:List (bK×V)}(ok:lO P w H h)(e:H a=Ya (.dK kvs)):kvs.length<=sizeLine/\(a==RW)=false/\∃vs,KV kvs vs/\h.DictOf (aZ P w) a vs:=iB ok (.inl e)
theorem key_of{ks:List bK}(ok:lO P w H h)(e:H a=Ya (.tup (ks.map kV))):(tupleKind (aZ P w)).is h ks a:=by
 obtain⟨_,b,r,o,h1,h2,n,h3⟩:=(show bZ P w H h a (.tup (ks.map kV))from ok a _ e);exact⟨o,b.toArray,n,h1,h2,h3.1,by simpa using zQ r⟩
theorem qF(ok:lO P w H h)(e:Rd H a (.dT kvs)):kvs.length<=sizeLine/\(a==RW)=false/\
  ∃xs,KT H kvs xs/\h.DictOfH (tupleKind (aZ P w)) a xs:=by
 obtain⟨z,y,xs,r,o,c,d,h1,h2,h3,h4,h5⟩:=(show bZ P w H h a (.dT kvs)from PU ok e);refine⟨z,y,xs,r,o,c,d,h1,h2,h3,h4,λx b=>?_,h5⟩;have all:∀{l:List (List bK×V)} {m:List (List bK×Ye×Yd)},KT H l m->∀x∈m,(tupleKind (aZ P w)).is h x.1 x.2.1:=by
  intro l m q
  induction q with
  |nil=>intro x b;exact nomatch b
  |@cons p q ps qs hq t ih=>
   intro x b;rcases Ym.mp b with e|b
   ·subst e;exact key_of ok (by rw[←hq.1];exact hq.2.1)
   ·exact ih x b
 exact all r x b
theorem Ud(ok:lO P w H h)(e:H a=Ya (.dT kvs)):kvs.length<=sizeLine/\(a==RW)=false/\
  ∃xs,KT H kvs xs/\h.DictOfH (tupleKind (aZ P w)) a xs:=qF ok (.inl e)
end
def iy(H:Hp)(a:Ye)(y:V)(r:Option V):Prop:=
 (∃c k,Rd H a (.dK c)/\y=kV k/\r=d3 c k)∨∃c k b,Rd H a (.dT c)/\y=.ref b/\H b=Ya (.tup (k.map kV))/\r=d3 c k
def y6(H:Hp)(a:Ye)(y v:V)(d:Hp):Prop:=
 (∃c k,H a=Ya (.dK c)/\y=kV k/\c.length<sizeLine/\d=upd H a (.dK (gy c k v)))∨
 ∃c k b,H a=Ya (.dT c)/\y=.ref b/\H b=Ya (.tup (k.map kV))/\c.length<sizeLine/\d=upd H a (.dT (gy c k v))
theorem iy.t{k:List bK}(e:H a=Ya (.dT kvs))(c:H b=Ya (.tup (k.map kV))):iy H a (.ref b) (d3 kvs k):=.inr ⟨kvs,k,b,.inl e,rfl,c,rfl⟩
theorem y6.t{k:List bK}(e:H a=Ya (.dT kvs))(c:H b=Ya (.tup (k.map kV)))(hl:kvs.length<sizeLine):
  y6 H a (.ref b) v (upd H a (.dT (gy kvs k v))):=.inr ⟨kvs,k,b,e,rfl,c,hl,rfl⟩
section
variable{r:Yd}{o:Option V}
theorem aM.big(I:aM X Za σ H s):RW<s.heap.objs.size:=by
 have h:Y5<s.heap.objs.size:=(I.mod.glob.keeps I.bk).lt;exact ab1 (by decide) h
theorem HL(n:A.units+ 1<Wy)(I:aM X Za σ H s)(g:iy H a y (Ya v))(m:RelV y u)(h:∀w' s',aM X Za σ H s'->RelV v w'->Q w' s'):
  Yo (model X.prog X.w) A (getItem (.ref a) u) Q E s:=by
 rcases g with⟨f,k,e,i,l⟩|⟨f,k,b,e,i,q,l⟩
 ·subst i;obtain⟨z,hd,r,c,dd⟩:=iB I.hok e;obtain⟨w',hw,d⟩:=ku.some_of (v:=v) (o:=valueAt r k) (by rw[l];exact c.val k);exact wpAny_getItem_of (yE m) dd.mapOf hw (h w' _ (I.tok _) d)
 ·subst i;cases (show u=YA b from m);obtain⟨z,hd,t,c,dd⟩:=qF I.hok e;obtain⟨w',hw,d⟩:=ku.some_of (v:=v) (o:=(atKey t k).map (·.2)) (by rw[l];exact c.val k);obtain⟨p,hp,j⟩:=X8.mp hw;refine wpAny_getItem_heap (tupleKind_room_in1 n) (key_of I.hok q) dd hp ?_;rw[j];exact h w' _ (I.tok _) d
theorem VR(j:A.units+ 1<Wy)(I:aM X Za σ H s)(g:iy H a y o)(i:RelV y u)(h:∀s',aM X Za σ H s'->Q (.bool o.isSome) s'):
  Yo (model X.prog X.w) A (compareOp .In u (.ref a)) Q E s:=by
 rcases g with⟨d,k,e,f,l⟩|⟨d,k,b,e,f,m,l⟩
 ·subst f;obtain⟨z,hd,n,c,dd⟩:=iB I.hok e;refine wpAny_in_of (yE i) hd dd.mapOf ?_;rw[←(c.val k).isSome_eq,←l];exact h _ (I.tok _)
 ·subst f;cases (show u=YA b from i);obtain⟨z,hd,p,c,dd⟩:=qF I.hok e;refine wpAny_in_heap (tupleKind_room_in1 j) (key_of I.hok m) hd dd ?_;have q:=(c.val k).isSome_eq;rw[abR]at q;rw[←q,←l];exact h _ (I.tok _)
theorem Ng(j:A.units+ 1<Wy)(I:aM X Za σ H s)(g:iy H a y o)(i:RelV y u)(h:∀s',aM X Za σ H s'->Q (.bool (!o.isSome)) s'):
  Yo (model X.prog X.w) A (compareOp .NotIn u (.ref a)) Q E s:=by
 rcases g with⟨d,k,e,f,l⟩|⟨d,k,b,e,f,m,l⟩
 ·subst f;obtain⟨z,hd,n,c,dd⟩:=iB I.hok e;refine wpAny_notIn_of (yE i) hd dd.mapOf ?_;rw[←(c.val k).isSome_eq,←l];exact h _ (I.tok _)
 ·subst f;cases (show u=YA b from i);obtain⟨z,hd,p,c,dd⟩:=qF I.hok e;refine wpAny_notIn_heap (tupleKind_room_in1 j) (key_of I.hok m) hd dd ?_;have q:=(c.val k).isSome_eq;rw[abR]at q;rw[←q,←l];exact h _ (I.tok _)
theorem GW{ob:HO}(I:aM X Za σ H s)(c:U0 (H a))(hs:Wt a s.heap h')(d:∃q,h'.get? a=Ya q)(new:bZ X.prog X.w (upd H a ob) h' a ob):
  aM X Za σ (upd H a ob) {s with heap:=h',toks:=t'}:=
 I.write (x:=a) (e:=a) c (.inl rfl) (λb q f z=>(hs.2 b f).trans z) d new
theorem AJ{kvs:List (bK×V)}{vs:List (bK×Yd)}(z:kvs.length<=sizeLine)(hd:(a==RW)=false)(b:KV kvs vs)(dd:h'.DictOf (aZ P w) a vs):
  bZ P w H' h' a (.dK kvs):=⟨z,hd,vs,b,dd⟩
theorem Iy{Q:Unit->Yl->Prop}(C:A.units+ 1<Wy)(I:aM X Za σ H s)(g:y6 H a y v H')(p:RelV y u)(t:RelV v r)(h:∀s',aM X Za σ H' s'->Q () s'):
  Yo (model X.prog X.w) A (setItem (.ref a) u r) Q E s:=by
 rcases g with⟨d,k,e,m,l,n⟩|⟨d,k,b,e,m,w,l,n⟩
 ·subst m n;obtain⟨z,hd,D,f,dd⟩:=G6 I.hok e;have o:D.length<=sizeLine:=by rw[←f.length];exact z
  have hl:(gy d k v).length<=sizeLine:=by have:=oa d k v;omega
  refine wpAny_setItem_pairs (hsz:=o) (yE p) dd λx i hs=>h _ ?_;have F:∃q,x.get? a=Ya q:=let ⟨q,_,_,j,_⟩:=i;⟨q,j⟩;exact GW I (by rw[e];exact W7) hs F (AJ hl hd (f.put k t) i)
 ·subst m n;cases (show u=YA b from p);obtain⟨z,hd,G,f,dd⟩:=Ud I.hok e;have o:G.length<=sizeLine:=by rw[←Y0 f];exact z
  have hl:(gy d k v).length<=sizeLine:=by have:=oa d k v;omega
  refine wpAny_setItem_heap (hsz:=o) (tupleKind_room_in1 C) (key_of I.hok w) dd λx i hs=>h _ ?_;obtain⟨q,J,K,j,h2,h3,h4,_,h5⟩:=i;refine GW I (by rw[e];exact W7) hs ⟨q,j⟩ ⟨hl,hd,_,(f.put k w t).keeps λc L B=>?_,q,J,K,j,h2,h3,h4,h5⟩;rw[ak (bV B e (λz=>nomatch z))];exact B
end
section
variable{kvs:List (bK×V)}{k:bK}
theorem UR(I:aM X Za σ H s)(e:Rd H a (.dK kvs))(h:∀t s',aM X Za σ H s'->Q (.int kvs.length t) s'):Yo (model X.prog X.w) A (call (.builtin "len") [.ref a]) Q E s:=by
 obtain⟨z,hd,c,b,dd⟩:=iB I.hok e;refine call_len_dict hd dd (by rw[←b.length];rw[WU]at z;omega) ?_;rw[←b.length];exact h _ _ (I.tok _)
end
def Us(i:Y2):Prop:=∀a b,subscripted i false a b=afc [a,b] (getItem a b)
theorem O5{a:Y2}{id:String}(hl:typeLookup (.type T) "__getitem__"=pure (Ya (.builtin id)))(hs:Us a)(h:Yo (model prog w) A (eval Zf env) (λo d=>Yo (model prog w) A (eval a env) (λi b=>b.TypeIs o T/\Yo (model prog w) A (getItem o i) Q E b) E d) E s):
  Yo (model prog w) A (eval (.Subscript Zf a pos) env) Q E s:=by
 refine aei (wpAny_mono h (λo d g=>wpAny_mono g (λi b c=>?_) λ_ _ x=>x) λ_ _ x=>x);obtain⟨e,c⟩:=c;unfold subscriptTail;refine wpAny_bind ?_;rw[getitemInPython_of_ne e.not_modules];refine wpAny_bind (wpAny_specialOf e hl ?_);have fin:Yo (model prog w) A (subscripted a false o i) (λr f=>Yo (model prog w) A (letTemporaryGo Zf o r >>= λ_=>pure r) Q E f) E b:=by
  rw[hs o i];exact wpAny_operating (wpAny_mono c (λr f j=>wpAny_bind (wpAny_letTemporaryGo (wpAny_pure j))) λ_ _ x=>x)
 first
  |exact wpAny_pure (wpAny_bind fin)
  |exact wpAny_bind (wpAny_pure (wpAny_bind fin))
  |exact wpAny_bind fin
theorem B7{o:Option V}(I:aM X Za σ H s)(g:iy H a y o):s.TypeIs (.ref a) "dict":=by
 rcases g with⟨c,k,e,_,_⟩|⟨c,k,b,e,_,_,_⟩
 ·obtain⟨_,_,d,_,dd⟩:=iB I.hok e;exact dd.typeIs
 ·obtain⟨_,_,f,_,dd⟩:=qF I.hok e;exact dd.typeIs
def PZ(td ty:TE):TE:=λσ H Q=>td σ H λx c=>ty σ c λy b=>∃a v,x=.ref a/\iy b a y (Ya v)/\Q v b
def Vm(ty td:TE):TE:=λσ H Q=>ty σ H λy c=>td σ c λx b=>∃a o,x=.ref a/\iy b a y o/\Q (.bl o.isSome) b
def Gp(ty td:TE):TE:=λσ H Q=>ty σ H λy c=>td σ c λx b=>∃a o,x=.ref a/\iy b a y o/\Q (.bl (!o.isSome)) b
def Gm(td ty tv:TE):TS:=λD σ H=>tv σ H λv c=>td σ c λx d=>ty σ d λy e=>∃a b,x=.ref a/\y6 e a y v b/\D.nx σ b
section
variable{o i:Y2}
theorem wK(e:X.A.units+ 1<Wy)(ho:PE X o td)(f:PE X i ty)(hs:Us i):PE X (.Subscript o i pos) (PZ td ty):=by
 intro c s σ H Q I h;refine O5 PySem.F.slot_dict_getitem.lookup hs (cz (ho c s σ H _ I h) λu j ⟨x,k,l,m,n⟩=>cz (f c j σ k _ l n) λz A p=>?_);obtain⟨y,q,d,r,a,v,ex,g,t⟩:=p;subst ex;obtain rfl:u=YA a:=m;exact⟨B7 d g,HL e d g r λB C w b=>⟨v,q,w,b,t⟩⟩
theorem JI(c:X.A.units+ 1<Wy)(d:PE X i ty)(ho:PE X o td):PC X .In i o (Vm ty td):=by
 intro b s σ H Q I h;refine cz (d b s σ H _ I h) λw e ⟨y,f,j,k,l⟩=>cz (ho b e σ f _ j l) λu z m=>?_;obtain⟨x,n,p,q,a,r,ex,g,t⟩:=m;subst ex;obtain rfl:u=YA a:=q;exact VR c p g k λA v=>⟨.bl r.isSome,n,v,rfl,t⟩
theorem JC(c:X.A.units+ 1<Wy)(d:PE X i ty)(ho:PE X o td):PC X .NotIn i o (Gp ty td):=by
 intro b s σ H Q I h;refine cz (d b s σ H _ I h) λw e ⟨y,f,j,k,l⟩=>cz (ho b e σ f _ j l) λu z m=>?_;obtain⟨x,n,p,q,a,r,ex,g,t⟩:=m;subst ex;obtain rfl:u=YA a:=q;exact Ng c p g k λA v=>⟨.bl (!r.isSome),n,v,rfl,t⟩
theorem mD(c:X.A.units+ 1<Wy)(ho:PE X o td)(d:PE X i ty)(e:PE X Zf tv)(hs:aa1 Zf (Ya (.Subscript o i Zp)) pos.line X.env=pure false):
  PS X (.Assign [.Subscript o i Zp] Zf pos) (Gm td ty tv):=by
 intro b s σ H D I h;refine wpAny_Assign_Subscript (cz (e b s σ H _ I h) λr f ⟨v,j,k,l,m⟩=>cz (ho b f σ j _ k m) λu n ⟨x,p,q,t,w⟩=>cz (d b n σ p _ q w) λG J z=>?_) hs;obtain⟨y,K,A,B,a,C,ex,g,E⟩:=z;subst ex;obtain rfl:u=YA a:=t;exact Iy c A g B l λL F=>⟨σ,C,F,E⟩
end
theorem LC(h:YK)(a:RW<h.objs.size):bZ P w H (h.push {cls:=.type "dict",data:=.dict #[]}) h.objs.size (.dK []):=
 ⟨Y6 _,beq_eq_false_iff_ne.mpr (cT (YE a)),[],.nil,Heap.DictOf.new h⟩
theorem Ll(h:YK)(a:RW<h.objs.size):bZ P w H (h.push {cls:=.type "dict",data:=.dict #[]}) h.objs.size (.dT []):=
 ⟨Y6 _,beq_eq_false_iff_ne.mpr (cT (YE a)),[],.nil,_,#[],0,Yr _ rfl,⟨rfl,rfl,rfl⟩,rfl,rfl,acJ⟩
def Lz:TE:=λ_ H Q=>∀p,H p=Yb->Q (.ref p) (upd H p (.dK []))
def Sq:TE:=λ_ H Q=>∀p,H p=Yb->Q (.ref p) (upd H p (.dT []))
section
theorem pE:PE X (.Dict [] [] pos) Lz:=λb s σ H Q I h=>
 adW ⟨.ref s.heap.objs.size,_,I.laid (a:=s.heap.objs.size) (o:=.dK []) (t':=s.toks) (λ_ _ q=>Yg _ q) (Yj _) (LC s.heap I.big),rfl,h _ (I.hok.fresh (Yj _))⟩
theorem Ek:PE X (.Dict [] [] pos) Sq:=λb s σ H Q I h=>
 adW ⟨.ref s.heap.objs.size,_,I.laid (a:=s.heap.objs.size) (o:=.dT []) (t':=s.toks) (λ_ _ q=>Yg _ q) (Yj _) (Ll s.heap I.big),rfl,h _ (I.hok.fresh (Yj _))⟩
end
def u9(kvs more:List (bK×V)):List (bK×V):=more.foldl (λa b=>gy a b.1 b.2) kvs
theorem KV.merge:∀{more:List (bK×V)} {rs:List (bK×Yd)} {kvs:List (bK×V)} {vs:List (bK×Yd)},KV more rs->KV kvs vs->KV (u9 kvs more) (merged vs rs):=by
 intro more rs kvs vs r;unfold KV at r
 induction r generalizing kvs vs with
 |nil=>intro q;exact q
 |@cons p q ps qs h t ih=>
  intro a;have e:KV (gy kvs p.1 p.2) (stored vs q.1 q.2):=by
   have:=a.put p.1 h.2;rw[←h.1];exact this
  exact ih e
structure M1(X:Cx)(o:Y2)(m:Yn)(Ze:Xr)(e:Y2)(Zg:Xr):Prop where
 base:W8 o m X.env (eval o X.env)=eval o X.env
 few:((backTo Zg (starEach [e] X.env)).all (λx=>!x.1)&&(backToKw Zg (keywordEach [] X.env)).all (λx=>x.1.isSome)
  &&decide (([e]:List Y2).length+ ([]:List aa3).length+ (if([]:List aa3).isEmpty then 0 else 1)<30))=true
 line:(Ze.endLine==Zg.line)=true
 trees:backTo Zg (starEach [e] X.env)=[(false,eval e X.env)]
structure M2(X:Cx)(o:Y2)(m:Yn)(Ze:Xr)(e f:Y2)(Zg:Xr):Prop where
 base:W8 o m X.env (eval o X.env)=eval o X.env
 few:((backTo Zg (starEach [e,f] X.env)).all (λx=>!x.1)&&(backToKw Zg (keywordEach [] X.env)).all (λx=>x.1.isSome)
  &&decide (([e,f]:List Y2).length+ ([]:List aa3).length+ (if([]:List aa3).isEmpty then 0 else 1)<30))=true
 line:(Ze.endLine==Zg.line)=true
 trees:backTo Zg (starEach [e,f] X.env)=[(false,eval e X.env),(false,eval f X.env)]
def SY(H:Hp)(a:Ye):Prop:=(∃b,Rd H a (.dK b))∨∃b,Rd H a (.dT b)
theorem KO(I:aM X Za σ H s)(d:SY H a):
  s.TypeIs (.ref a) "dict"/\(∀b,YA a=.ref b->∃ob,s.heap.get? b=Ya ob/\ob.dict=Yb)/\(a==RW)=false:=by
 rcases d with⟨c,e⟩|⟨c,e⟩
 ·obtain⟨_,hd,f,_,dd⟩:=iB I.hok e;refine⟨dd.typeIs,λb q=>?_,hd⟩;cases q;obtain⟨ob,_,_,h1,h2,_⟩:=dd;exact⟨ob,h1,h2.2.1⟩
 ·obtain⟨_,hd,g,_,dd⟩:=qF I.hok e;refine⟨dd.typeIs,λb q=>?_,hd⟩;cases q;obtain⟨ob,_,_,h1,h2,_⟩:=dd;exact⟨ob,h1,h2.2.1⟩
section
variable{r:Yd}{o:Option V}
theorem Ry(j:A.units+ 1<Wy)(I:aM X Za σ H s)(g:iy H a y o)(i:RelV y u)(h:∀w' s',aM X Za σ H s'->RelV (o.getD .non) w'->Q w' s'):
  Yo (model X.prog X.w) A (call (.builtin "dict.get") [.ref a,u]) Q E s:=by
 rcases g with⟨d,k,e,f,l⟩|⟨d,k,b,e,f,m,l⟩
 ·subst f;obtain⟨z,hd,p,c,dd⟩:=iB I.hok e;refine aak Xd dd.typeIs X9 (aci _ _) (meets_dict_get (aZ X.prog X.w) a (yE i) hd) ⟨_,dd.mapOf,h _ _ (I.tok _) ?_⟩;rw[l];exact(c.val k).getD rfl
 ·subst f;cases (show u=YA b from i);obtain⟨z,hd,n,c,dd⟩:=qF I.hok e;refine aak Xd dd.typeIs X9 (aci _ _) (meetsH_dict_get (tupleKind (aZ X.prog X.w)) a b hd) ⟨tupleKind_room_in1 j,k,n,key_of I.hok m,dd,h _ _ (I.tok _) ?_⟩;rw[l];exact(c.val k).getD rfl
theorem Sw(m:A.units+ 1<Wy)(I:aM X Za σ H s)(g:iy H a y o)(j:RelV y u)(rd:RelV d r)(h:∀w' s',aM X Za σ H s'->RelV (o.getD d) w'->Q w' s'):
  Yo (model X.prog X.w) A (call (.builtin "dict.get") [.ref a,u,r]) Q E s:=by
 rcases g with⟨f,k,e,i,l⟩|⟨f,k,b,e,i,n,l⟩
 ·subst i;obtain⟨z,hd,q,c,dd⟩:=iB I.hok e;refine aak Xd dd.typeIs X9 (acj _ _ _) (meets_dict_get_default (aZ X.prog X.w) a (yE j) hd r) ⟨_,dd.mapOf,h _ _ (I.tok _) ?_⟩;rw[l];exact(c.val k).getD rd
 ·subst i;cases (show u=YA b from j);obtain⟨z,hd,p,c,dd⟩:=qF I.hok e;refine aak Xd dd.typeIs X9 (acj _ _ _) (meetsH_dict_get_default (tupleKind (aZ X.prog X.w)) a b hd r) ⟨tupleKind_room_in1 m,k,p,key_of I.hok n,dd,h _ _ (I.tok _) ?_⟩;rw[l];exact(c.val k).getD rd
end
def Kj(td ty:TE):TE:=λσ H Q=>td σ H λx b=>∃a,x=.ref a/\SY b a/\ty σ b λy c=>∃o,iy c a y o/\Q (o.getD .non) c
def Lx(td ty d:TE):TE:=λσ H Q=>td σ H λx b=>∃a,x=.ref a/\SY b a/\ty σ b λy e=>d σ e λz c=>∃o,iy c a y o/\Q (o.getD z) c
section
variable{o f:Y2}{Zg:Xr}{tx:TE}
theorem BX(i:X.A.units+ 1<Wy)(ho:PE X o td)(j:PE X e ty)(m:M1 X o "get" Ze e Zg):PE X (.Call (.Attribute o "get" Ze) [e] [] Zg) (Kj td ty):=by
 intro c s σ H Q I h;refine adI m.base m.few m.line WI Xd acK (cz (ho c s σ H _ I h) λu k l=>?_);obtain⟨x,n,f,p,a,ex,d,q⟩:=l;subst ex;obtain rfl:u=YA a:=p;obtain⟨r,t,_⟩:=KO f d;refine⟨r,t,?_⟩;rw[m.trees];refine WN rfl (aba (aaD (cz (j c k σ n _ f q) λC D ⟨y,v,w,z,E,g,A⟩=>abQ ?_)));exact Ry i w g z λF G B b=>⟨_,v,B,b,A⟩
theorem yd(j:X.A.units+ 1<Wy)(ho:PE X o td)(k:PE X e ty)(l:PE X f tx)(m:M2 X o "get" Ze e f Zg):PE X (.Call (.Attribute o "get" Ze) [e,f] [] Zg) (Lx td ty tx):=by
 intro b s σ H Q I h;refine adI m.base m.few m.line WI Xd acK (cz (ho b s σ H _ I h) λu n p=>?_);obtain⟨x,q,i,r,a,ex,d,t⟩:=p;subst ex;obtain rfl:u=YA a:=r;obtain⟨v,w,_⟩:=KO i d;refine⟨v,w,?_⟩;rw[m.trees];refine WN rfl (aba (aaD (cz (k b n σ q _ i t) λM A ⟨y,B,C,D,E⟩=>
  aaD (cz (l b A σ B _ C E) λN O ⟨z,F,G,J,P,g,K⟩=>abQ ?_))))
 exact Sw j G g D J λR S L c=>⟨_,F,L,c,K⟩
end
section
variable{kvs:List (bK×V)}
theorem J9(I:aM X Za σ H s)(e:Rd H a (.dK kvs))(h:∀p s',H p=Yb->aM X Za σ (upd H p (.dK kvs)) s'->Q (.ref p) s'):Yo (model X.prog X.w) A (call (.type "dict") [.ref a]) Q E s:=by
 obtain⟨z,hd,g,c,dd⟩:=iB I.hok e;refine kt_call_dict hd dd (by rw[←c.length];exact z) λi d hs=>?_;refine h _ _ (I.hok.fresh (Yj _)) (I.laid (a:=s.heap.objs.size) (o:=.dK kvs) (t':=s.toks) (λb q f=>?_) (Yj _) (AJ z (beq_eq_false_iff_ne.mpr (cT (YE I.big))) c d));exact(hs.2 b (YE (Yu f))).trans (Yg _ f)
end
section
end
end L2
namespace HT
open PySem PyProof.Rows
variable{items:Array Yd}{Q:Yd->Yl->Prop}{sl:Ye}{vl vu:Yd}{hi:Option Int}
def d6:List Int->List Int->Bool
 |[],[]=>false
 |[],_::_=>true
 |_::_,[]=>false
 |x::xs,y::ys=>if x=y then d6 xs ys else decide (x<y)
theorem lV(x y:Int)(xs ys:List Int):d6 (x::xs) (y::ys)=if x=y then d6 xs ys else decide (x<y):=rfl
theorem y9:d6 [] []=false:=rfl
theorem yU(y:Int)(ys:List Int):d6 [] (y::ys)=true:=rfl
theorem xg(x:Int)(xs:List Int):d6 (x::xs) []=false:=rfl
theorem Lw(A:nh)(s:Yl)(a:Int)(t:aay)(c:Int)(u:aay):∃e,SeqAt.EqAt A s (.int a t) (.int c u) e/\(e=true↔a=c):=
 ⟨(a==c),SeqAt.EqAt.int_int a t c u,by simp⟩
theorem K8(A:nh)(s:Yl)(a:Int)(t:aay)(c:Int)(u:aay)(prog:YO)(w:YW)(E:Yd->Yl->Prop)(Q:Yd->Yl->Prop)(h:Q (.bool (decide (a<c))) s):
  Yo (model prog w) A (richCompare .Lt (.int a t) (.int c u)) Q E s:=
 (PyProof.Rows.lt_int h:Yo (model prog w) A (compareOp .Lt (.int a t) (.int c u)) Q E s)
section
open PySem.SeqAt
open PySem.AutoSeq1 (wpAny_loadPart')
open PySem.MeetsSeq PySem.MeetsSeq2 PySem.MeetsSeq3
theorem ze(l b:Ye)(items f:Array Yd)(n n2:Nat)(dd E:Option Ye)(L F:Array (Option Yd))(ns B:List Int)(H:IntsAre items.toList ns)(I:IntsAre f.toList B):
  Meets (vc.«tuple.__lt__» ⟨[.ref l,.ref b],[]⟩)
   (λ_ R s=>s.heap.get? l=Ya {cls:=.type "tuple",dict:=dd,data:=.seq items n,slots:=L}/\s.heap.get? b=Ya {cls:=.type "tuple",dict:=E,data:=.seq f n2,slots:=F}/\
    R (.ok (.ret (.bool (d6 ns B)))) s):=
 .of_wp λprog w A R s h=>by
  obtain⟨hp,g,d,tk,os⟩:=s;obtain⟨hl,M,h⟩:=h;have O:=AutoSeq1.sub_tuple_tuple;have P:items.size=ns.length:=by rw[←H.length];simp
  have Q:f.size=B.length:=by rw[←I.length];simp
  wp_walk using wpAny_loadPart' hl,wpAny_loadPart' M,wpAny_forIn_list _ (λJ b s'=>b.1=Yb/\s'=⟨hp,g,d,tk,os⟩/\∃(C D:List Yd) (j k:List Int),J=C.zip D/\
   IntsAre C j/\IntsAre D k/\j.length+ f.size=k.length+ items.size/\R (.ok (.ret (.bool (d6 j k)))) ⟨hp,g,d,tk,os⟩) _
  case turn=>
   rintro⟨y,x⟩ J b s' ⟨v,rfl,C,D,j,k,m,z,o,i,p⟩;cases z with
   |nil=>rw[List.zip_nil_left]at m;cases m
   |cons a t hvi'=>
    cases o with
    |nil=>rw[List.zip_nil_right]at m;cases m
    |cons c u hwi'=>
     rw[abA]at m;injection m with hyx hrest;injection hyx with hy hx;subst hy hx;rw[lV]at p;simp only[cw]at i;obtain⟨e,N,r⟩:=Lw A.in1 ⟨hp,g,d,tk,os⟩ a t c u;refine wpAny_bind (N prog w _ _ ?_);cases e with
     |true=>
      rw[if_pos (r.mp rfl)]at p
      wp_walk
      exact⟨rfl,rfl,_,_,_,_,hrest,hvi',hwi',by omega,p⟩
     |false=>
      rw[if_neg (λq=>absurd (r.mpr q) YN)]at p;have G:=K8 A.in1 ⟨hp,g,d,tk,os⟩ a t c u prog w
      wp_walk using G
      exact⟨_,rfl,by simpa using p⟩
  case fin=>
   rintro⟨S,T⟩ s' ⟨v,rfl,C,D,j,k,m,z,o,i,p⟩;simp only at v;subst v;have K:d6 j k=decide (items.size<f.size):=by
    cases z with
    |nil=>
     cases o with
     |nil=>
      simp only[W0]at i;rw[y9];exact(decide_eq_false (by omega)).symm
     |cons c u hw=>
      simp only[W0,cw]at i;rw[yU];exact(decide_eq_true (by omega)).symm
    |cons a t K=>
     cases o with
     |nil=>
      simp only[W0,cw]at i;rw[xg];exact(decide_eq_false (by omega)).symm
     |cons c u hw=>
      rw[abA]at m;cases m
   rw[K]at p
   wp_walk
   exact⟨_,rfl,by simpa [aeb]using p⟩
  case h=>
   exact⟨rfl,rfl,items.toList,f.toList,ns,B,rfl,H,I,by omega,h⟩
end
section
variable{prog:YO}{w:YW}{A:nh}{E:Yd->Yl->Prop}{s:Yl}
theorem Fd{l b:Ye}{a:Array Yd}{ns c:List Int}(hl:aeQ s.heap l items)(o:aeQ s.heap b a)(p:IntsAre items.toList ns)(q:IntsAre a.toList c)(r:A.units<Wy)(h:Q (.bool (d6 ns c)) s):Yo (model prog w) A (compareOp .Lt (.ref l) (.ref b)) Q E s:=by
 obtain⟨⟨t,dd,j,u⟩,ho,k,n,hd⟩:=id hl;obtain⟨⟨m,g,data2,i⟩,d,e,n2,f⟩:=id o;simp only at k hd e f;subst k hd e f;exact richCompare_meets_room (op:=.Lt) ⟨_,ho,rfl⟩ ⟨_,d,rfl⟩ PySem.F.slot_tuple_lt PySem.F.entry_tuple_lt (PySem.F.args_tuple_lt_2 _ _) (ze l b items a n n2 dd g u i ns c p q)
  ⟨ho,d,show aaq (d6 ns c)≠Value.notImplemented/\Q (.bool (d6 ns c)) s from⟨(λx=>nomatch x),h⟩⟩ r
def fZ(n d:Nat):Option Int->Nat
 |none=>d
 |some v=>if v<0 then(v+ (n:Int)).toNat else min v.toNat n
theorem Ru(n d:Nat)(hd:d<=n)(o:Option Int):fZ n d o<=n:=by
 cases o with
 |none=>exact hd
 |some v=>
  show(if v<0 then(v+ (n:Int)).toNat else min v.toNat n)<=n;by_cases a:v<0
  ·rw[if_pos a];omega
  ·rw[if_neg a];exact Nat.min_le_right _ _
theorem GI(v:Int)(n d:Nat):(if v<0 then max (v+ (n:Int)) 0 else min v (n:Int))=((fZ n d (Ya v):Nat):Int):=by
 show(if v<0 then max (v+ (n:Int)) 0 else min v (n:Int))=(((if v<0 then(v+ (n:Int)).toNat else min v.toNat n):Nat):Int);by_cases a:v<0
 ·simp only[if_pos a];omega
 ·simp only[if_neg a];omega
theorem EW(lo a:Option Int)(n:Nat):aaA lo a 1 (n:Int)=(((fZ n 0 lo:Nat):Int),((fZ n n a:Nat):Int)):=by
 have h1:¬ ((1:Int)<0):=by omega
 unfold aaA;simp only[h1,if_false];refine Prod.ext ?_ ?_
 ·cases lo with
  |none=>rfl
  |some v=>exact GI v n 0
 ·cases a with
  |none=>rfl
  |some v=>exact GI v n n
theorem E7(i j:Nat):XM (i:Int) (j:Int) 1=j-i:=by
 unfold XM;have h1:(1:Int)>0:=by omega
 simp only[h1,if_true,Int.ediv_one];split<;>omega
theorem wM{v:Yd}{o:Option Int}{Q:Option Int->Yl->Prop}(p:ab3 v o)(h:Q o s):Yo (model prog w) A (aex v) Q E s:=by
 cases p with
 |none=>exact slicePart_none h
 |int i t=>exact slicePart_int h
theorem vb{lo:Option Int}{n:Nat}{Q:Int×Int×Nat->Yl->Prop}(hs:s.heap.IsSliceOf sl vl vu .none)(pl:ab3 vl lo)(c:ab3 vu hi)(h:Q (((fZ n 0 lo:Nat):Int),1,fZ n n hi-fZ n 0 lo) s):Yo (model prog w) A (abG (.ref sl) (pure (n:Int))) Q E s:=by
 obtain⟨os,a,d,b⟩:=id hs;unfold abG aeR;refine wpAny_bind (wpAny_bind (wpAny_field a b (x:=vl) rfl (wpAny_bind (wpAny_field a b (x:=vu) rfl (wpAny_bind (wpAny_field a b (x:=.none) rfl (wpAny_pure ?_)))))));refine wpAny_bind (slicePart_none ?_);show Yo _ _ (if((1:Int)==0)=true then _ else _) _ _ s;rw[if_neg (by decide)];refine wpAny_bind (wM pl (wpAny_bind (wM c (wpAny_bind (wpAny_pure ?_)))));show Yo _ _ (match aaA lo hi 1 (n:Int)with|(lo,hi)=>pure (lo,(1:Int),XM lo hi 1)) _ _ s;rw[EW lo hi n];show Yo _ _ (pure (((fZ n 0 lo:Nat):Int),(1:Int),XM ((fZ n 0 lo:Nat):Int) ((fZ n n hi:Nat):Int) 1)) _ _ s;rw[E7];exact wpAny_pure h
theorem Mz(xs:Array Yd)(i k:Nat):((Y3 k).filterMap fun(m:Nat)=>xs[((i:Int)+ (m:Int)*1).toNat]?).toArray=((xs.toList.drop i).take k).toArray:=by
 have e:(fun(m:Nat)=>xs[((i:Int)+ (m:Int)*1).toNat]?)=λm=>xs[i+ m]?:=by
  funext m;have:((i:Int)+ (m:Int)*1).toNat=i+ m:=by omega
  rw[this]
 rw[e];have:=pick_run xs i k;rw[List.filterMap_map]at this;have a:((λx=>xs[x]?)∘λx=>i+ x)=λm=>xs[i+ m]?:=rfl;rw[a]at this;rw[this]
theorem sR{t:Ye}{lo:Option Int}(b:aeQ s.heap t items)(hs:s.heap.IsSliceOf sl vl vu .none)(pl:ab3 vl lo)(g:ab3 vu hi)(hw:¬ (fZ items.size 0 lo=0/\fZ items.size items.size hi=items.size))(h:Q (.ref s.heap.objs.size) {s with heap:=s.heap.push {cls:=.type "tuple",data:=.seq ((items.toList.drop (fZ items.size 0 lo)).take (fZ items.size items.size hi-fZ items.size 0 lo)).toArray}})(hsz:items.size<=sizeLine):Yo (model prog w) A (getItem (.ref t) (.ref sl)) Q E s:=by
 have a:sizeOk (.seq ((items.toList.drop (fZ items.size 0 lo)).take (fZ items.size items.size hi-fZ items.size 0 lo)).toArray):=by
  show((items.toList.drop (fZ items.size 0 lo)).take (fZ items.size items.size hi-fZ items.size 0 lo)).toArray.size<=sizeLine;rw[Yw,Y8,Xw,ir];omega
 have j:fZ items.size items.size hi<=items.size:=Ru _ _ (Yj _) hi;obtain⟨os,c,d,i⟩:=id hs;have e:s.TypeIs (.ref sl) "slice":=⟨os,c,d⟩;unfold getItem
 try with_reducible refine wpAny_holding ?_
 first|refine wpAny_bind (wpAny_pure ?_)|skip
 refine wpAny_bind (wpAny_sequenceKey b.typeIs (by decide) ?_);refine wpAny_bind (Xs (name:=xu "__getitem__") b.typeIs Xx
  (wpAny_call_entry Xx b.typeIs entry_tuple_getitem ?_ (args_tuple_getitem _ _)))
 show Yo _ _ (aeL (.ref t) >>= _) _ _ s;refine wpAny_bind (tupleItemsOf_ b ?_);refine wpAny_bind (wpAny_typeOf e ?_);rw[if_pos (by decide)];refine wpAny_bind (vb hs pl g ?_);have f:¬ ((((fZ items.size 0 lo:Nat):Int)==0&&(1:Int)==1&&(fZ items.size items.size hi-fZ items.size 0 lo)==items.size)=true):=by
  intro q;rw[XQ,XQ]at q;have k:((fZ items.size 0 lo:Nat):Int)=0:=eq_of_beq q.1.1;have l:fZ items.size items.size hi-fZ items.size 0 lo=items.size:=eq_of_beq q.2;exact hw ⟨by omega,by omega⟩
 show Yo _ _ (if(((fZ items.size 0 lo:Nat):Int)==0&&(1:Int)==1&&(fZ items.size items.size hi-fZ items.size 0 lo)==items.size)=true then _ else _) _ _ s;rw[if_neg f,Mz]
 first
  |exact wpAny_bind (m:=XR _) (wpAny_newObj_type (wpAny_pure ⟨_,rfl,wpAny_pure h⟩) a)
  |exact wpAny_bind (m:=XR _) (wpAny_newObj_type (wpAny_bind (wpAny_pure (wpAny_pure ⟨_,rfl,wpAny_pure h⟩))) a)
  |exact wpAny_bind (wpAny_bind (m:=XR _) (wpAny_newObj_type (wpAny_pure (wpAny_pure ⟨_,rfl,wpAny_pure h⟩)) a))
  |exact wpAny_bind (wpAny_bind (m:=XR _) (wpAny_newObj_type (wpAny_pure ⟨_,rfl,wpAny_pure h⟩) a))
end
end HT
namespace L2
open PySem PySem.Spec PyProof.Rows
variable{X:Cx}{e:Y2}{pos:Xr}{n j t':Nat}{i:Int}{r:R2}{Za:List (Ye×Y9)}{σ:St}{H:Hp}{s:Yl}{T:String}{its:List Yd}
abbrev TO:=St->Hp->(Option Int->Hp->Prop)->Prop
def PO(X:Cx)(e:Option Y2)(t:TO):Prop:=
 ∀(a:List (Ye×Y9)) (s:Yl) (σ:St) (H:Hp) (Q:Option Int->Hp->Prop),aM X a σ H s->t σ H Q->
  Yo (model X.prog X.w) X.A (evalPart e X.env) (λu s'=>∃o b,aM X a σ b s'/\ab3 u o/\Q o b) X.xe s
def Gw:TO:=λ_ H Q=>Q Yb H
def PL(t:TE):TO:=λσ H Q=>t σ H λx a=>∃i,x=.int i/\Q (Ya i) a
theorem ji{ns:List Int}:∀{us:List Yd},Vals (ns.map V.int) us->IntsAre us ns:=by
 induction ns with
 |nil=>intro us r;rw[aaF]at r;cases r;exact .nil
 |cons n ns ih=>
  intro us r;rw[Yz]at r;cases r with
  |cons r1 r2=>
   obtain⟨t,e⟩:=r1;subst e;exact .cons n t (ih r2)
section
variable{te:TE}{lo hi:Option Y2}{tl th:TO}{p2:Xr}
theorem tP:PO X Yb Gw:=by
 intro a s σ H Q I h;rw[aeM];exact wpAny_pure ⟨Yb,H,I,.none,h⟩
theorem t5(h:PE X e te):PO X (Ya e) (PL te):=by
 intro a s σ H Q I hw;rw[evalPart_some];refine cz (h a s σ H _ I hw) λu j b=>?_;obtain⟨x,c,d,f,g⟩:=b;obtain⟨i,rfl,q⟩:=g;obtain⟨t,rfl⟩:=f;exact⟨Ya i,c,d,.int i t,q⟩
def To(X:Cx)(r:V->Option Int->Option Int->Hp->VK->Prop):Prop:=
 ∀(a:List (Ye×Y9)) (s:Yl) (σ:St) (H:Hp) (x:V) (v b c:Yd) (lo d:Option Int) (e:Ye) (Q:VK),aM X a σ H s->RelV x v->s.heap.IsSliceOf e b c .none->ab3 b lo->ab3 c d->r x lo d H Q->
  ∃T id,typeLookup (.type T) "__getitem__"=pure (Ya (.builtin id))/\s.TypeIs v T/\Yo (model X.prog X.w) X.A (getItem v (.ref e)) (EP X a σ Q) X.xe s
def We(r:V->Option Int->Option Int->Hp->VK->Prop)(a:TE)(tl b:TO):TE:=λσ H Q=>a σ H λx c=>tl σ c λl d=>b σ d λu e=>r x l u e Q
theorem p9{r:V->Option Int->Option Int->Hp->VK->Prop}(j:To X r)(k:PE X e te)(hl:PO X lo tl)(m:PO X hi th):PE X (.Subscript e (.Slice lo hi Yb p2) pos) (We r te tl th):=by
 intro c s σ H Q I h;refine aei (cz (k c s σ H _ I h) λv n g=>?_);obtain⟨x,o,p,t,w⟩:=g;refine wpAny_Slice (cz (hl c n σ o _ p w) λd y ⟨l,z,A,B,C⟩=>cz (m c y σ z _ A C) λf a g=>?_);obtain⟨u,i,D,E,F⟩:=g;rw[aeM];refine wpAny_pure ?_;have G:aM X c σ i {a with heap:=a.heap.push {cls:=.type "slice",data:=.fields #[d,f,.none]}}:=D.kept (t':=a.toks) λb ob q=>Yg _ q;obtain⟨T,id,J,K,L⟩:=j c {a with heap:=a.heap.push {cls:=.type "slice",data:=.fields #[d,f,.none]}} σ i x v d f l u a.heap.objs.size Q G t (Heap.IsSliceOf.new ..) B E F;show Yo (model X.prog X.w) X.A (subscriptTail e (.Slice lo hi Yb p2) v (.ref a.heap.objs.size)) (EP X c σ Q) X.xe {a with heap:=a.heap.push {cls:=.type "slice",data:=.fields #[d,f,.none]}};exact tail_any (ops:=[.ref a.heap.objs.size,v]) K J L (by with_unfolding_all rfl)
def u5(xs:List V)(lo a:Option Int):List V:=(xs.drop (HT.fZ xs.length 0 lo)).take (HT.fZ xs.length xs.length a-HT.fZ xs.length 0 lo)
theorem vv(xs:List V)(lo a:Option Int):(u5 xs lo a).length<=xs.length:=by
 unfold u5;rw[Y8,Xw];omega
def Su(K:Yc):V->Option Int->Option Int->Hp->VK->Prop:=λx lo c H Q=>∃a b,x=.ref a/\bC K H a b/\
 ¬ (HT.fZ b.length 0 lo=0/\HT.fZ b.length b.length c=b.length)/\∀p,H p=Yb->Q (.ref p) (upd H p (.tup (u5 b lo c)))
theorem SO:To X (Su X.K):=by
 intro n s σ H x v p t lo e u Q I j hs k l h;obtain⟨a,d,rfl,m,hw,q⟩:=h;cases j;obtain⟨f,r,g,i⟩:=I.tuple m;have c:f.toArray.size=d.length:=by rw[Yw];exact r.length.symm
 refine⟨"tuple",_,Xx.lookup,g.typeIs,?_⟩;refine HT.sR g hs k l (by rw[c];exact hw) ?_ (by rw[c];exact i);rw[c];refine⟨.ref s.heap.objs.size,_,I.laid (t':=s.toks) (o:=.tup (u5 d lo e)) (λb ob q=>Yg _ q) (Yj _) ?_,rfl,q _ (I.hok.fresh (Yj _))⟩;exact⟨cb (vv d lo e) i,_,(r.drop (HT.fZ d.length 0 lo)).take (HT.fZ d.length d.length e-HT.fZ d.length 0 lo),lG.new _ _⟩
end
def S9(n:Nat)(i:Int):Option Nat:=if 0<=i then(if i<n then Ya i.toNat else Yb)else if-(n:Int)<=i then Ya (i+ n).toNat else Yb
def sf{α:Type}(xs:List α)(i:Int):Option α:=(S9 xs.length i).bind λj=>xs[j]?
theorem Pl(h:S9 n i=Ya j):seqIndex? i n=Ya j/\j<n/\-(n:Int)<=i/\i<n:=by
 unfold S9 at h;by_cases h0:0<=i
 ·rw[if_pos h0]at h;by_cases h1:i<n
  ·rw[if_pos h1]at h;have e:i.toNat=j:=YC h;exact⟨by rw[seqIndex_of h0 h1,e],by omega,by omega,h1⟩
  ·rw[if_neg h1]at h;cases h
 ·rw[if_neg h0]at h;by_cases h1:-(n:Int)<=i
  ·rw[if_pos h1]at h;have e:(i+ n).toNat=j:=YC h;exact⟨by rw[aeT (by omega) h1,e],by omega,h1,by omega⟩
  ·rw[if_neg h1]at h;cases h
theorem AX{α:Type}{xs:List α}{v:α}(h:sf xs i=Ya v):∃j,seqIndex? i xs.length=Ya j/\xs[j]?=Ya v/\j<xs.length/\-(xs.length:Int)<=i/\i<xs.length:=by
 unfold sf at h;cases e:S9 xs.length i with
 |none=>rw[e]at h;cases h
 |some j=>
  rw[e]at h;obtain⟨h1,h2,h3,h4⟩:=Pl e;exact⟨j,h1,h,h2,h3,h4⟩
theorem cE{α:Type}{xs:List α}{v:α}(h:xs[j]?=Ya v):sf xs (j:Int)=Ya v:=by
 have a:j<xs.length:=(Yi.mp h).1;have e:S9 xs.length (j:Int)=Ya j:=by
  unfold S9;rw[if_pos (by omega),if_pos (by omega)];simp
 unfold sf;rw[e];exact h
def O9(b:Y2):Prop:=∀o i,subscripted b false o i=afc [o,i] (getItem o i)
def JF(X:Cx)(r:R2):Prop:=
 ∀(c a:Y2) (b:List (Ye×Y9)) (s:Yl) (σ:St) (H:Hp) (x y:V) (v u:Yd) (Q:VK),aM X b σ H s->RelV x v->RelV y u->r x y H Q->
  subscripted a false v u=afc [v,u] (getItem v u)->Yo (model X.prog X.w) X.A (subscriptTail c a v u) (EP X b σ Q) X.xe s
def Vj(X:Cx)(id:String)(r:V->List V->Hp->VK->Prop):Prop:=
 ∀(a:List (Ye×Y9)) (s:Yl) (σ:St) (H:Hp) (x:V) (b:List V) (v:Yd) (c:List Yd) (Q:VK),aM X a σ H s->RelV x v->Vals b c->r x b H Q->
  Yo (model X.prog X.w) X.A (call (.builtin id) (v::c)) (EP X a σ Q) X.xe s
section
variable{a b:Y2}{ta tb:TE}
theorem JF.or{b:R2}(h:JF X r)(h':JF X b):JF X (λx y H Q=>r x y H Q∨b x y H Q):=by
 intro c a d s σ H x y v u Q I e f q hs;rcases q with q|q
 ·exact h c a d s σ H x y v u Q I e f q hs
 ·exact h' c a d s σ H x y v u Q I e f q hs
theorem bp(c:JF X r)(ha:PE X a ta)(d:PE X b tb)(hs:O9 b):PE X (.Subscript a b pos) (SV r ta tb):=by
 intro e s σ H Q I h;exact aei (R3 ha d I h λv u f x y g i j k q=>c a b e f σ g x y v u Q i j k q (hs _ _))
def Pq(K:Yc):R2:=λx y H Q=>∃p a i v,x=.ref p/\y=.int i/\bo K H p a/\sf a i=Ya v/\Q v H
def NC(K:Yc):R2:=λx y H Q=>∃p a i v,x=.ref p/\y=.int i/\bC K H p a/\sf a i=Ya v/\Q v H
def UQ:R2:=λx y H Q=>∃z i c,x=.str z/\y=.int i/\z.length<=sizeLine/\sf z.cps.toList i=Ya c/\Q (.str ⟨#[c]⟩) H
theorem G9:JF X (Pq X.K):=by
 intro o a f s σ H x y v u Q I k l h hs;obtain⟨p,A,i,z,rfl,rfl,m,n,q⟩:=h;cases k;obtain⟨t,rfl⟩:=l;obtain⟨b,r,c,B⟩:=I.list m;obtain⟨j,h1,h2,h3,h4,h5⟩:=AX n;obtain⟨w,g,d⟩:=r.get h2;have hl:=r.length;have hn:=yf;have fin:EP X f σ Q w s:=⟨z,H,I,d,q⟩;by_cases h0:0<=i
 ·have e:i.toNat=j:=by
   rw[seqIndex_of h0 h5]at h1;exact YC h1
  exact item_listR c.isList h0 (by omega) (by rw[e];simpa using g) fin hs
 ·have e:(i+ (b.toArray.size:Int)).toNat=j:=by
   rw[aeT (by omega) h4]at h1;rw[Yw,←hl];exact YC h1
  exact acz (x:=w) c.isList.typeIs adJ.lookup
   (wpAny_getItem_list_neg (Q:=λr s'=>r=w/\EP X f σ Q r s') c.isList (by omega) (by rw[Yw]<;>omega) (by omega) (by rw[e];simpa using g) ⟨rfl,fin⟩) hs
theorem LP:JF X (NC X.K):=by
 intro n a c s σ H x y v u Q I e f h hs;obtain⟨p,o,i,z,rfl,rfl,g,k,q⟩:=h;cases e;obtain⟨t,rfl⟩:=f;obtain⟨l,r,d,A⟩:=I.tuple g;obtain⟨j,h1,h2,h3,h4,h5⟩:=AX k;obtain⟨w,m,b⟩:=r.get h2;have hl:=r.length;have hn:=yf;have fin:EP X c σ Q w s:=⟨z,H,I,b,q⟩;exact acz (x:=w) d.typeIs Xx.lookup
  (getItem_tuple (j:=j) (Q:=λr s'=>r=w/\EP X c σ Q r s') d (by omega) (by omega) (by rw[Yw,←hl];exact h1) (by simpa using m) ⟨rfl,fin⟩) hs
theorem Q0:JF X UQ:=by
 intro k a l s σ H x y v u Q I b d h hs;obtain⟨z,i,c,rfl,rfl,m,e,q⟩:=h;obtain⟨t,rfl⟩:=b;obtain⟨n,rfl⟩:=d;obtain⟨j,h1,h2,h3,h4,h5⟩:=AX e;have hl:z.cps.toList.length=z.length:=by simp[Str.length]
 rw[hl]at h1 h4 h5;have hn:=yf;exact tail_any (typeIs_str s z t) slot_str_getitem.lookup (getItem_str (c:=c) (by
  have f:decide (i< -(2^63:Int))=false:=decide_eq_false (by omega);have g:decide (i≥2^63)=false:=decide_eq_false (by omega);rw[f,g,ac7]) (by rw[h1];simpa using h2) ⟨.str ⟨#[c]⟩,H,I.tok _,⟨_,rfl⟩,q⟩) hs
def VQ(K:Yc):R2:=λx y H Q=>Pq K x y H Q∨NC K x y H Q∨UQ x y H Q
theorem RE:JF X (VQ X.K):=G9.or (LP.or Q0)
theorem AD(lo a:Option Int)(n:Nat):(sliceBounds lo a Yb n).1=((HT.fZ n 0 lo:Nat):Int)/\(sliceBounds lo a Yb n).2.1=((HT.fZ n n a:Nat):Int)/\(sliceBounds lo a Yb n).2.2=1:=by
 refine⟨?_,?_,rfl⟩
 ·cases lo with
  |none=>simp[sliceBounds,HT.fZ]
  |some i=>
   simp only[sliceBounds,HT.fZ,ab4,show(1:Int)>0 by decide,if_true];by_cases h:i<0
   ·simp only[h,if_true]<;>omega
   ·simp only[h,if_false]<;>omega
 ·cases a with
  |none=>simp[sliceBounds,HT.fZ]
  |some i=>
   simp only[sliceBounds,HT.fZ,ab4,show(1:Int)>0 by decide,if_true];by_cases h:i<0
   ·simp only[h,if_true]<;>omega
   ·simp only[h,if_false]<;>omega
theorem yY(its:List Yd)(lo a:Option Int):slicePick its.toArray lo a Yb=((its.drop (HT.fZ its.length 0 lo)).take (HT.fZ its.length its.length a-HT.fZ its.length 0 lo)).toArray:=by
 obtain⟨h1,h2,h3⟩:=AD lo a its.toArray.size;unfold slicePick;rw[h1,h2,h3];simp only[sliceRange_one,pick_run,Yw]<;>rfl
def RY(K:Yc):V->Option Int->Option Int->Hp->VK->Prop:=λx lo c H Q=>∃a b,x=.ref a/\bo K H a b/\∀p,H p=Yb->Q (.ref p) (upd H p (.lst (u5 b lo c)))
theorem OW:To X (RY X.K):=by
 intro n s σ H x v p t lo e u Q I g hs i j h;obtain⟨a,c,rfl,k,q⟩:=h;cases g;obtain⟨l,r,f,m⟩:=I.list k;have d:=r.length;refine⟨"list",_,adJ.lookup,f.isList.typeIs,?_⟩;refine wpAny_getItem_list_slice f.isList hs i j .none (by simp) ?_ (by rw[Yw]<;>omega);rw[yY,←d];refine⟨.ref s.heap.objs.size,_,I.laid (t':=s.toks) (o:=.lst (u5 c lo e)) (λb ob q=>Yg _ q) (Yj _) ?_,rfl,q _ (I.hok.fresh (Yj _))⟩;exact⟨cb (vv c lo e) m,_,0,(r.drop (HT.fZ c.length 0 lo)).take (HT.fZ c.length c.length e-HT.fZ c.length 0 lo),Yr _ rfl⟩
theorem Bt:dh X (.builtin "len") (λxs H Q=>∃p ys,xs=[.ref p]/\(bo X.K H p ys∨bC X.K H p ys)/\Q (.int ys.length) H):=by
 intro i s σ H xs j Q I r h;obtain⟨p,ys,rfl,b,q⟩:=h;obtain⟨u,rfl,f⟩:=d9 r;cases f;have hn:=yf;rcases b with b|b
 ·obtain⟨c,d,e,g⟩:=I.list b;have a:=d.length;exact Calls.call_len_list e.isList (by simp only[Yw]<;>omega) ⟨.int ys.length,H,I.tok _,⟨s.toks+ 1,by rw[Yw,a]⟩,q⟩
 ·obtain⟨c,d,e,g⟩:=I.tuple b;have a:=d.length;exact len_tuple e (by simp only[Yw]<;>omega) ⟨.int ys.length,H,I.tok _,⟨s.toks+ 1,by rw[Yw,a]⟩,q⟩
theorem Bc:dh X (.type "list") (λxs H Q=>∃p ys,xs=[.ref p]/\(bo X.K H p ys∨bC X.K H p ys)/\∀l,H l=Yb->Q (.ref l) (upd H l (.lst ys))):=by
 intro v s σ H xs x Q I r h;obtain⟨p,ys,rfl,g,q⟩:=h;obtain⟨u,rfl,w⟩:=d9 r;cases w;have fin:∀(a:List Yd),Vals ys a->ys.length<=sizeLine->∀(c:YK) (d:Nat),(∀b t,s.heap.get? b=Ya t->c.get? b=Ya t)->
   c.get? s.heap.objs.size=Ya {cls:=.type "list",dict:=Yb,data:=.seq a.toArray d,slots:=#[]}->EP X v σ Q (.ref s.heap.objs.size) {s with heap:=c}:=λa f i c d kp e=>
  ⟨.ref s.heap.objs.size,_,I.laid (t':=s.toks) kp (Yj _) (show bZ X.prog X.w _ c _ (.lst ys)from⟨i,a,d,f,e⟩),rfl,q _ (I.hok.fresh (Yj _))⟩
 rcases g with g|g
 ·obtain⟨a,f,k,i⟩:=I.list g;have j:=f.length;obtain⟨o,ho,m,n,hd⟩:=k.isList;exact aeN p (.inl rfl) ho m hd (λc d kp e=>fin a f i c d kp e) (by simp only[Yw]<;>omega)
 ·obtain⟨a,f,k,i⟩:=I.tuple g;have j:=f.length;obtain⟨o,ho,m,n,hd⟩:=k;exact aeN p (.inr rfl) ho m hd (λc d kp e=>fin a f i c d kp e) (by simp only[Yw]<;>omega)
theorem y7:dh X (.type "tuple") (λxs H Q=>∃p ys,xs=[.ref p]/\((bo X.K H p ys/\∀l,H l=Yb->Q (.ref l) (upd H l (.tup ys)))∨(bC X.K H p ys/\Q (.ref p) H))):=by
 intro i s σ H xs v Q I r h;obtain⟨p,ys,rfl,h⟩:=h;obtain⟨u,rfl,n⟩:=d9 r;cases n;rcases h with⟨d,q⟩|⟨d,q⟩
 ·obtain⟨a,f,g,j⟩:=I.list d;have k:=f.length;refine call_tuple_list g.isList (λc kp=>?_) (by simp only[Yw]<;>omega);have m:aM X i σ H {s with heap:=c}:=I.kept (t':=s.toks) kp;have t:aM X i σ (upd H c.objs.size (.tup ys)) {s with heap:=c.push {cls:=.type "tuple",data:=.seq a.toArray}}:=
   m.laid (t':=s.toks) (λb o e=>Yg _ e) (Yj _) (show bZ X.prog X.w _ _ _ (.tup ys)from⟨j,a,f,lG.new _ _⟩)
  exact⟨.ref c.objs.size,_,t,rfl,q _ (m.hok.fresh (Yj _))⟩
 ·obtain⟨a,f,g,j⟩:=I.tuple d;exact call_tuple_same g ⟨.ref p,H,I,rfl,q⟩
def R0(K:Yc)(T:String)(x:V)(H:Hp):Prop:=match x with
 | .str _=>T="str"
 | .int _=>T="int"
 | .ref p=>(T="list"/\∃b,bo K H p b)∨(T="tuple"/\∃o,K.lookup p=Ya o/\o.cls=.type "tuple"/\o.dict=Yb)∨
   (T="dict"/\((∃a,H p=Ya (.dK a))∨∃a,H p=Ya (.dT a)))∨(T="set"/\∃S n,H p=Ya (.set S n))
 |_=>False
theorem uS{x:V}{v:Yd}(I:aM X Za σ H s)(r:RelV x v)(ty:R0 X.K T x H):
  s.TypeIs v T/\∀a,v=.ref a->∃ob,s.heap.get? a=Ya ob/\ob.dict=none:=by
 cases x with
 |str z=>
  obtain⟨t,rfl⟩:=r;cases (show T="str"from ty);exact⟨typeIs_str s z t,λ_ e=>nomatch e⟩
 |int i=>
  obtain⟨t,rfl⟩:=r;cases (show T="int"from ty);exact⟨typeIs_int s i t,λ_ e=>nomatch e⟩
 |ref p=>
  cases r;rcases ty with⟨rfl,l,h⟩|⟨rfl,o,b,j,hd⟩|⟨rfl,b⟩|⟨rfl,S,n,b⟩
  ·obtain⟨k,_,g,_⟩:=I.list h;refine⟨g.isList.typeIs,λa e=>?_⟩;cases e;obtain⟨o,n,e,c,hd,_⟩:=g;exact⟨o,e,hd⟩
  ·refine⟨⟨o,I.kIn p o b,j⟩,λa e=>?_⟩;cases e;exact⟨o,I.kIn _ o b,hd⟩
  ·have z:∃o,s.heap.get? p=Ya o/\o.ExactDict:=by
    rcases b with⟨d,b⟩|⟨d,b⟩
    ·obtain⟨_,_,_,_,o,_,_,e,ex,_⟩:=I.hok p _ b;exact⟨o,e,ex⟩
    ·obtain⟨_,_,_,_,o,_,_,e,ex,_⟩:=I.hok p _ b;exact⟨o,e,ex⟩
   obtain⟨o,e,ex⟩:=z;refine⟨⟨o,e,ex.1⟩,λa f=>?_⟩;cases f;exact⟨o,e,ex.2.1⟩
  ·obtain⟨o,_,_,_,e,ex,_⟩:=I.hok p _ b;refine⟨⟨o,e,ex.1⟩,λa f=>?_⟩;cases f;exact⟨o,e,ex.2.1⟩
 |_=>exact Wu ty
def Um(K:Yc)(T:String)(r:V->List V->Hp->VK->Prop)(to:TE):TE:=λσ H Q=>to σ H λx a=>R0 K T x a/\r x [] a Q
def VA(K:Yc)(T:String)(r:V->List V->Hp->VK->Prop)(to:TE)(t:TA):TE:=λσ H Q=>to σ H λx a=>R0 K T x a/\t σ a λb c=>r x b c Q
variable{o:Y2}{es:List Y2}{to:TE}{t:TA}{name:Yn}{Ze Zg:Xr}{id:String}{r:V->List V->Hp->VK->Prop}
theorem F4(g:PlainAttrs T)(slot:aeU T name id)(c:typeOf (.builtin id)=pure (.type "method_descriptor"))(hm:Vj X id r)(ho:PE X o to)
  (a:W8 o name X.env (eval o X.env)=eval o X.env:=by rfl) (b:(Ze.endLine==Zg.line)=true:=by rfl):PE X (.Call (.Attribute o name Ze) [] [] Zg) (Um X.K T r to):=by
 intro d s σ H Q I h;refine XZ a b (cz (ho d s σ H _ I h) λv i j=>?_);obtain⟨x,k,e,f,ty,l⟩:=j;obtain⟨h1,h2⟩:=uS e f ty;exact⟨T,id,g,slot,c,h1,h2,WN rfl (aav (hm d i σ k x [] v [] Q e f .nil l))⟩
theorem F5(l:PlainAttrs T)(slot:aeU T name id)(f:typeOf (.builtin id)=pure (.type "method_descriptor"))(hm:Vj X id r)(ho:PE X o to)(ha:PA X (e::es) t)
  (b:W8 o name X.env (eval o X.env)=eval o X.env:=by rfl)
  (d:((backTo Zg (starEach (e::es) X.env)).all (λx=>!x.1)&&(backToKw Zg (keywordEach [] X.env)).all (λx=>x.1.isSome)
   &&decide ((e::es).length+ ([]:List aa3).length+ (if([]:List aa3).isEmpty then 0 else 1)<30))=true:=by rfl)
  (c:(Ze.endLine==Zg.line)=true:=by rfl) (hs:starEach (e::es) X.env=(false,eval e X.env)::starEach es X.env:=by rfl) (a:(backTo Zg (starEach es X.env)).any (·.1)=false:=by rfl):
  PE X (.Call (.Attribute o name Ze) (e::es) [] Zg) (VA X.K T r to t):=by
 intro g s σ H Q I h;refine wpAny_Call_method_late b d c rfl (cz (ho g s σ H _ I h) λv m n=>?_);obtain⟨x,p,i,j,ty,q⟩:=n;obtain⟨h1,h2⟩:=uS i j ty;refine⟨T,id,l,slot,f,h1,h2,?_⟩;have k:=ha Zg g m σ p _ i q;rw[hs]at k⊢;refine WN (by show(false||(backTo Zg (starEach es X.env)).any (·.1))=false;rw[a]<;>rfl) (aba ?_);exact cz k λu w ⟨y,z,A,B,C⟩=>hm g w σ z x y v u Q A j B C
end
def Wc(X:Cx)(id:String)(r:V->List V->Hp->VK->Prop):Prop:=
 ∀(a:List (Ye×Y9)) (s:Yl) (σ:St) (H:Hp) (x:V) (b:List V) (v:Yd) (c:List Yd) (Q:VK),aM X a σ H s->RelV x v->Vals b c->r x b H Q->
  Yo (model X.prog X.w) X.A (call (.builtin id) (v::c)) (EP X a σ Q) X.xe s
theorem Vals.one:∀{x:V} {us:List Yd},Vals [x] us->∃u,us=[u]/\RelV x u:=by
 intro x us h;cases h with|cons r t=>
 cases t;exact⟨_,rfl,r⟩
section
variable{l b:Ye}{xs ys zs:List V}
theorem aM.lset{its':List Yd}{f:Array Yd->Array Yd}(I:aM X Za σ H s)(a:H l=Ya (.lst xs))(e:s.heap.get? l=Ya {cls:=.type "list",data:=.seq its.toArray n})(b:f its.toArray=its'.toArray)(c:Vals ys its')(hz:ys.length<=sizeLine):
  aM X Za σ (upd H l (.lst ys)) {s with heap:=s.heap.update l (WC f),toks:=t'}:=by
 have q:=PySem.IsL.update e f;rw[b]at q;refine I.write (x:=l) (e:=l) (by rw[a];exact trivial) (.inl rfl) (λh u d g=>(oh s.heap (WC f) (cT d)).trans g) ⟨_,q⟩ ?_;exact⟨hz,its',_,c,q⟩
theorem aM.lnew(I:aM X Za σ H s)(a:Vals ys its)(hz:ys.length<=sizeLine):
  aM X Za σ (upd H s.heap.objs.size (.lst ys)) {s with heap:=s.heap.push {cls:=.type "list",data:=.seq its.toArray},toks:=t'}:=
 I.laid (λ_ _ q=>Yg _ q) (Yj _) ⟨hz,its,0,a,Yr _ rfl⟩
theorem aM.fresh(I:aM X Za σ H s):H s.heap.objs.size=none:=I.hok.fresh (Yj _)
theorem aM.lstM(I:aM X Za σ H s)(a:H l=Ya (.lst xs)):xs.length<=sizeLine/\∃(its:List Yd) (n:Nat),Vals xs its/\xs.length=its.length/\s.heap.get? l=Ya {cls:=.type "list",data:=.seq its.toArray n}:=by
 obtain⟨z,its,n,r,e⟩:=I.hok l _ a;exact⟨z,its,n,r,r.length,e⟩
theorem Ln(h:n<=sizeLine):aaG n=false:=by
 unfold aaG;exact decide_eq_false (by omega)
end
section
def wz:V->List V->Hp->VK->Prop:=λx b H Q=>∃l a y,x=.ref l/\b=[y]/\H l=Ya (.lst a)/\a.length<sizeLine/\Q .non (upd H l (.lst (a++[y])))
theorem qm:Wc X "list.append" wz:=by
 intro g s σ H x i v j Q I c d h;obtain⟨l,k,y,rfl,rfl,b,m,q⟩:=h;cases c;obtain⟨u,rfl,f⟩:=d.one;obtain⟨z,a,n,r,hl,e⟩:=I.lstM b;refine aaP X5 ⟨_,e,rfl⟩ F.entry_list_append (F.args_list_append_2 _ _) (PySem.list_append l a.toArray n u (by rw[Yw];omega)) ⟨e,?_⟩;refine⟨.non,_,I.lset (its':=a++[u]) b e (by simp) (r.append (.cons f .nil)) ?_,rfl,q⟩;rw[Yq,YV];omega
def N4:V->List V->Hp->VK->Prop:=λx d H Q=>∃l b a c,x=.ref l/\d=[.ref b]/\H l=Ya (.lst a)/\H b=Ya (.lst c)/\a.length+ c.length<=sizeLine/\Q .non (upd H l (.lst (a++c)))
theorem Hx:Wc X "list.extend" N4:=by
 intro w s σ H x y v A Q I i j h;obtain⟨l,b,B,C,rfl,rfl,g,k,D,q⟩:=h;cases i;obtain⟨u,rfl,m⟩:=j.one;cases m;obtain⟨z,c,n,r,hl,e⟩:=I.lstM g;obtain⟨E,a,n2,o,p,t⟩:=I.lstM k;have f:c.toArray.size+ a.toArray.size<=sizeLine:=by rw[Yw,Yw];omega
 have d:¬ (!c.toArray.isEmpty&&aaG (c.toArray.size+ a.toArray.size))=true:=by
  rw[Ln f,aey];exact YN
 refine aaP acL ⟨_,e,rfl⟩ F.entry_list_extend (F.args_list_extend_2 _ _)
  (AutoSeq1.list_extend_list_list_0 l c.toArray n b a.toArray n2 d (by rw[Yw];omega) (by omega)) ⟨e,t,?_⟩
 refine⟨.non,_,I.lset (its':=c++a) g e (by simp) (r.append o) ?_,rfl,q⟩;rw[Yq];omega
def TC:R2:=λx y H Q=>∃l b a c,x=.ref l/\y=.ref b/\H l=Ya (.lst a)/\H b=Ya (.lst c)/\a.length+ c.length<=sizeLine/\∀p,H p=Yb->Q (.ref p) (upd H p (.lst (a++c)))
theorem FF:rA X (binaryOp .Add) TC:=by
 intro p s σ H x y v u Q I d f h;obtain⟨l,b,t,w,rfl,rfl,g,i,A,q⟩:=h;cases d;cases f;obtain⟨z,c,n,r,hl,e⟩:=I.lstM g;obtain⟨B,a,n2,j,k,m⟩:=I.lstM i;refine PySem.P.add_list e m ?_ (by rw[Yw,Yw];omega);have o:c.toArray++a.toArray=(c++a).toArray:=by simp
 rw[o];exact⟨.ref _,_,I.lnew (t':=s.toks) (r.append j) (by rw[Yq];omega),rfl,q _ I.fresh⟩
end
section
variable{prog:YO}{w:YW}{A:nh}{E:Yd->Yl->Prop}
end
section
end
end L2
namespace Att
open PySem PySem.W PySem.Calls PyProof.Rows
variable{P:Params}{h:YK}{l:OpenLaw}{n:Nat}
theorem vU:∀(ns:List Int) (vs:List Yd),WellAll P h vs (ns.map WData.int)->IntsAre vs ns:=by
 intro ns
 induction ns with
 |nil=>
  intro vs w;rw[aaF]at w;cases w;exact .nil
 |cons n ns ih=>
  intro vs w;rw[Yz]at w;cases w with
  |cons a b=>
   cases a;exact .cons _ _ (ih _ b)
theorem Hz(hn:l.most=Ya n){b:List WData}{i:List Yd}(c:l.row.toRowW.claim.pre b=true)(f:WellAll P h i b):
  ∃a vs ns,i=[YA a]/\b=[WData.list (ns.map WData.int)]/\h.get? a=Ya {cls:=.type "list",data:=.seq vs.toArray}/\IntsAre vs ns/\ns.length<=n:=by
 have g:WShape.hasAll [] b [.list .int]=true:=(pre_splitW c).1;have j:l.pre.holds [] {args:=b}=true:=(pre_splitW c).2;obtain⟨d,r,rfl,h1,h2⟩:=hasAllW_cons g;obtain rfl:=hasAllW_nil h2;obtain⟨m,rfl,h3⟩:=hasW_list h1;obtain⟨ns,rfl⟩:=items_int h3;have e:ns.length<=n:=by
  unfold OpenLaw.pre at j;have h4:(WTm.not (.lt (.lit (.int (n:Int))) (.len (.arg 0)))).holds [] {args:=[.list (ns.map .int)]}=true:=by
   have h4:=(holds_andW j).1;rw[hn]at h4;exact h4
  have h5:=condW_of h4 (w_not (w_lt w_lit (w_len_list (w_arg rfl))));rw[Yf]at h5;refine Nat.le_of_not_lt λq=>?_;have k:(n:Int)<((ns.length:Nat):Int):=by omega
  first
   |(rw[decide_eq_true k]at h5;exact absurd h5 (by decide))
   |(simp at h5;omega)
 cases f with
 |cons w1 w2=>
  cases w2;cases w1 with
  |list ho hall=>exact⟨_,_,ns,rfl,rfl,ho,vU ns _ hall,e⟩
theorem HS(l:OpenLaw)(a:List WData):l.row.toRowW.claim.post a (.bool true) a=true:=
 postW_of (r:=l.row.toRowW) (X:=(true==true))
  (show WShape.has [] (.bool true) .bool=true by first|rfl|decide|simp[WShape.has,WShape.arms,WShape.armsAll])
  (show(WTm.eq .res (.lit (.bool true))).value [] {args:=a,res:=Ya (.bool true),after:=a}=Ya (.bool (true==true))from w_eq_bool (w_res rfl) w_lit) rfl
theorem attach_call{q:YO}{b:List Yn}{y:(Yn->Option Yd)->YK->Prop}{z:YW->YK->Prop}{d:DefRec}(hn:l.most=Ya n)(p:d.params.defaults=[])(call:∀(w:YW) (s₀ c:Yl) (mg s:Yn->Option Yd) (h:Ye) (o:Y9) (t m e:Yd) (a:Ye) (vs:List Yd) (ns:List Int),
   Ground q b [] y w s₀ mg s c.heap->z w c.heap->
   c.heap.get? h=Ya o->o.data=.func (docDef d.name d.params d.body d.scope t m e)->c.heap.CodeRec m d.name->mg d.name=Ya (.ref h)->
   c.heap.get? a=Ya {cls:=.type "list",data:=.seq vs.toArray}->IntsAre vs ns->ns.length<=n->c.gens=#[]->
   sq (model l.prog w) abZ (.call (.ref h) ⟨[.ref a],[]⟩) (λr s'=>r=.ok (.ret (.bool true))/\OldK c.heap s'.heap/\s'.os=c.os/\aat s'.gens) c):
  WalkO q b y z l.row.toRowW d [] (λf vs=>PySem.call f vs):=by
 intro w s₀ c mg s G Y h o t m e D kV ho hd u A v E B J K i C F x H;obtain rfl:D=.none:=Dflts.none A p;obtain rfl:kV=.none:=Dflts.noKw A;obtain⟨a,vs,ns,rfl,rfl,j,g,k⟩:=Hz hn i x;refine enter_call (codeAny_mono (call w s₀ c mg s h o t m e a vs ns G Y ho (fd_plain hd) u v j g k E) λr s' I=>?_);obtain⟨rfl,h2,h3,h4⟩:=I;exact⟨.inl ⟨.bool true,.bool true,[],rfl,λ_=>rfl,.bool true,HS l _,λ_=>⟨List.Pairwise.nil,λ_ hm=>(nomatch hm)⟩⟩,h2,h3,h4⟩
section
variable{prog:YO}{w:YW}{A:nh}{E:Yd->Yl->Prop}{s:Yl}{K:Frag}
end
end Att
namespace L2
open PySem PySem.Spec PyProof.Rows
variable{P:YO}{w:YW}{mg:Yn->Option Yd}{k n:Nat}{a f:Ye}{fd:Yx}{x Zb:Yn}{sp:Sp}{X:Cx}{ps:List Yn}{A B:Prop}{H H':Hp}
theorem uv:∀{vs:List Yd} {ns:List Int},IntsAre vs ns->Vals (ns.map V.int) vs
 |_,_,.nil=>.nil
 |_,_,.cons n t h=>.cons ⟨t,rfl⟩ (uv h)
def Rb(H:Hp):Prop:=∀b,H b=Yb∨∃o a,H b=Ya (.frz o (.lst a))
theorem Kg{K:Yc}{G:Yn->Option Yd}{CX:LV}{I:Ye}{c:Yl}{vs:List Yd}{ns:List Int}(Q:K.In c.heap)(p:c.heap.Ns Y5 mg)(g:c.heap.Ns aee G)(J:∀x:Yn,x≠"__name__"->G x=Xk x)(t:c.heap.NoLimit)(X:c.gens=#[])(ha:c.heap.get? a=Ya {cls:=.type "list",data:=.seq vs.toArray})(R:IntsAre vs ns)(hl:ns.length<=sizeLine)(Y:cR k abZ)(F:∀base:YK,K.In base->base.Ns Y5 mg->aF P w K mg base CX k I fd [x] sp)(l:∀(s:Yl) (u:Yd),BindsTo s fd ⟨[u],[]⟩ [(x,u)])(L:∀H:Hp,Rb H->bo K H a (ns.map V.int)->sp [.ref a] H (λv _=>v=.bl true) λ_ _ _=>False)(M:∀H e s',CX [] H c (λ_ _ _=>False) e s'->False):
  sq (model P w) abZ (.call (.ref I) ⟨[.ref a],[]⟩) (λr s'=>r=.ok (.ret (.bool true))/\OldK c.heap s'.heap/\s'.os=c.os/\aat s'.gens) c:=by
 have S:=uv R;have y:=R.length
 -- from an abstract heap in which nothing but the script may be tracked
 have j:∀H:Hp,Rb H->bo K H a (ns.map V.int)->lO P w H c.heap->(∀b,H b≠Yb->b=a)->(H a≠Yb->K.lookup a=Yb)->
   sq (model P w) abZ (.call (.ref I) ⟨[.ref a],[]⟩) (λr s'=>r=.ok (.ret (.bool true))/\OldK c.heap s'.heap/\s'.os=c.os/\aat s'.gens) c:=by
  intro H T Z hok U hK;have f:∀{b:Ye} {o:Y9},c.heap.get? b=Ya o->H b=Yb->(Bo c.heap H).get? b=Ya o:=λe n=>J7 e n;have N:∀{b:Ye} {o:Y9} {A:Array gm} {B:Nat},c.heap.get? b=Ya o->o.data=.dict A B->H b=none:=fun{b o A B} e d=>by
   cases q:H b with
   |none=>rfl
   |some u=>
    have O:b=a:=U b (by rw[q];simp);subst O;rw[ha]at e;cases e;have d':Data.seq vs.toArray _=Data.dict A B:=d;cases d'
  have i:∀{b:Ye} {m:Yn->Option Yd},c.heap.Ns b m->(Bo c.heap H).Ns b m:=fun{b m} ⟨o,A,B,e,d,r⟩=>⟨o,A,B,f e (N e d),d,r⟩;have C:K.In (Bo c.heap H):=λb o e=>f (Q b o e) (by
   cases q:H b with
   |none=>rfl
   |some u=>
    have O:b=a:=U b (by rw[q];simp);subst O;rw[hK (by rw[q];simp)]at e;cases e)
  have hM:Mod K mg (Bo c.heap H):=⟨C,i p,⟨G,i g,J⟩,let ⟨mc,h1,h2⟩:=t;⟨mc,i h1,h2⟩⟩;have e0:Ex P w K mg (Bo c.heap H) abZ [] c H:=⟨rfl,hM,λb o e=>Nz e,aa8 (Ip _ _),trivial,λb g=>absurd (show b∈([]:List Ye)from g) (by simp),hok,.of_eq X⟩;refine codeAny_mono ((F _ C (i p)).run abZ [] c H ⟨[.ref a],[]⟩ [.ref a] [.ref a] _ _ Y e0 (l c (.ref a)) (.cons rfl .nil) (L H T Z)) λr s' h=>?_;cases r with
  |error e=>exact(M H e s' h).elim
  |ok fl=>
   cases fl with
   |next=>exact Wu h
   |brk=>exact Wu h
   |cont=>exact Wu h
   |ret u=>
    obtain⟨v,H',os,bare,un,D,r',q⟩:=h;have q':v=.bl true:=q;subst q';obtain rfl:u=aaq true:=r';refine⟨rfl,OldK.of_keep λb o e=>?_,os,bare⟩;cases q:H b with
    |none=>exact un.keep b o e q (by intro z;exact absurd (show b∈([]:List Ye)from z) (by simp)) (by simp)
    |some u=>
     rcases T b with z|⟨ob,xs,z⟩
     ·rw[q]at z;cases z
     ·have z2:=un.frzs b ob _ z;obtain⟨W,_⟩:=hok b _ z;obtain⟨e2,_⟩:=D b _ z2;rw[e]at W;cases W;exact e2
 cases hk:K.lookup a with
 |some o=>
  -- the script is one of the module's own objects
  have e:=Q a o hk;rw[ha]at e;cases e;refine j (λ_=>Yb) (λ_=>.inl rfl) (.inr ⟨_,vs.toArray,_,hk,rfl,rfl,rfl,by rw[Yw,y];exact hl,by simpa using S⟩) (λb u z=>by have E:(Yb:Option HO)=Ya u:=z;cases E) (λb z=>absurd rfl z) λz=>absurd rfl z
 |none=>
  refine j (λb=>if b=a then Ya (.frz {cls:=.type "list",data:=.seq vs.toArray} (.lst (ns.map V.int)))else Yb) (λb=>?_) (.inl (.inr ⟨{cls:=.type "list",data:=.seq vs.toArray},if_pos rfl⟩)) (λb u z=>?_) (λb z=>?_) λ_=>hk
  ·by_cases g:b=a
   ·exact .inr ⟨_,_,if_pos g⟩
   ·exact .inl (if_neg g)
  ·by_cases g:b=a
   ·have E:=(if_pos g).symm.trans z;cases E;subst g;exact⟨ha,by rw[Yf];exact hl,vs,_,S,ha⟩
   ·have E:=(if_neg g).symm.trans z;cases E
  ·by_cases g:b=a
   ·exact g
   ·exact absurd (if_neg g) z
theorem OD{l:ac8}{q:YO}{c:List Yn}{B:(Yn->Option Yd)->YK->Prop}{z:YW->YK->Prop}{d:DefRec}{K:Params->Yc}{CX:YW->LV}{sp:YW->Sp}(hn:l.most=Ya n)(m:n<=sizeLine)(p:d.params.defaults=[])(C:cR k abZ)(D:∀(w:YW) (h:YK),z w h->(K w.params).In h)(F:∀(w:YW) (mg:Yn->Option Yd) (j:Ye) (h:YK),(K w.params).In h->h.Ns Y5 mg->mg d.name=Ya (.ref j)->
   ∃fd:Yx,(∀(s:Yl) (u:Yd),BindsTo s fd ⟨[u],[]⟩ [(x,u)])/\
    ∀base:YK,(K w.params).In base->base.Ns Y5 mg->aF l.prog w (K w.params) mg base (CX w) k j fd [x] (sp w)) (r:∀(w:YW) (H:Hp) (a:Ye) (ns:List Int),ns.length<=n->Rb H->bo (K w.params) H a (ns.map V.int)->sp w [.ref a] H (λv _=>v=.bl true) λ_ _ _=>False) (t:∀(w:YW) (H:Hp) (s:Yl) (e:Yd) (s':Yl),CX w [] H s (λ_ _ _=>False) e s'->False):
  aeO q c B z l.row.toRowW d [] (λf vs=>PySem.call f vs):=by
 refine Att.attach_call hn p λw s₀ E mg Q j o R S I a vs ns G Y ho hd J y i g b L=>?_;have A:=D w _ Y;obtain⟨fd,M,N⟩:=F w mg j _ A G.T.g y;exact Kg A G.T.g G.T.b G.T.builtins G.T.nolimit L i g (cb b m) C N M (λH O P=>r w H a ns b O P) λH e s'=>t w H E e s'
def bz(s:YT)(j:Nat):YT:=match s with
 | .ClassDef _ _ _ Zq _ _ _ _ _ _ _=>Zq.getD j (.Pass ⟨0,0,0,0⟩)
 |_=>.Pass ⟨0,0,0,0⟩
def f7(s:YT):Arguments:=match s with
 | .FunctionDef _ a _ _ _ _ _ _ _ _=>a
 |_=>{posonlyargs:=[],args:=[],vararg:=Yb,kwonlyargs:=[],kw_defaults:=[],kwarg:=Yb,defaults:=[]}
def dN(s:YT):List YT:=match s with
 | .FunctionDef _ _ b _ _ _ _ _ _ _=>b
 |_=>[]
def ao(s:YT):X3:=match s with
 | .FunctionDef _ _ _ _ _ _ sc _ _ _=>sc
 |_=>{kind:=.function,names:=[],isGenerator:=false,isCoroutine:=false}
abbrev bx:LV:=λ_ _ _ _ _ _=>False
abbrev E0:XK:=λ_ _ _=>False
theorem nH:rV bx X E0:=λ_ _ _ _ _ _ _ h=>h.elim
structure bH(K:Yc)(x Zb:Yn)(st:YT)(f:Ye)(fd:Yx):Prop where
 ex:∃(oc:Yd) (od:Option Ye) (kV doc pm:Yd) (an:Option Ye) (cdv ct:Yd) (osl:Array (Option Yd)),
  fd=WS x Zb (f7 st) (dN st) (ao st) .none kV doc pm an cdv ct/\K.lookup f=Ya ⟨oc,od,.func fd,osl⟩/\aaO K cdv Zb=true
 kp:Xl K (.ref f)=true
section
variable{K:Yc}{base:YK}
theorem bH.ok{st:YT}{N:List Yn}(F:bH K x Zb st f fd)(S:aE N ps (ao st))(len:∀vs H Q E,sp vs H Q E->vs.length=ps.length)(b:∀(a:Yd) (A:nh) (outer:List aad) (s:Yl) (H:Hp) (vs:List V) (Q:VK) (E:XK),cR k (A.deeper (envOfC Zb (ao st) s.heap.objs.size f a))->sp vs H Q E->
   ∃t,BA (nX bx P w K mg base N Zb (ao st) f a A outer s H E).nox (dN st) t/\t {nx:=λ_ H'=>Q .non H',rt:=Q} (start N vs) H):aF P w K mg base bx (k+ 1) f fd ps sp:=by
 obtain⟨j,od,kV,e,l,m,a,ct,g,rfl,lk,c⟩:=F.ex;refine JJ lk c S len λA outer s H vs Q E i d=>?_;obtain⟨t,h,q⟩:=b a A outer s H vs Q E i d;exact⟨t,h.nox,q⟩
theorem bH.binds{st:YT}(F:bH K x Zb st f fd)(h:∀(kV a c:Yd) (d:Option Ye) (b ct:Yd) (us:List Yd),us.length=ps.length->bindArgs (WS x Zb (f7 st) (dN st) (ao st) .none kV a c d b ct) ⟨us,[]⟩=pure (ps.zip us)):Binds K fd ps []:=by
 obtain⟨i,od,kV,a,c,d,b,ct,e,rfl,lk,g⟩:=F.ex;exact .all (h kV a c d b ct)
theorem MM{st:YT}{h:Yd}{od e:Option Ye}{d:Array (Option Yd)}{kV b g a ct:Yd}(l:K.lookup f=Ya ⟨h,od,.func (WS x Zb (f7 st) (dN st) (ao st) .none kV b g e a ct),d⟩)(c:aaO K a Zb=true)(k:Xl K (.ref f)=true):bH K x Zb st f (WS x Zb (f7 st) (dN st) (ao st) .none kV b g e a ct):=⟨⟨h,od,kV,b,g,e,a,ct,d,rfl,l,c⟩,k⟩
end
theorem Hq{A:nh}(a:cR k A):A.units+ 1<Wy:=X6 (aaw (by decide:1<=64) _) a.units
theorem aJ(h:n<=1000):n<sizeLine:=X6 h (by decide)
section
theorem pv(i:Nat){pos:Xr}(b:X.N[i]?=Ya x:=by rfl)(c:VN X.env.scope x:=by first|exact YB rfl|exact abB (YB rfl)|exact abB (abB rfl))(hd:(x==("__debug__":Yn))=false:=by decide)(a:(x==("__classdict__":Yn))=false:=by decide):PE X (.Name x pos) (Jl i):=Sr b c hd a
end
theorem UG(h:B):if false=true then A else B:=by
 rw[if_neg YN];exact h
theorem Qv(h:A):if true=true then A else B:=by
 rw[if_pos rfl];exact h
theorem du{c:Prop}[Decidable c](h1:c->A)(h2:¬ c->B):if c then A else B:=by
 by_cases h:c
 ·rw[if_pos h];exact h1 h
 ·rw[if_neg h];exact h2 h
def aG(H a:Hp):Prop:=∀b o,H b=Ya o->a b=Ya o
theorem aG.refl(H:Hp):aG H H:=λ_ _ h=>h
theorem aG.trans{d e:Hp}(a:aG H d)(b:aG d e):aG H e:=λc o h=>b c o (a c o h)
theorem aG.free(e:aG H H'){l:Ye}(h:H' l=ae7):H l=ae7:=by
 cases q:H l with
 |none=>rfl
 |some o=>
  rw[e l o q]at h;cases h
theorem aG.seq{K:Yc}{xs:List V}(e:aG H H')(h:bo K H a xs):bo K H' a xs:=by
 rcases h with(h|⟨o,h⟩)|h
 ·exact .inl (.inl (e _ _ h))
 ·exact .inl (.inr ⟨o,e _ _ h⟩)
 ·exact .inr h
section
variable{κ:Type}[DecidableEq κ]
end
end L2
namespace GX
open PySem
variable{env:aad}{sc:X3}{n:Yn}{c:Ye}
theorem xP{α β:Type}{f:α->β->abL (ForInStep β)}(g:α->β->β):∀(l:List α) (b:β),(∀x∈l,∀b,f x b=pure (.yield (g x b)))->
  forIn l b f=pure (l.foldl (λb x=>g x b) b)
 |[],b,_=>rfl
 |x::l,b,h=>by
  simp only[List.forIn_cons,h x (.head _),pure_bind];exact xP g l (g x b) λy a=>h y (Yp _ a)
def rB(env:aad)(x:Yn×aaZ)(cs:List (Yn×Ye)):List (Yn×Ye):=if x.2==.free then(x.1,(env.cells.lookup x.1).getD 0)::cs else cs
theorem E5(h:∀y∈sc.names,y.2=.free->∃c,env.cells.lookup y.1=Ya c):
  closureFor sc env=pure (sc.names.foldl (λb x=>rB env x b) []):=by
 simp only[closureFor];rw[xP (rB env) sc.names [] (λx f b=>by
  obtain⟨n,k⟩:=x;unfold rB;by_cases a:k=.free
  ·subst a;obtain⟨c,d⟩:=h _ f rfl;have e:cellOf env n=pure c:=by unfold cellOf;rw[d]
   simp[e,d]
  ·have g:(k==BD)=false:=by simpa using a
   simp only[g,aaH,if_false])]
 rfl
theorem xQ{env:aad}:∀(l:List (Yn×aaZ)) (a:List (Yn×Ye)),(∀y∈l,y.2=.free->∃c,env.cells.lookup y.1=Ya c)->(∀p∈a,env.cells.lookup p.1=Ya p.2)->
  ∀p∈l.foldl (λb x=>rB env x b) a,env.cells.lookup p.1=Ya p.2
 |[],a,_,ha=>ha
 |x::l,a,h,ha=>by
  refine xQ l _ (λy e=>h y (Yp _ e)) λp hp=>?_;unfold rB at hp;dsimp only at hp;by_cases d:x.2=.free
  ·obtain⟨c,f⟩:=h x Ys d;rw[d]at hp;simp only[beq_self_eq_true,if_true]at hp;rcases Ym.mp hp with rfl|hp
   ·rw[f];rfl
   ·exact ha p hp
  ·have g:(x.2==BD)=false:=by simpa using d
   simp only[g,aaH,if_false]at hp;exact ha p hp
theorem wY{env:aad}{n:Yn}:∀(l:List (Yn×aaZ)) (a:List (Yn×Ye)),((∃c,(n,c)∈a)∨(n,BD)∈l)->∃c,(n,c)∈l.foldl (λb x=>rB env x b) a
 |[],a,h=>by
  rcases h with h|h
  ·exact h
  ·cases h
 |x::l,a,h=>by
  refine wY l _ ?_;unfold rB;dsimp only;rcases h with⟨c,h⟩|h
  ·refine .inl ⟨c,?_⟩;split
   ·exact Yp _ h
   ·exact h
  ·rcases Ym.mp h with h|h
   ·refine .inl ?_;subst h;exact⟨_,by rw[if_pos (by rfl)];exact .head _⟩
   ·exact .inr h
theorem q8{n:Yn}{c:Ye}:∀{l:List (Yn×Ye)},(n,c)∈l->∃a,l.lookup n=Ya a
 |[],h=>by cases h
 |(m,d)::l,h=>by
  rw[ab5];cases e:n==m with
  |true=>exact⟨d,rfl⟩
  |false=>
   rcases Ym.mp h with h|h
   ·cases h;simp at e
   ·exact q8 h
theorem LM{n:Yn}{c:Ye}:∀{l:List (Yn×Ye)},l.lookup n=Ya c->(n,c)∈l
 |[],h=>by cases h
 |(m,d)::l,h=>by
  rw[ab5]at h;cases e:n==m with
  |true=>
   rw[e]at h;have a:n=m:=by simpa using e
   have b:d=c:=YC h;rw[a,b];exact Ys
  |false=>
   rw[e]at h;exact Yp _ (LM h)
theorem yr(h:∀y∈sc.names,y.2=.free->∃c,env.cells.lookup y.1=Ya c):
  ∃cl,closureFor sc env=pure cl/\(∀x c,cl.lookup x=Ya c->env.cells.lookup x=Ya c)/\(∀n,(n,BD)∈sc.names->∃c,cl.lookup n=Ya c):=by
 refine⟨_,E5 h,λx c e=>?_,λn hn=>?_⟩
 ·exact xQ sc.names [] h (λp hp=>by cases hp) (x,c) (LM e)
 ·obtain⟨c,a⟩:=wY (env:=env) sc.names [] (.inr hn);exact q8 a
theorem oN{x:Yn}{a:List (Yn×aaZ)}:
  (a.map fun(n,k)=>if(k==BD&&env.scope.kind==.function&&env.kindOf n==Ya .cell)then(n,Xa)else(n,k)).lookup x
  =(a.lookup x).map λk=>if(k==BD&&env.scope.kind==.function&&env.kindOf x==Ya .cell)then Xa else k:=by
 induction a with
 |nil=>rfl
 |cons p r ih=>
  obtain⟨n,k⟩:=p;rw[Yz];by_cases e:x=n
  ·subst e;dsimp only;split<;>simp_all
  ·have b:(x==n)=false:=by simpa using e
   dsimp only;split<;>simp only[ab5,b]<;>exact ih
def AR(d a:Y2)(e:List Y2)(it b:Yd)(env:aad):abL Bool:=do
 match←pyNext it with
 |none=>pure false
 |some v=>
  letOwnedTupleGo a it v
  assign a env v
  let ok←forIn e true λc r=>if r=true then do let ok←isTrue c env (eval c env);pure (abb ok)else pure (abb r)
  if ok=true then do
   let x←eval d env;let _←call (.builtin "list.append") [b,x]
   pure true
  else pure true
theorem Pc(d a iter:Y2)(e:List Y2)(b:X3)(pos:Xr)(it c:Yd)(env:aad):
  compTurn (.ListComp d [⟨a,iter,e,0⟩] b pos) 0 it c env=(do
   aa2 iter.pos
   let more←AR d a e it c env
   if more=true then again (.compLoop (.ListComp d [⟨a,iter,e,0⟩] b pos) 0 it c env)else pure (.done .next)):=by
 rw[compTurn_list,AR];simp only[bind_assoc];congr 1;funext _;congr 1;funext r;cases r with
 |none=>simp
 |some v=>
  simp only[bind_assoc];congr 1;funext _;congr 1;funext _;congr 1;funext ok;cases ok<;>simp
theorem Dg{prog:YO}{w:YW}{A:nh}{R:aaj->Yl->Prop}{s:Yl}{d a iter:Y2}{e:List Y2}{b:X3}{pos:Xr}{it c:Yd}(I:Nat->Yl->Prop)(turn:∀n s,I n s->Yo (model prog w) A (AR d a e it c env) (λmore s'=>if more=true then∃m,m<n/\I m s' else R (.ok .next) s') (λ_ _=>False) s)(n:Nat)(h:I n s):
  sq (model prog w) A (.compLoop (.ListComp d [⟨a,iter,e,0⟩] b pos) 0 it c env) R s:=by
 apply codeAny_loop rfl I _ n h;intro n s f;apply wpAny_noted;rw[Pc];change Yo _ A _ _ _ _;apply wpAny_bind;apply wpAny_standAt;apply wpAny_bind;refine wpAny_mono (turn n s f) (λmore s' q=>?_) λ_ _ z=>z.elim;cases more
 ·exact wpAny_pure q
 ·exact wpAny_pure ⟨rfl,q⟩
end GX
namespace GX
open PySem PySem.Spec PyProof.Rows
variable{A:nh}{Zj v:Yd}{Q E:Yd->Yl->Prop}{s:Yl}{B:vc}{R:aaj->Yl->Prop}{nm:String}{Zn:List (Yn×Yd)}{ko d:Option Yd}
def kept:Option (Yd×Yd)->Array Yd
 |none=>#[]
 |some (x,k)=>#[x,k]
abbrev x6(a:Array Yd)(c:Nat):Y9:={cls:=.type "list",dict:=Yb,data:=.seq a c,slots:=#[]}
abbrev put(S:Ye)(a:Array Yd)(s:Yl):Yl:={s with heap:=s.heap.update S (WC λ_=>a)}
def qL(prog:YO)(w:YW)(A:nh)(a v:Yd)(Q:Yd->Yl->Prop)(s:Yl):Prop:=
 match a with
 | .none=>Q v s
 |f=>Yo (model prog w) A.in1 (call f [v]) Q (λ_ _=>False) s
def He(prog:YO)(w:YW)(op:aed)(g:String)(I S:Ye)(e:Yd)(f:List (Yn×Yd))(b:Option (Yd×Yd))(A:nh)(R:aaj->Yl->Prop):Option Yd->Yl->Prop
 |none,s=>(∃c,s.heap.get? S=Ya (x6 (kept b) c))/\match b with
  |some (x,_)=>R (.ok (.ret x)) (put S #[] s)
  |none=>∃n d r,f=(n,d)::r/\R (.ok (.ret d)) s
 |some v,s=>qL prog w A e v (λk s=>(∃c,s.heap.get? S=Ya (x6 (kept b) c))/\match b with
  |none=>sq (model prog w) A (.builtin g ⟨[.ref I,e,.ref S],f⟩) R (put S #[v,k] s)
  |some (_,k')=>Yo (model prog w) A.in1 (richCompare op k k') (λa s=>∃y c,a=.bool y/\s.heap.get? S=Ya (x6 (kept b) c)/\sq (model prog w) A (.builtin g ⟨[.ref I,e,.ref S],f⟩) R (if y then put S #[v,k] s else s)) (λ_ _=>False) s) s
abbrev Turn(prog:YO)(w:YW)(op:aed)(e:String)(B:vc):Prop:=∀(I S:Ye) (a:Yd) (d:List (Yn×Yd)) (b:Option (Yd×Yd)) (c:Nat),
 MeetsIn prog w (B ⟨[.ref I,a,.ref S],d⟩) λA R s=>s.heap.get? S=Ya (x6 (kept b) c)/\Yo (model prog w) A.in1 (pyNext (.ref I)) (He prog w op e I S a d b A R) (λ_ _=>False) s
section
variable{prog:YO}{w:YW}
theorem two{x k:Yd}:(kept (Ya (x,k))).size<=sizeLine:=by show 2<=sizeLine;decide +kernel
theorem key_of{P:ab6->Yl->Prop}{f:Yd->abL ab6}(r:Yd->abL Yd)(h:qL prog w A Zj v Q s)(m:∀k s,Q k s->Yo (model prog w) A.in1 (f k) P E s):
  Yo (model prog w) A.in1 (match Zj with| .none=>pure v >>= f|_=>tryCatch (holding [v] (call Zj [v])) r >>= f) P E s:=by
 unfold qL at h;split at h
 ·exact wpAny_bind (wpAny_pure (m _ _ h))
 ·exact wpAny_bind (wpAny_tryCatch (wpAny_holding (wpAny_mono h m λ_ _ z=>z.elim)))
theorem B5:Turn prog w .Lt "min.loop" vc.«min.loop»:=by
 intro I S g i b c A R s ⟨e,nx⟩;show Yo _ _ (adp (.ref S) >>= _) _ _ s;apply wpAny_bind;apply wpAny_seqItems e rfl;apply wpAny_bind;apply wpAny_tryCatch;refine wpAny_mono nx (λr j h=>?_) λ_ _ z=>z.elim;rcases r with _|v<;>rcases b with _|⟨x,m⟩
 ·obtain⟨_,n,d,l,rfl,q⟩:=h
  wp_walk
  exact q
 ·obtain⟨⟨c1,h1⟩,q⟩:=h;apply wpAny_bind;refine wpAny_updateSeq h1 rfl ?_ two
  wp_walk
  exact q
 ·unfold He at h;refine key_of _ h λk f h=>?_;obtain⟨⟨o,h2⟩,q⟩:=h;apply wpAny_bind;apply wpAny_updateSeq h2 rfl;exact wpAny_pure ⟨plainId_quiet XC _,q⟩
 ·unfold He at h;refine key_of _ h λk f h=>?_;obtain⟨_,q⟩:=h;apply wpAny_bind;apply wpAny_tryCatch;apply wpAny_holding;apply wpAny_bind;refine wpAny_mono q (λa p h=>?_) λ_ _ z=>z.elim;obtain⟨y,t,rfl,h3,q⟩:=h
  wp_walk
  cases y
  ·wp_walk
   exact⟨plainId_quiet XC _,q⟩
  ·refine wpAny_ite_true rfl (wpAny_bind (wpAny_updateSeq h3 rfl ?_ two))
   wp_walk
   exact⟨plainId_quiet XC _,q⟩
theorem enter{id:String}{a:Args}{Sp:afj}(b:aaa abw id=Ya B)(hp:acM id=true)(m:MeetsIn prog w (B a) Sp)(h:Sp A R s):
  sq (model prog w) A (.builtin id a) R s:=codeAny_builtin b (by rw[Around.under_plainId hp];exact m A R s h)
def Hc(bt:Nat->Nat->Bool)(n i:Nat):Prop:=∀j,j<n->bt j i=false/\(j<i->bt i j=true)
structure Nv(prog:YO)(w:YW)(A:nh)(Zj:Yd)(op:aed)(l I S:Ye)(vs:List Yd)(bt:Nat->Nat->Bool)(G:List (Nat×Yd)->Yl->Prop):Prop where
 irr:∀i,bt i i=false
 asy:∀i j,bt i j=true->bt j i=false
 cov:∀a b c,bt a b=true->bt c b=false->bt a c=true
 tail:∀p q L s,G (p::q::L) s->G (q::L) s
 head:∀p L s,G (p::L) s->G [p] s
 calm:∀x L s h tk,x=I∨x=S->G L s->(∀b o,b≠x->s.heap.get? b=Ya o->h.get? b=Ya o)->G L {s with heap:=h,toks:=tk}
 list:∀L s,G L s->s.heap.IsList l vs.toArray
 keys:∀L s j v a c m,G L s->vs[j]?=Ya v->s.heap.get? S=Ya (x6 a c)->s.heap.IsListIter I l m->qL prog w A Zj v (λk s=>G ((j,k)::L) s/\s.heap.get? S=Ya (x6 a c)/\s.heap.IsListIter I l m) s
 cmp:∀i j k k' s,G [(j,k),(i,k')] s->Yo (model prog w) A.in1 (richCompare op k k') (λa s'=>a=.bool (bt j i)/\s'=s) (λ_ _=>False) s
theorem qL.imp{a:Yd->Yl->Prop}(h:qL prog w A Zj v Q s)(m:∀k s,Q k s->a k s):qL prog w A Zj v a s:=by
 unfold qL at h⊢;split at h
 ·exact m _ _ h
 ·exact wpAny_mono h m λ_ _ z=>z
def TR(bt:Nat->Nat->Bool)(vs:List Yd)(j:Nat):Option (Nat×Yd×Yd)->Prop
 |none=>j=0
 |some (i,x,_)=>i<j/\vs[i]?=Ya x/\Hc bt j i
def So:Option (Nat×Yd×Yd)->List (Nat×Yd)
 |none=>[]
 |some (i,_,k)=>[(i,k)]
variable{op:aed}{lp:String}{l I S:Ye}{vs:List Yd}{bt:Nat->Nat->Bool}{G:List (Nat×Yd)->Yl->Prop}{kw:List (Yn×Yd)}
theorem Nv.put(M:Nv prog w A Zj op l I S vs bt G){L:List (Nat×Yd)}{a b:Array Yd}{c m:Nat}(d:S≠I)(g:G L s)(f:s.heap.get? S=Ya (x6 a c))(h:s.heap.IsListIter I l m):
  G L (put S b s)/\(∃c,(put S b s).heap.get? S=Ya (x6 b c))/\(put S b s).heap.IsListIter I l m:=
 ⟨M.calm S L s _ s.toks (.inr rfl) g λx o n e=>(oh _ _ (cT n)).trans e,⟨_,Ww _ f rfl⟩,h.at λo e=>(oh _ _ d).trans e⟩
theorem IJ(T:Turn prog w op lp B)(J:aaa abw lp=Ya B)(hp:acM lp=true)(O:A.handled=Yb)(M:Nv prog w A Zj op l I S vs bt G)(P:l≠I)(C:S≠I)
  (Q:vs=[]->∃n d r,kw=(n,d)::r/\∀s,G [] s->R (.ok (.ret d)) s) (U:∀i v k s,vs[i]?=Ya v->Hc bt vs.length i->G [(i,k)] s->R (.ok (.ret v)) s):
  ∀(r j:Nat) (b:Option (Nat×Yd×Yd)) (s:Yl) (c:Nat),vs.length=j+ r->TR bt vs j b->G (So b) s->s.heap.get? S=Ya (x6 (kept (b.map (·.2))) c)->s.heap.IsListIter I l j->
   sq (model prog w) A (.builtin lp ⟨[.ref I,Zj,.ref S],kw⟩) R s:=by
 have W:=abc (prog:=prog) (w:=w) (A:=A.in1) O I l P vs.toArray;intro r
 induction r with
 |zero=>
  intro j b s c V m g p D;obtain rfl:j=vs.toArray.size:=by rw[Yw];omega
  refine enter J hp (T I S Zj kw _ c) ⟨p,W.done _ _ _ ⟨D,M.list _ _ g⟩ λh tk k=>?_⟩;have t:=M.calm I _ _ h tk (.inl rfl) g λx o n e=>k x o (by simpa using n) e;refine⟨⟨c,k S _ (by simpa using C) p⟩,?_⟩;rcases b with _|⟨i,x,y⟩
  ·obtain⟨n,d,l,e,q⟩:=Q (Wz (by simpa using(show vs.toArray.size=0 from m)));exact⟨n,d,l,e,q _ t⟩
  ·exact U i x y _ m.2.1 (by simpa using m.2.2) (M.calm S _ _ _ tk (.inr rfl) t λz o n e=>(oh _ _ (cT n)).trans e)
 |succ r ih=>
  intro j b s c V m g p D;refine enter J hp (T I S Zj kw _ c) ⟨p,W.item j _ _ _ (by rw[Yw];omega) ⟨D,M.list _ _ g⟩ λv h tk u st k=>?_⟩;have u:vs[j]?=Ya v:=by simpa using u
  have t:=M.calm I _ _ h tk (.inl rfl) g λx o n e=>k x o (by simpa using n) e;unfold He;refine qL.imp (M.keys _ _ j v _ _ _ t u (k S _ (by simpa using C) p) st.1) λy K ⟨E,h2,L⟩=>⟨⟨c,h2⟩,?_⟩;have more:(∀i,i<j->bt j i=true)->sq (model prog w) A (.builtin lp ⟨[.ref I,Zj,.ref S],kw⟩) R (put S #[v,y] K):=λup=>by
   obtain⟨X,⟨Y,h3⟩,Z⟩:=M.put (b:=#[v,y]) C E h2 L;refine ih (j+ 1) (Ya (j,v,y)) _ Y (by omega) ⟨Xv _,u,λi F=>?_⟩ (M.head _ _ _ X) h3 Z;rcases ab7.mp F with z|rfl
   ·exact⟨M.asy _ _ (up i z),λ_=>up i z⟩
   ·exact⟨M.irr _,λz=>absurd z (Y7 _)⟩
  rcases b with _|⟨i,x,z⟩
  ·exact more λi F=>absurd (show j=0 from m) (by omega)
  ·obtain⟨F,hx,ft⟩:=m;refine wpAny_mono (M.cmp i j y z K E) (λa s3 ⟨ea,N⟩=>⟨_,c,ea,N▸h2,?_⟩) λ_ _ z=>z;subst N;cases e:bt j i with
   |true=>exact more λH f=>M.cov _ _ _ e (ft H f).1
   |false=>
    refine ih (j+ 1) (Ya (i,x,z)) _ c (by omega) ⟨by omega,hx,λH f=>?_⟩ (M.tail _ _ _ _ E) h2 L;rcases ab7.mp f with z|rfl
    ·exact ft H z
    ·exact⟨e,λz=>absurd z (by omega)⟩
abbrev Md(prog:YO)(w:YW)(a f:String):Prop:=∀(A:nh) (s:Yl) (Q E:Yd->Yl->Prop) (b:List (Yn×Yd)) (e d:Option Yd) (l:Ye) (c:Array Yd),
 aao a ["key","default"] 0 ⟨[],b⟩=pure [e,d]->argsOk a ⟨[.ref l],b⟩->s.heap.IsList l c->
 sq (model prog w) A (.builtin f ⟨[.ref s.heap.objs.size,e.getD .none,.ref (s.heap.objs.size+ 1)],d.toList.map λd=>("default",d)⟩) (wants Q E)
  {s with heap:=(s.heap.push {cls:=.type "list_iterator",data:=.fields #[.ref l,.int 0 0]}).push (x6 #[] 0)}->Yo (model prog w) A (call (.builtin a) [.ref l] b) Q E s
theorem zw:Md prog w "min" "min.loop":=by
 intro A s Q E c e d l a b ha hl h;refine kmb_tree F.kind_min F.plain_min F.entry_min ha ?_
 wp_walk using wpAny_of_eq b,wpAny_pyIter_list hl
 rw[WV];exact⟨plainId_quiet XC _,h⟩
theorem zC(O:Md prog w nm lp)(T:Turn prog w op lp B)(a:aaa abw lp=Ya B)(hp:acM lp=true)(c:A.handled=Yb)(f:aao nm ["key","default"] 0 ⟨[],Zn⟩=pure [ko,d])(ha:argsOk nm ⟨[.ref l],Zn⟩)(hl:s.heap.IsList l vs.toArray)(M:Nv prog w A (ko.getD .none) op l s.heap.objs.size (s.heap.objs.size+ 1) vs bt G)(g:∀h,(∀b o,s.heap.get? b=Ya o->h.get? b=Ya o)->G [] {s with heap:=h})(j:vs=[]->∃x,d=Ya x/\∀s,G [] s->Q x s)(m:∀i v k s,vs[i]?=Ya v->Hc bt vs.length i->G [(i,k)] s->Q v s):Yo (model prog w) A (call (.builtin nm) [.ref l] Zn) Q E s:=by
 obtain⟨o,ho,_⟩:=id hl;refine O A s Q E Zn ko d l _ f ha hl (IJ T a hp c M (YE (Yu ho)) (Nat.succ_ne_self _) (λe=>?_) m vs.length 0 Yb _ 0 (adq _).symm rfl (g _ λb o e=>?_) ?_ ?_)
 ·obtain⟨x,rfl,q⟩:=j e;exact⟨_,x,[],rfl,q⟩
 ·exact Yg _ (Yg _ e)
 ·exact adK (WV ..).symm rfl
 ·exact⟨_,Yg _ (Yr _ rfl),rfl,rfl⟩
abbrev sE(h h':YK):Prop:=∀b o,h.get? b=Ya o->h'.get? b=Ya o
theorem Fz(O:Md prog w nm lp)(T:Turn prog w op lp B)(y:aaa abw lp=Ya B)(hp:acM lp=true)(z:A.handled=Yb)(C:aao nm ["key","default"] 0 ⟨[],Zn⟩=pure [ko,d])(ha:argsOk nm ⟨[.ref l],Zn⟩)(hl:s.heap.IsList l vs.toArray)(bt:Nat->Nat->Bool)(irr:∀i,bt i i=false)(asy:∀i j,bt i j=true->bt j i=false)(cov:∀a b c,bt a b=true->bt c b=false->bt a c=true)(KK:Nat->Yd->Prop)(keys:∀j v h tk,vs[j]?=Ya v->sE s.heap h->qL prog w A (ko.getD .none) v (λk s'=>KK j k/\∃tk,s'={s with heap:=h,toks:=tk}) {s with heap:=h,toks:=tk})(cmp:∀i j k n h tk,KK j k->KK i n->sE s.heap h->∀Q:Yd->Yl->Prop,Q (.bool (bt j i)) {s with heap:=h,toks:=tk}->Yo (model prog w) A.in1 (richCompare op k n) Q (λ_ _=>False) {s with heap:=h,toks:=tk})(D:vs=[]->∃x,d=Ya x/\∀h tk,sE s.heap h->Q x {s with heap:=h,toks:=tk})(F:∀i v h tk,vs[i]?=Ya v->Hc bt vs.length i->sE s.heap h->Q v {s with heap:=h,toks:=tk}):
  Yo (model prog w) A (call (.builtin nm) [.ref l] Zn) Q E s:=by
 refine zC (bt:=bt) (G:=λL s'=>(∃h tk,s'={s with heap:=h,toks:=tk}/\sE s.heap h)/\∀p∈L,KK p.1 p.2) O T y hp z C ha hl ⟨irr,asy,cov,?_,?_,?_,?_,?_,?_⟩ (λh k=>⟨⟨h,s.toks,rfl,k⟩,by simp⟩) (λe=>?_) ?_
 ·exact λp q L s g=>⟨g.1,λq r=>g.2 q (Yp _ r)⟩
 ·exact λp L s g=>⟨g.1,λq r=>g.2 q (Yh.mp r▸Ys)⟩
 ·rintro x L s' h tk t ⟨⟨H,f,rfl,G⟩,q⟩ k;refine⟨⟨h,tk,rfl,λb o e=>k b o ?_ (G b o e)⟩,q⟩;have:=Yu e;rcases t with rfl|rfl
  ·exact YE this
  ·exact YE (XJ this)
 ·rintro L s' ⟨⟨H,f,rfl,G⟩,q⟩;exact hl.at λo e=>G _ _ e
 ·rintro L s' j v a c m ⟨⟨h,tk,rfl,G⟩,q⟩ u I J;refine(keys j v h tk u G).imp ?_;rintro k s' ⟨K,f,rfl⟩;refine⟨⟨⟨h,f,rfl,G⟩,λp hp=>?_⟩,I,J⟩;rcases Ym.mp hp with rfl|hp
  ·exact K
  ·exact q p hp
 ·rintro i j k n s' ⟨⟨h,tk,rfl,G⟩,q⟩;exact cmp i j k n h tk (q (j,k) (by simp)) (q (i,n) (by simp)) G _ ⟨rfl,rfl⟩
 ·obtain⟨x,t,q⟩:=D e;exact⟨x,t,λs' ⟨⟨h,tk,e,G⟩,_⟩=>e▸q h tk G⟩
 ·exact λi v k s' u ft ⟨⟨h,tk,e,G⟩,_⟩=>e▸F i v h tk u ft G
end
end GX
namespace GX
open PySem
end GX
namespace GB
variable{n b h:Nat}
theorem Hm(n h:Nat):(n &&& 2^h=0)↔n.testBit h=false:=by
 constructor
 ·intro e;have q:(n &&& 2^h).testBit h=false:=by rw[e];exact ab8 h
  rw[aej,Nat.testBit_two_pow_self,Bool.and_true]at q;exact q
 ·intro e;apply Nat.eq_of_testBit_eq;intro i;rw[aej,ab8,adf];by_cases a:h=i
  ·subst a;rw[e];rfl
  ·rw[decide_eq_false a,aey]
def Ju(n:Nat):List Nat:=(Y3 63).filter λh=>n.testBit h
theorem Lj(hn:n<2^b)(a:b<=h):n.testBit h=false:=
 Nat.testBit_lt_two_pow (YU hn (acZ (by decide) a))
theorem AF{p:Nat->Bool}{c:Nat}(a:b<=c)(hp:∀h,b<=h->p h=false):(Y3 c).filter p=(Y3 b).filter p:=by
 induction c with
 |zero=>
  have:b=0:=by omega
  subst this;rfl
 |succ c ih=>
  by_cases e:b=c+ 1
  ·subst e;rfl
  ·rw[aaB,YS,ih (by omega)];have:[c].filter p=[]:=by
    rw[GV,hp c (by omega)];rfl
   rw[this,gf]
theorem N9(a:b<=63)(hn:n<2^b):(Y3 b).filter (λh=>n.testBit h)=Ju n:=
 (AF a λ_ c=>Lj hn c).symm
theorem DV:h∈Ju n↔h<63/\n.testBit h=true:=by
 unfold Ju;rw[Y4,WG]
theorem Kw(n:Nat):(Ju n).length<=63:=by
 have:=YQ (λh=>n.testBit h) (Y3 63);rw[KW]at this;exact this
theorem jI(n:Nat):(Ju n).Pairwise (·<·):=List.Pairwise.filter _ aab
def hl(n:Int):List Int:=(Ju n.toNat).map (fun(h:Nat)=>(h:Int))
theorem RJ(n:Int):(hl n).length<=63:=by
 unfold hl;rw[Yf];exact Kw _
theorem Kc{n:Int}{a:Int}{r:List Int}(e:hl n=a::r):∀x∈hl n,a<=x:=by
 have s:(hl n).Pairwise (·<·):=by
  unfold hl;rw[abS];exact(jI _).imp λh=>by omega
 rw[e]at s⊢;intro x b;rcases Ym.mp b with rfl|b
 ·exact Xi _
 ·have:=(aaI.mp s).1 x b;omega
end GB
namespace GB
def Fh(l:List Nat):Nat:=l.foldl (λa h=>a ||| 2^h) 0
theorem DO(h:Nat):∀(l:List Nat) (a:Nat),(l.foldl (λa h=>a ||| 2^h) a).testBit h=(a.testBit h||decide (h∈l))
 |[],a=>by simp
 |x::l,a=>by
  rw[Xm,DO h l,Nat.testBit_or,adf,Bool.or_assoc];congr 1;rw[XG];simp only[aek,decide_eq_true_iff,Ym];constructor
  ·rintro(e|e)
   ·exact .inl e.symm
   ·exact .inr e
  ·rintro(e|e)
   ·exact .inl e.symm
   ·exact .inr e
theorem Cg(l:List Nat)(h:Nat):(Fh l).testBit h=decide (h∈l):=by
 unfold Fh;rw[DO,ab8,abF]
theorem NV{l:List Nat}{b:Nat}(h:∀x∈l,x<b):Fh l<2^b:=by
 apply Nat.lt_pow_two_of_testBit;intro i a;rw[Cg];exact decide_eq_false λz=>by have:=h i z;omega
end GB
namespace L2
open PySem PySem.Spec PyProof.Rows
variable{X:Cx}{H:Hp}{h:YK}{C D:Ye}{Zs tg iter e:Y2}{Zr es:List Y2}{sc:X3}{pos p:Xr}{g:TG}{tt:TT}{te:TE}{σ:St}{Qe:Hp->Prop}{wi:TI}{i:Nat}{x:Yn}{Zn:List aa3}{t:TA}
def Ut(N:List Yn)(sc:X3)(x:Yn):Option Nat->Bool
 |none=>true
 |some j=>decide (N[j]?=Ya x)&&decide (sc.names.lookup x=Ya .free)
def Ms(N c:List Yn)(a:List (Option Nat))(b sc:X3):Prop:=
 (∀y∈sc.names,y.2≠.cell)/\(∀y∈sc.names,y.2=.local->sc.names.lookup y.1=Ya .local)/\
 (∀y∈sc.names,y.2=.free->b.names.lookup y.1=Ya .cell∨b.names.lookup y.1=Ya .free)/\
 c.Nodup/\a.length=c.length/\∀p∈c.zip a,Ut N sc p.1 p.2=true
instance (N N':List Yn) (src:List (Option Nat)) (esc sc:X3):Decidable (Ms N N' src esc sc):=by unfold Ms;infer_instance
def CO(a:List (Option Nat))(σ:St):St:=a.map λo=>o.bind λj=>(σ[j]?).bind λv=>v
def Cx.blk(X:Cx)(a:List Yn)(sc:X3)(cl:List (Yn×Ye))(C:Ye)(b:Yl)(c:Hp)(fp:List Ye):Cx:=
 {X with N:=a,s₀:=b,H₀:=c,env:=compEnvC sc cl C X.env,outer:=X.stack,ex:=fp,fn:=λ_=>false,pn:=[],xe:=λ_ _=>False}
def U7(X:Cx)(b:List Y2)(t:TT):Prop:=
 ∀(a:List (Ye×Y9)) (s:Yl) (σ:St) (H:Hp) (Q:Bool->Hp->Prop),aM X a σ H s->t σ H Q->
  Yo (model X.prog X.w) X.A (forIn b true λc r=>if r=true then do let ok←isTrue c X.env (eval c X.env);pure (abb ok)else pure (abb r)) (TP X a σ Q) X.xe s
def Q9:TT:=λ_ H Q=>Q true H
theorem ed:U7 X [] Q9:=λ_ _ _ H _ I h=>wpAny_tests_nil ⟨H,I,h⟩
theorem eY{c:Y2}{t:TT}(h:PT X c t):U7 X [c] t:=λa s σ H Q I hw=>wpAny_tests_one (h a s σ H Q I hw)
theorem Un.but{fs ex:List Ye}{f:Hp}{h1 h2:YK}(u:Un fs ex H f h h1)(c:Wt C h1 h2)(g:h.get? C=Yb):Un fs ex H f h h2:=
 have ne:∀b o,h.get? b=Ya o->b≠C:=λb o e z=>by rw[z,g]at e;cases e
 ⟨λb o e n d a=>(c.2 b (ne b o e)).trans (u.keep b o e n d a),λb o e n d a=>let ⟨sl,z⟩:=u.slot b o e n d a;⟨sl,(c.2 b (ne b o e)).trans z⟩,u.free,
  λb o e a=>let ⟨o',z⟩:=u.there b o e a;⟨o',(c.2 b (ne b o e)).trans z⟩,u.tups,u.frzs,u.tbls⟩
theorem lO.but{P:YO}{w:YW}{h':YK}(x:lO P w H h)(f:Wt C h h')(d:H C=Yb):lO P w H h':=λb ob e=>by
 refine(x b ob e).stay (λc v a q=>(f.2 c ?_).trans q) (λ_ q=>q) λ_ _ q=>q;rintro rfl;rcases a with rfl|a
 ·rw[d]at e;cases e
 ·rw[d]at a;cases a
def eZ(g:TG)(f:TT)(h:TE)(D:Ye)(N:St->Hp->Prop)(x:V)(σ:St)(H:Hp):Prop:=
 g x σ H λa i=>f a i λb d=>if b=true then h a d λy e=>∃c,e D=Ya (.lst c)/\c.length<sizeLine/\N a (upd e D (.lst (c++[y])))else N a d
def J6(c:List (Option Nat))(k:TI)(g:TG)(l:TT)(n:TE):TE:=λσ H Q=>k σ H λJ d=>∀D,d D=Yb->∃W:Nat->Nat->St->Hp->Prop,(∃m,W 0 m (CO c σ) (upd d D (.lst [])))/\
 ∀i m e a,W i m e a->(J.stop i a/\Q (.ref D) a)∨(J.go i a/\∃N:St->Hp->Prop,(∀f h,N f h->∃j,j<m/\W (i+ 1) j f h)/\
  ∀x b,J.yld i a x b->eZ g l n D N x e b)
theorem zB{s:List Yn}{B:List (Option Nat)}{cl:List (Yn×Ye)}{Za:List (Ye×Y9)}{d:Hp}{a:Yl}{it:Ye}{fp:List Ye}{tn:Nat->YK->Prop}{J:It}{W:Nat->Nat->St->Hp->Prop}{m0:Nat}{RR:Yd->Ye->aaj->Yl->Prop}(hc:X.calm=true)(hk:sc.kind=.function)(hB:Ms X.N s B X.env.scope sc)(f:∀x c,cl.lookup x=Ya c->X.env.cells.lookup x=Ya c)(O:∀n,(n,BD)∈sc.names->∃c,cl.lookup n=Ya c)(hg:∀cl C a d fp,s.Nodup->PG (X.blk s sc cl C a d fp) tg g)(ht:∀cl C a d fp,U7 (X.blk s sc cl C a d fp) Zr tt)(he:∀cl C a d fp,PE (X.blk s sc cl C a d fp) Zs te)(l:aM X Za σ d a)(T:Turn X.prog X.w X.K tg J fp it tn)(K:tn 0 a.heap)(f2:∀b∈fp,tR X Za d b)(w0:W 0 m0 (CO B σ) (upd d a.heap.objs.size (.lst [])))(turn:∀i m P t,W i m P t->(J.stop i t/\Qe t)∨(J.go i t/\∃N:St->Hp->Prop,(∀σ2 d,N σ2 d->∃m',m'<m/\W (i+ 1) m' σ2 d)/\
   ∀x ab,J.yld i t x ab->eZ g tt te a.heap.objs.size N x P ab)) (fin:∀C s4 S U,a.heap.objs.size<=C->aM (X.blk s sc cl C a d fp) [] S U s4->Qe U->RR (.ref a.heap.objs.size) C (.ok .next) s4):
  Yo (model X.prog X.w) X.A (newList []) (λac s₃=>Yo (model X.prog X.w) X.A (newFunctionEnv sc X.env.globals cl [] X.env.qual Yb .none (Ya X.env)) (λQ s₄=>
   sq (model X.prog X.w) X.A (.compStart (.ListComp Zs [⟨tg,iter,Zr,0⟩] sc pos) 0 (.ref it) ac {Q with scope:=relabel sc X.env}) (RR ac Q.locals) s₄) X.xe s₃) X.xe a:=by
 obtain⟨b1,b2,b3,b4,b5,b6⟩:=hB;refine wpAny_newObj_type (wpAny_newFunctionEnv b1 (by intro y hy;simp at hy) (λh₁ V L=>?_) hk);dsimp only at V L⊢;generalize hP:a.heap.push {cls:=.type "list",dict:=Yb,data:=.seq ([]:List Yd).toArray}=Hl at V L⊢;have hC:Hl.objs.size=a.heap.objs.size+ 1:=by rw[←hP,WV]
 have ad:a.heap.objs.size≠Hl.objs.size:=by rw[hC];exact YE (Xv _)
 have F:∀{b:Ye} {o:Y9},a.heap.get? b=Ya o->b≠Hl.objs.size:=fun{b o} z=>by
  have:=Yu z;rw[hC];exact YE (XJ this)
 have D:∀b o,a.heap.get? b=Ya o->h₁.get? b=Ya o:=λb o z=>L.extBut b o (F z) (Yg _ (hP▸Yg _ z));have am:h₁.get? a.heap.objs.size=Ya {cls:=.type "list",data:=.seq ([]:List Yd).toArray}:=L.extBut _ _ ad (Yg _ (hP▸Yr _ rfl));have fD:d a.heap.objs.size=none:=l.hok.fresh (Yj _);have fC:d Hl.objs.size=none:=l.hok.fresh (by rw[hC];exact Xh _);have ok:(X.blk s sc cl Hl.objs.size a d fp).Ok:=by
  refine⟨l.ok.mod,hk,l.ok.glob,l.ok.blt,?_,λx y c h1 h2=>l.ok.inj x y c (f x c h1) (f y c h2),λx hx=>?_,λx c z=>?_,l.ok.hd,l.ok.frames,.inl rfl,λb h=>⟨?_,λx c z=>(f2 b h).2.2.2.2.1 x c (f x c z)⟩,
   l.bs,cb l.ok.bsz l.sz,λb o z h=>?_,λb h z=>?_,l.stack,l.stkFree⟩
  ·show a.heap.objs.size<=Hl.objs.size;rw[hC];exact Xh _
  ·have E:(sc.names.map fun(n,k)=>if(k==BD&&X.env.scope.kind==.function&&X.env.kindOf n==Ya .cell)then(n,Xa)else(n,k)).lookup x=Ya .cell∨
     (sc.names.map fun(n,k)=>if(k==BD&&X.env.scope.kind==.function&&X.env.kindOf n==Ya .cell)then(n,Xa)else(n,k)).lookup x=Ya .free:=hx
   rw[GX.oN]at E;cases e:sc.names.lookup x with
   |none=>
    rw[e]at E;simp at E
   |some k=>
    rw[e]at E;by_cases hf:k=.free
    ·subst hf;exact O x (WR e)
    ·have h:(k==BD)=false:=by simpa using hf
     have M:((Ya k).map λk=>if(k==BD&&X.env.scope.kind==.function&&X.env.kindOf x==Ya .cell)then Xa else k)=Ya k:=by
      show Ya (if(k==BD&&X.env.scope.kind==.function&&X.env.kindOf x==Ya .cell)=true then Xa else k)=Ya k;rw[h,XO,XO];rfl
     rw[M]at E;rcases E with z|z
     ·exact absurd (YC z) (b1 _ (WR e))
     ·exact absurd (YC z) hf
  ·cases z
  ·obtain⟨o,z,_⟩:=T.obj 0 _ K b h;exact F z
  ·rcases(f2 b h).2.2.2.1 with f3|f3
   ·exact l.ok.noex b o z f3
   ·have l1:=Yu z;have l2:=l.ok.bsz;exact absurd (YU l1 (cb l2 f3)) (Y7 _)
  ·rcases Ym.mp (l.stkSub b z)with z|z
   ·exact(f2 b h).2.1 z
   ·exact(f2 b h).2.2.1 z
 have IY:aM (X.blk s sc cl Hl.objs.size a d fp) [] (CO B σ) (upd d a.heap.objs.size (.lst [])) {a with heap:=h₁,toks:=a.toks+ ([]:List (Yn×Yd)).length}:=by
  refine⟨ok,rfl,l.bare,Un.laid D (Yj _) fD,⟨_,V,λi x v e1 M _=>?_⟩,λx c z=>?_,?_,λx c z=>?_,λp hp=>?_,l.hok.laid D (Yj _) ⟨Y6 _,[],0,.nil,am⟩,?_⟩
  ·have an:s[i]?=Ya x:=e1;unfold CO at M;rw[Yv]at M;cases es:B[i]? with
   |none=>rw[es]at M;cases M
   |some o=>
    rw[es]at M;cases o with
    |none=>cases M
    |some j=>
     have e3:(σ[j]?).bind (λv=>v)=Ya v:=YC M;have e4:σ[j]?=Ya (Ya v):=by
      cases q:σ[j]? with
      |none=>rw[q]at e3;cases e3
      |some w=>rw[q]at e3;exact congrArg Ya e3
     have hz:(x,Ya j)∈s.zip B:=Yy (i:=i) (by rw[abV];exact⟨an,es⟩);have ae:=b6 _ hz;have A:(decide (X.N[j]?=Ya x)&&decide (sc.names.lookup x=Ya .free))=true:=ae;rw[XQ]at A;have c1:X.N[j]?=Ya x:=of_decide_eq_true A.1;have c2:sc.names.lookup x=Ya .free:=of_decide_eq_true A.2;have G:=WR c2;have ag:=b3 _ G rfl;obtain⟨m,hn,hl⟩:=l.loc;obtain⟨u,ru,lk⟩:=hl j x v c1 e4 (.inr ag);rcases lk with⟨k1,_⟩|⟨_,c,k2,z⟩
     ·have ap:X.env.scope.names.lookup x=Ya .local:=k1;rcases ag with v|v<;>(rw[ap]at v;cases v)
     ·obtain⟨c',k3⟩:=O x G;have k4:=f x c' k3;rw[k2]at k4;cases k4;refine⟨u,ru,.inr ⟨?_,c,k3,z.keeps D⟩⟩;show(sc.names.map fun(n,k)=>if(k==BD&&X.env.scope.kind==.function&&X.env.kindOf n==Ya .cell)then(n,Xa)else(n,k)).lookup x=Ya .cell∨
       (sc.names.map fun(n,k)=>if(k==BD&&X.env.scope.kind==.function&&X.env.kindOf n==Ya .cell)then(n,Xa)else(n,k)).lookup x=Ya .free
      rw[GX.oN,c2];show Ya (if _ then Xa else BD)=_∨Ya (if _ then Xa else BD)=_;split
      ·exact .inl rfl
      ·exact .inr rfl
  ·obtain⟨v,q⟩:=l.cell x c (f x c z);exact⟨v,q.keeps D⟩
  ·show upd d a.heap.objs.size (.lst []) Hl.objs.size=Yb;rw[ak (cT ad)];exact fC
  ·obtain⟨v,q⟩:=l.cell x c (f x c z);rw[ak (YE q.lt)];exact l.freeC x c (f x c z)
  ·exact absurd (show p∈([]:List (Ye×Y9))from hp) (by simp)
  ·show(B.map _).length=s.length;rw[Yf];exact b5
 have H:∀{t:Hp},(∀b∈fp,t b=Yb)->∀b∈fp,tR (X.blk s sc cl Hl.objs.size a d fp) [] t b:=λhn b h=>
  ⟨hn b h,(ok.exf b h).1,ok.exfs b h,.inl h,(ok.exf b h).2,λp hp=>absurd (show p∈([]:List (Ye×Y9))from hp) (by simp)⟩
 have R:sq (model X.prog X.w) X.A (.compLoop (.ListComp Zs [⟨tg,iter,Zr,0⟩] sc pos) 0 (.ref it) (.ref a.heap.objs.size) (compEnvC sc cl Hl.objs.size X.env))
   (RR (.ref a.heap.objs.size) Hl.objs.size) {a with heap:=h₁,toks:=a.toks+ ([]:List (Yn×Yd)).length}:=by
  refine GX.Dg (λn s'=>∃i P t,aM (X.blk s sc cl Hl.objs.size a d fp) [] P t s'/\tn i s'.heap/\(∀b∈fp,t b=Yb)/\W i n P t) ?_ m0
   ⟨0,_,_,IY,T.keep 0 _ _ K (λb _ o z=>D b o z),λb h=>?_,w0⟩
  ·rintro n s3 ⟨i,S,U,I3,ah,al,w3⟩;rcases turn i n S U w3 with⟨stop,qn⟩|⟨go,N,hN,step⟩
   ·refine wpAny_bind (cz (T.done (X.blk s sc cl Hl.objs.size a d fp) rfl rfl rfl hc i [] s3 S U (λ_ _=>False) I3 (H al) ah stop) λr s4 I=>?_);obtain⟨hr,I4⟩:=I;subst hr;exact wpAny_pure<|fin _ s4 S U (by rw[hC];exact Xh _) I4 qn
   ·refine wpAny_bind (cz (T.item (X.blk s sc cl Hl.objs.size a d fp) rfl rfl rfl hc i [] s3 S U (λ_ _=>False) I3 (H al) ah go) λr s4 I=>?_);obtain⟨u,hr,h4⟩:=I;subst hr;refine wpAny_bind (cz h4 λ_ s5 I=>?_);obtain⟨x,H5,I5,r5,y5,Y,aq⟩:=I;have ar:=I5.pinned (H aq) (T.obj _ _ Y);have again:∀{σ7:St} {Z:Hp} {s7:Yl},aM (X.blk s sc cl Hl.objs.size a d fp) ([]++uq fp s5.heap) σ7 Z s7->N σ7 Z->
      ∃m,m<n/\∃i P t,aM (X.blk s sc cl Hl.objs.size a d fp) [] P t s7/\tn i s7.heap/\(∀b∈fp,t b=Yb)/\W i m P t:=fun{σ7 Z s7} I7 n7=>by
     obtain⟨m',hm,w7⟩:=hN σ7 Z n7;refine⟨m',hm,i+ 1,σ7,Z,I7.unpinned,T.keep _ _ _ Y λb h o z=>(I7.pin (b,o) (YF _ (YF _ (hG h z)))).1,λb h=>?_,w7⟩;obtain⟨o,z,_⟩:=T.obj _ _ Y b h;exact(I7.pin (b,o) (YF _ (YF _ (hG h z)))).2.1
    refine wpAny_bind (cz (hg cl Hl.objs.size a d fp b4 _ s5 S H5 x u _ ar r5 (step x H5 y5)) λ_ s6 I=>?_);obtain⟨σ6,H6,I6,q6⟩:=I;refine wpAny_bind (cz (ht cl Hl.objs.size a d fp _ s6 σ6 H6 _ I6 q6) λok s7 I=>?_);obtain⟨Z,I7,q7⟩:=I;cases ok with
    |true=>
     rw[if_pos rfl]at q7⊢;refine wpAny_bind (cz (he cl Hl.objs.size a d fp _ s7 σ6 Z _ I7 q7) λyv s8 I=>?_);obtain⟨y,H8,I8,r8,ys,hD,hz,n8⟩:=I;exact wpAny_bind<|cz (qm (X:=X.blk s sc cl Hl.objs.size a d fp) _ s8 σ6 H8 (.ref a.heap.objs.size) [y] (.ref a.heap.objs.size) [yv] (λ_ t=>N σ6 t) I8 rfl (.cons r8 .nil) ⟨_,ys,y,rfl,rfl,hD,hz,n8⟩)
      λ_ s9 ⟨_,H9,I9,_,n9⟩=>wpAny_pure (again I9 n9)
    |false=>
     rw[if_neg YN]at q7⊢;exact wpAny_pure (again I7 q7)
  ·obtain⟨o,z,_⟩:=T.obj 0 _ K b h;rw[ak (YE (Yu z))];exact(f2 b h).1
 exact codeAny_compStart_list R (T.self X.A 0 _ _ _ (T.keep 0 _ _ K (λb _ o z=>D b o z)) R)
theorem bQ(i:List Yn)(j:List (Option Nat))(z:X.calm=true)(hk:sc.kind=.function)(A:decide (Ms X.N i j X.env.scope sc)=true)(D:PI X tg iter wi)(E:∀cl C a d fp,i.Nodup->PG (X.blk i sc cl C a d fp) tg g)(F:∀cl C a d fp,U7 (X.blk i sc cl C a d fp) Zr tt)(G:∀cl C a d fp,PE (X.blk i sc cl C a d fp) Zs te)(hs:∀x,foldedSetIterable iter X.env x=pure x:=by intro _;rfl):
  PE X (.ListComp Zs [⟨tg,iter,Zr,0⟩] sc pos) (J6 j wi g tt te):=by
 intro u s σ H Q I h;have B:=of_decide_eq_true A;obtain⟨cl,c,k,l⟩:=GX.yr (env:=X.env) (sc:=sc) λy K L=>I.ok.has y.1 (B.2.2.1 y K L);rw[eval_ListComp];refine wpAny_comprehension_free (use:=Yb) rfl hs c hk B.2.1 (cz (D u s σ H _ I h) λv Y h1=>cz h1 λM a h2=>?_);obtain⟨Z,fp,tn,J,d,e,p,T,r,n,q⟩:=h2;subst e;obtain⟨W,⟨m0,N⟩,turn⟩:=q a.heap.objs.size (p.hok.fresh (Yj _));refine zB (RR:=λt C=>compPost (model X.prog X.w) X.A X.xe Yb (EP X u σ Q) t C) (Qe:=λO=>Q (.ref a.heap.objs.size) O) z hk B k l E F G p T r n N turn λC P σ3 R S f U=>?_;obtain⟨m,hn,_⟩:=f.loc;refine⟨m,hn,λV w=>⟨.ref a.heap.objs.size,R,?_,rfl,U⟩⟩;exact p.call' (s':={P with heap:=V}) (ch:=fp) f.os (f.base.but w (acX S)) (f.hok.but w f.free) f.bare λb o=>⟨(n b o).2.2.2.1,(n b o).2.1,(n b o).2.2.2.2.1,(n b o).2.2.2.2.2⟩
theorem GU{l f:Xr}{y:Yn}(u:List Yn)(w:List (Option Nat))(hN:X.N.Nodup)(K:X.N[i]?=Ya y)(hl:Uz X.env.scope y)(hc:X.calm=true)(hk:sc.kind=.function)(hB:decide (Ms X.N u w X.env.scope sc)=true)(hi:PI X tg iter wi)(hg:∀cl C d n fp,u.Nodup->PG (X.blk u sc cl C d n fp) tg g)(ht:∀cl C d n fp,U7 (X.blk u sc cl C d n fp) Zr tt)(he:∀cl C d n fp,PE (X.blk u sc cl C d n fp) Zs te)(L:aa1 (.ListComp Zs [⟨tg,iter,Zr,0⟩] sc pos) (Ya (.Name y l)) f.line X.env=pure true:=by rfl)(hs:∀x,foldedSetIterable iter X.env x=pure x:=by intro _;rfl)(M:X.fn y=true∨X.env.scope.names.lookup y=Ya .local:=by first|exact .inl rfl|exact .inr rfl):
  PS X (.Assign [.Name y l] (.ListComp Zs [⟨tg,iter,Zr,0⟩] sc pos) f) (Ky (J6 w wi g tt te) (yA i)):=by
 intro G s σ H D I h;have B:=of_decide_eq_true hB;obtain⟨cl,j,A,E⟩:=GX.yr (env:=X.env) (sc:=sc) λy K M=>I.ok.has y.1 (B.2.2.1 y K M);rw[exec_Assign_Name_used _ _ _ _ L];refine wpAny_bind (wpAny_standAt (wpAny_bind ?_));show Yo _ X.A (do let _←comprehension (.ListComp Zs [⟨tg,iter,Zr,0⟩] sc pos) sc X.env _ (newList []) false (eval iter X.env) (Ya (assign (.Name y l) X.env))) _ _ s;refine wpAny_bind (wpAny_mono (wpAny_comprehension_free (use:=Ya (assign (.Name y l) X.env)) (Q:=λ_ s'=>SP X G D .next s') rfl hs j hk B.2.1
  (cz (hi G s σ H _ I h) λv s1 h1=>cz h1 λab d h2=>?_)) (λ_ s' hq=>wpAny_pure (wpAny_pure hq)) λ_ _ e=>e)
 obtain⟨it,fp,tn,J,n,e,k,T,N,F,q⟩:=h2;subst e;obtain⟨W,⟨m0,w0⟩,turn⟩:=q d.heap.objs.size (k.hok.fresh (Yj _));refine zB (RR:=λO C=>compPost (model X.prog X.w) X.A X.xe (Ya (assign (.Name y l) X.env)) (λ_ s'=>SP X G D .next s') O C) (Qe:=λH'=>D.nx (σ.set i (Ya (.ref d.heap.objs.size))) H') hc hk B A E hg ht he k T N F w0 turn
  λC S σ3 U P r qn=>?_
 have IX:aM X G σ U S:=k.call' (ch:=fp) r.os r.base r.hok r.bare λb t=>⟨(F b t).2.2.2.1,(F b t).2.1,(F b t).2.2.2.2.1,(F b t).2.2.2.2.2⟩;have V:∀{b:Ye} {o:Y9},d.heap.get? b=Ya o->C≠b:=fun{b o} z=>XA (YU (Yu z) P);have Y:C≠X.env.locals:=XA (YU k.lt P);have Z:∀x c,X.env.cells.lookup x=Ya c->c≠C:=λx c z=>by
  obtain⟨v,o,ho,_⟩:=k.cell x c z;exact cT (V ho)
 obtain⟨m,hn,_⟩:=r.loc;show Yo _ X.A (assign (.Name y l) X.env (.ref d.heap.objs.size)) _ _ S;refine adD (zK IX hN K hl (v:=.ref d.heap.objs.size) rfl (λs5 I5 h5=>?_) M);obtain⟨a,sb,ha⟩:=h5;have na:C≠a:=by
  rcases ha with z|z
  ·rw[z];exact Y
  ·exact cT (Z _ _ z)
 refine⟨m,hn.sameBut sb na,λh' R=>⟨_,U,?_,qn⟩⟩;exact I5.turned (it:=C) (t':=s5.toks) (λb o t z=>(R.2 b t).trans z) r.free Y (.inr (cb k.sz P)) Z λp hp=>cT (V (k.pin p hp).1)
theorem AA{N:St->Hp->Prop}{x:V}(h:te (σ.set i (Ya x)) H λy a=>∃ys,a D=Ya (.lst ys)/\ys.length<sizeLine/\N (σ.set i (Ya x)) (upd a D (.lst (ys++[y])))):eZ (yA i) Q9 te D N x σ H:=by
 show(if true=true then te (σ.set i (Ya x)) H (λy a=>∃ys,a D=Ya (.lst ys)/\ys.length<sizeLine/\N (σ.set i (Ya x)) (upd a D (.lst (ys++[y]))))else N (σ.set i (Ya x)) H);rw[if_pos rfl];exact h
theorem rW{lo:Int}{n:Nat}(c:Nat->St->Hp->Prop)(h0:c 0 σ H)(hs:∀i σ H,i<n->c i σ H->eZ g tt te D (c (i+ 1)) (.int (lo+ i)) σ H)(hd:∀σ H,c n σ H->Qe H):
  ∃W:Nat->Nat->St->Hp->Prop,(∃m,W 0 m σ H)/\∀i m f a,W i m f a->((JG lo n).stop i a/\Qe a)∨((JG lo n).go i a/\∃N:St->Hp->Prop,(∀h j,N h j->∃k,k<m/\W (i+ 1) k h j)/\
   ∀x d,(JG lo n).yld i a x d->eZ g tt te D N x f d):=by
 refine⟨λi m σ H=>m=n-i/\i<=n/\c i σ H,⟨n,by simp,Y6 _,h0⟩,?_⟩;rintro i m σ H ⟨rfl,o,p⟩;by_cases b:i<n
 ·refine .inr ⟨b,c (i+ 1),λf a l=>⟨n-(i+ 1),by omega,rfl,b,l⟩,λx a y=>?_⟩;obtain⟨e,y⟩:=y;subst e y;exact hs i σ _ b p
 ·have e:i=n:=by omega
  subst e;exact .inl ⟨Yj _,hd σ H p⟩
theorem bL{K:Yc}{a:Ye}{xs:List V}(b:Nat->St->Hp->Prop)(h0:b 0 σ H)(hl:∀i σ H,i<=xs.length->b i σ H->bo K H a xs)(hs:∀i x σ H,xs[i]?=Ya x->b i σ H->eZ g tt te D (b (i+ 1)) x σ H)(hd:∀σ H,b xs.length σ H->Qe H):
  ∃W:Nat->Nat->St->Hp->Prop,(∃m,W 0 m σ H)/\∀i m h c,W i m h c->((Ko K a).stop i c/\Qe c)∨((Ko K a).go i c/\∃N:St->Hp->Prop,(∀j k,N j k->∃l,l<m/\W (i+ 1) l j k)/\
   ∀x d,(Ko K a).yld i c x d->eZ g tt te D N x h d):=by
 refine⟨λi m σ H=>m=xs.length-i/\i<=xs.length/\b i σ H,⟨xs.length,by simp,Y6 _,h0⟩,?_⟩;rintro i m σ H ⟨rfl,n,p⟩;have q:=hl i σ H n p;by_cases f:i<xs.length
 ·refine .inr ⟨⟨xs,xs[i],q,by simp[f]⟩,b (i+ 1),λh c o=>⟨xs.length-(i+ 1),by omega,rfl,f,o⟩,λx c y=>?_⟩;obtain⟨e,y⟩:=y;subst e;exact hs i x σ _ (y xs q) p
 ·have e:i=xs.length:=by omega
  subst e;exact .inl ⟨⟨xs,q,Yj _⟩,hd σ H p⟩
section
theorem CQ:dh X (.builtin "isinstance") (λxs H Q=>∃(x:V) (t:Yd) (T:String) (b:Bool),xs=[x,.ty T]/\sX X.K H x t/\acH X.K t (.type T)=Ya b/\Q (.bl b) H):=by
 intro f s σ H xs g Q I r h;obtain⟨x,t,T,b,rfl,ty,e,q⟩:=h;obtain⟨u,a,rfl,c,d⟩:=zM r;obtain rfl:a=W6 T:=d;exact Jg I c ty e λtk=>⟨.bl b,H,I.tok tk,rfl,q⟩
theorem Jt:Vj X "int.bit_length" (λx vs H Q=>∃i,x=.int i/\vs=[]/\Q (.int (WA i)) H):=by
 intro c s σ H x d v e Q I a b h;obtain⟨i,rfl,rfl,q⟩:=h;obtain⟨t,rfl⟩:=a;cases b;exact call_int_bit_length ⟨.int (WA i),H,I.tok _,⟨_,rfl⟩,q⟩
theorem Jy(bs:List Bool):(Y3 bs.length).all (λi=>bs.getD i false)=bs.all λb=>b:=by
 have e:(Y3 bs.length).map (λi=>bs.getD i false)=bs:=ab9 (by simp) λi h1 h2=>by simp[h2]
 conv=>rhs;rw[←e,List.all_map]
 rfl
theorem JU(k:X.calm=true):dh X (.builtin "all") (λxs H Q=>∃(p:Ye) (bs:List Bool),xs=[.ref p]/\bo X.K H p (bs.map V.bl)/\Q (.bl (bs.all λb=>b)) H):=by
 intro B s σ H xs C Q I r h;obtain⟨p,bs,rfl,l,q⟩:=h;obtain⟨u,rfl,m⟩:=d9 r;cases m;obtain⟨a,d,c,D⟩:=I.list l;have hl:a.toArray.size=bs.length:=by rw[Yw,←d.length,Yf]
 have hp:p<s.heap.objs.size:=let ⟨_,z,_⟩:=c.isList;Yu z;refine call_all_walk (wpAny_pyIter_list c.isList ?_);refine⟨s.heap.objs.size,[s.heap.objs.size,p],[s.heap.objs.size],a.toArray.size,_,_,λi=>bs.getD i false,rfl,abc (A:=X.A.in1) (I.ok.hd k) _ p (YE hp) a.toArray,
  ⟨⟨_,Yr _ rfl,rfl,rfl⟩,c.isList.push _⟩,λi v s' E F n t=>?_,λG tk kp=>?_⟩
 ·have f:a[i]?=Ya v:=by simpa using n
  have g:i<bs.length:=by
   have:=(Yi.mp f).1;rw[←hl,Yw];exact this
  obtain⟨u,j,w⟩:=d.get (i:=i) (x:=V.bl bs[i]) (by rw[Yv,Yk g];rfl);rw[f]at j;cases j;obtain rfl:v=aaq bs[i]:=w;refine wpAny_truthy_bool ?_;have e:bs.getD i false=bs[i]:=by rw[YX,Yk g,aca]
  rw[←e];exact t
 ·refine⟨.bl (bs.all λb=>b),H,I.kept (t':=tk) λb o e=>kp b o ?_ (Yg _ e),?_,q⟩
  ·intro z;have y:b=s.heap.objs.size:=by simpa using z
   exact absurd (Yu e) (by rw[y];exact Y7 _)
  ·show aaq _=aaq _;rw[hl,Jy]
def Kx(X:Cx)(id:String)(ks:List Yn)(r:List V->List V->Hp->VK->Prop):Prop:=
 ∀(a:List (Ye×Y9)) (s:Yl) (σ:St) (H:Hp) (b c:List V) (d e:List Yd) (Q:VK),aM X a σ H s->Vals b d->Vals c e->r b c H Q->
  Yo (model X.prog X.w) X.A (call (.builtin id) d (ks.zip e)) (EP X a σ Q) X.xe s
def TY(r:List V->List V->Hp->VK->Prop)(t tk:TA):TE:=λσ H Q=>t σ H λa b=>tk σ b λc d=>r a c d Q
theorem HP{ks:List Yn}{tk:TA}{id:String}{r:List V->List V->Hp->VK->Prop}(i:Kx X id ks r)(j:Gl X x)(hm:X.mg x=Yb)(k:Xk x=Ya (.builtin id))(ha:PA X (e::es) t)(hk:PK X Zn tk)(c:(backToKw pos (keywordEach Zn X.env)).filterMap (·.1)=ks:=by rfl)(hn:x≠"__name__":=by decide)(d:(x==("__debug__":Yn))=false:=by decide)(l:backTo pos (starEach (e::es) X.env)=(false,eval e X.env)::backTo pos (starEach es X.env):=by rfl)(a:(backTo pos (starEach (e::es) X.env)).any (·.1)=false:=by rfl)(b:(backToKw pos (keywordEach Zn X.env)).all (·.1.isSome)=true:=by rfl)(f:(backToKw pos (keywordEach Zn X.env)).any (·.1.isNone)=false:=by rfl):PE X (.Call (.Name x p) (e::es) Zn pos) (TY r t tk):=by
 intro g s σ H Q I h;refine WT (pR I j hm k ?_ hn d);refine abi (cz (ha pos g s σ H _ I h) λm n ⟨o,q,u,v,w⟩=>cz (hk pos g n σ q _ u w) λy z A=>?_) l a b f;obtain⟨B,C,D,E,F⟩:=A;rw[c];exact i g z σ C o B m y Q D v E F
theorem va(a v:Yd):argsOk "min" ⟨[a],[(xu "default",v)]⟩:=by unfold argsOk;kernel_rfl
theorem Ih(B:X.calm=true):Kx X "min" [xu "default"] (λxs zs H Q=>∃(p:Ye) (ns:List Int) (d:V),xs=[.ref p]/\zs=[d]/\bo X.K H p (ns.map V.int)/\(ns=[]->Q d H)/\∀b,b∈ns->(∀z∈ns,b<=z)->Q (.int b) H):=by
 intro L s σ H xs zs M N Q I r C h;obtain⟨p,ns,d,rfl,rfl,D,h0,h1⟩:=h;obtain⟨u,rfl,E⟩:=d9 r;cases E;obtain⟨o,rfl,rd⟩:=d9 C;obtain⟨g,w,F,y⟩:=I.list D;have hl:g.length=ns.length:=by rw[←w.length,Yf]
 have f:∀(i:Nat) v,g[i]?=Ya v->∃n t,ns[i]?=Ya n/\v=.int n t:=λi v e=>by
  have b:i<ns.length:=hl▸(Yi.mp e).1;obtain⟨u,J,t,rfl⟩:=w.get (i:=i) (x:=V.int ns[i]) (by simp[b]);exact⟨ns[i],t,by simp[b],YC (e.symm.trans J)⟩
 refine GX.Fz GX.zw GX.B5 acA XC (ko:=Yb) (d:=Ya o) (I.ok.hd B) rfl (va _ _) F.isList
  (λi j=>decide (ns.getD i 0<ns.getD j 0)) (λi=>by simp) (λi j h=>by simp at h⊢;omega) (λa b c h h2=>by simp at h h2⊢;omega) (λi v=>∃t,v=.int (ns.getD i 0) t) ?_ ?_ ?_ ?_
 ·intro j v h tk l G;obtain⟨n,t,hn,rfl⟩:=f j v l;exact And.intro ⟨t,by rw[YX,hn];rfl⟩ ⟨tk,rfl⟩
 ·exact λi j k O h tk K m G Q q=>CmpOf.ints_lt (P:=λi v=>∃t,v=.int (ns.getD i 0) t) (λi=>ns.getD i 0) (λ_ _ z=>z) j i _ _ _ _ _ K m q
 ·exact λe=>⟨o,rfl,λh tk G=>⟨d,H,I.kept (t':=tk) G,rd,h0 (Wz (by rw[←hl,e];rfl))⟩⟩
 ·intro i v h tk l ft G;obtain⟨n,t,hn,rfl⟩:=f i v l;refine⟨.int n,H,I.kept (t':=tk) G,⟨t,rfl⟩,h1 n (Yy hn) λz y=>?_⟩;obtain⟨j,A,rfl⟩:=XW y;have:=(ft j (hl▸A)).1;simpa [YX,hn,A]using this
end
structure eD(K:Yc)(mg:Yn->Option Yd)(x:Yn)(f:Ye)(fd:Yx)(ps:List Yn):Prop where
 mg:mg x=Ya (.ref f)
 kp:Xl K (.ref f)=true
 bd:Binds K fd ps []
theorem a9{k:Nat}{f:Ye}{fd:Yx}{ps:List Yn}{sp:Sp}(F:aF X.prog X.w X.K X.mg X.base bx k f fd ps sp)(c:eD X.K X.mg x f fd ps)(d:cR k X.A)(ha:PA X (e::es) t)(g:Gl X x:=by rfl)(a:(x==("__debug__":Yn))=false:=by decide)(h:starEach (e::es) X.env=(false,eval e X.env)::starEach es X.env:=by rfl)(b:(backTo pos (starEach es X.env)).any (·.1)=false:=by rfl):
  PE X (.Call (.Name x p) (e::es) [] pos) (GK sp [] E0 t):=Oj F d g c.mg c.kp c.bd .nil nH ha a h b
theorem jG{T:String}(hm:X.mg x=Yb)(b:Xk x=Ya (.type T))(c:Gl X x:=by rfl)(hn:x≠"__name__":=by decide)(a:(x==("__debug__":Yn))=false:=by decide):PE X (.Name x pos) (tC (.ty T)):=
 Nx c hm b rfl hn a
def Ro(K:Yc)(t:TE):TT:=λσ H Q=>t σ H λx a=>∃k,Lm K x a k/\Q k a
theorem cK(K:Yc){f:Y2}{t:TE}(a:X.K=K)(h:PE X (.Call f es Zn pos) t):PT X (.Call f es Zn pos) (Ro K t):=by
 subst a;exact Df h λ_=>rfl
section
end
end L2
namespace GX
open PySem
variable{prog:YO}{w:YW}{A:nh}{E Q:Yd->Yl->Prop}{s:Yl}{l:Ye}{n:Nat}{T:String}{nm:Yn}{R:aaj->Yl->Prop}
theorem Jn:typeLookup (.type "list") (xu "keys")=pure none:=am_miss_of_fast (by kernel_rfl)
section
variable{items:Array Yd}{Q:Option Yd->Yl->Prop}
theorem M0{id:String}{B:vc}{x:Yd}{S:afj}(slot:aeU T nm id)(a:aaa abw id=Ya B)(b:s.TypeIs (.ref l) T)(c:argsOk id ⟨[.ref l,x],[]⟩)(m:Meets (B ⟨[.ref l,x],[]⟩) S)(h:S A R s):
  sq (model prog w) A (.call (.builtin id) ⟨[.ref l,x],[]⟩) R s:=codeAny_call_builtin slot.plain a (slot.check _ _ _ _ _ _ _ _ b c (m prog w A R s h))
theorem Pt{id:String}{o:Y9}(slot:aeU T "__getattribute__" id)(ga:typeLookup (.type T) "__getattr__"=pure Yb)(j:aaa abw id=Ya vc.«object.__getattribute__»)(k:∀a b,argsOk id ⟨[a,b],[]⟩)(hl:s.heap.get? l=Ya o)(n:o.cls=.type T)(m:∀u,Meets (vc.«object.__getattribute__» ⟨[.ref l,.str nm u],[]⟩) (λA R s=>s.heap.get? l=Ya o/\raisesAttr (.ref l) nm A R s))(p:A.handled=Yb)(h:∀h' tk,sE s.heap h'->Q Yb {s with heap:=h',toks:=tk}):Yo (model prog w) A (adX (.ref l) nm) Q E s:=by
 obtain⟨c,dd,dt,r⟩:=o;cases n;obtain⟨hp,g,d,tk,os⟩:=s;have i:∀tk,rl ⟨hp,g,d,tk,os⟩ (.ref l) T:=λ_=>⟨_,hl,rfl⟩;have:=slot.lookup;have:=slot.bind (.ref l);have:=sub_AttributeError;unfold adX getAttrBy? getAttrBy
 repeat' first|assumption|exact i _|wp_step
 refine M0 slot j (i _) (k _ _) (m _) ⟨hl,p,λh' f e x=>?_⟩;obtain⟨t,v,_⟩:=x.there;have q:=h h' f x.keeps;unfold getattributeRaised
 repeat' first|assumption|wp_step
theorem Gi(a:A.handled=Yb)(hl:s.heap.get? l=Ya (x6 items n))(h:∀h' tk,sE s.heap h'->Q Yb {s with heap:=h',toks:=tk}):Yo (model prog w) A (adX (.ref l) (xu "keys")) Q E s:=
 Pt F.slot_list_getattribute am_list_getattr_none am_entry_list_getattribute F.args_list_getattribute_2 hl rfl (λu=>meets_getattribute_miss_list l items n _ _ u Jn (by decide)) a h
end
theorem ox:aaa abw "dict.update.loop"=Ya vc.«dict.update.loop»:=adY (by kernel_rfl)
theorem fR:acM "dict.update.loop"=true:=by decide +kernel
section
variable{I d:Ye}{fp wr:List Ye}{P:Nat->Yd->Prop}{St:Nat->YK->Prop}{K:Type}[DecidableEq K]{knd:abu prog w K}
theorem F0(a:List (K×Yd)):(merged [] a).length<=a.length:=by
 have:=merged_length_le [] a;simpa using this
theorem BP(I d:Ye)(i:Int)(t:aay):MeetsIn prog w (vc.«dict.update.loop» ⟨[.ref d,.ref I,.int i t,.none],[]⟩) λA R s=>Yo (model prog w) A.in1 (pyNext (.ref I)) (λr s=>match r with
  |none=>R (.ok (.ret .none)) s
  |some v=>∃a o k x c,v=.ref a/\s.heap.get? a=Ya o/\o.cls=.type "tuple"/\o.data=.seq #[k,x] c/\
   Yo (model prog w) A.in1 (dictSet d k x) (λ_ s=>sq (model prog w) A (.builtin "dict.update.loop" ⟨[.ref d,.ref I,.int (i+ 1) 0,.none],[]⟩) R s) (λ_ _=>False) s) (λ_ _=>False) s:=by
 intro A R s nx;show Yo _ _ (pyNext (.ref I) >>= _) _ _ s;apply wpAny_bind;refine wpAny_mono nx (λr b h=>?_) λ_ _ z=>z.elim;rcases r with _|v
 ·wp_walk
  exact h
 ·obtain⟨a,o,k,x,c,rfl,ha,f,hd,q⟩:=h;have ty:b.TypeIs (.ref a) "tuple":=⟨o,ha,f⟩;apply wpAny_bind;apply wpAny_holding;apply wpAny_bind;apply wpAny_tryCatch
  wp_walk using wpAny_seqItems ha hd,wpAny_mono q
  ·exact λ_ _ e=>wpAny_pure ⟨plainId_quiet fR _,e⟩
  ·exact λ_ _ z=>z.elim
theorem Lb{D:Nat->YK->Prop}(W:acu prog w A.in1 I fp wr n P St)(nd:d∉fp)(calm:∀i h h',D i h->(∀b o,b∉wr->h.get? b=Ya o->h'.get? b=Ya o)->D i h')
  (turn:∀i v s,P i v->D i s.heap->∃a o k x c,v=.ref a/\s.heap.get? a=Ya o/\o.cls=.type "tuple"/\o.data=.seq #[k,x] c/\
   ∀Q:Unit->Yl->Prop,(∀h,D (i+ 1) h->(∀b,b≠d->h.get? b=s.heap.get? b)->∀tk,Q () {s with heap:=h,toks:=tk})->Yo (model prog w) A.in1 (dictSet d k x) Q (λ_ _=>False) s):
  ∀(k i:Nat) (s:Yl) (t:aay),n=i+ k->St i s.heap->D i s.heap->(∀h tk,D n h->R (.ok (.ret .none)) {s with heap:=h,toks:=tk})->
   sq (model prog w) A (.builtin "dict.update.loop" ⟨[.ref d,.ref I,.int i t,.none],[]⟩) R s:=by
 intro k
 induction k with
 |zero=>
  intro i s t e st f fin;obtain rfl:n=i:=e;exact enter ox fR (BP I d _ t) (W.done s _ _ st λh tk q=>fin h tk (calm _ _ _ f q))
 |succ k ih=>
  intro i s t e st f fin;refine enter ox fR (BP I d _ t) (W.item i s _ _ (by omega) st λv h tk pv g q=>?_);obtain⟨a,o,y,x,c,j,l,m,p,set⟩:=turn i v {s with heap:=h,toks:=tk} pv (calm _ _ _ f q);refine⟨a,o,y,x,c,j,l,m,p,set _ λh2 r u tk=>?_⟩;exact ih (i+ 1) {s with heap:=h2,toks:=tk} 0 (by omega) (W.frame _ _ _ g λb B o e=>(u b λz=>nd (z▸B)).trans e) r fin
theorem LF(W:acu prog w A.in1 I fp wr n P St)(nd:d∉fp)(h₀:YK)(g:List (K×Yd))(hn:g.length=n)(hz:n<=sizeLine)
  (u:∀i v,P i v->∃a j k x o c,v=.ref a/\g[i]?=Ya (k,x)/\knd.is k j=true/\h₀.get? a=Ya o/\o.cls=.type "tuple"/\o.data=.seq #[j,x] c/\a≠d/\a∉wr):
  ∀(k i:Nat) (s:Yl) (t:aay),n=i+ k->St i s.heap->(∀b o,b∉wr->b≠d->h₀.get? b=Ya o->s.heap.get? b=Ya o)->s.heap.DictOf knd d (merged [] (g.take i))->
  (∀h' tk,(∀b o,b∉wr->b≠d->h₀.get? b=Ya o->h'.get? b=Ya o)->h'.DictOf knd d (merged [] g)->R (.ok (.ret .none)) {s with heap:=h',toks:=tk})->
  sq (model prog w) A (.builtin "dict.update.loop" ⟨[.ref d,.ref I,.int i t,.none],[]⟩) R s:=by
 have y:d∉wr:=λz=>nd (W.sub _ z);intro k i s t B st kp dd fin;refine Lb (D:=λi h=>(∀b o,b∉wr->b≠d->h₀.get? b=Ya o->h.get? b=Ya o)/\h.DictOf knd d (merged [] (g.take i))) W nd ?_ ?_ k i s t B st ⟨kp,dd⟩ λh tk q=>fin h tk q.1 ?_
 ·rintro i h h' ⟨kp,od,C,E,ho,r⟩ q;exact⟨λb o l f e=>q b o l (kp b o l f e),od,C,E,q d od y ho,r⟩
 ·rintro i v s pv ⟨kp,dd⟩;obtain⟨a,j,k,x,o,c,rfl,F,G,ha,H,hd,J,m⟩:=u i v pv;refine⟨a,o,j,x,c,rfl,kp a o m J ha,H,hd,λQ q=>wpAny_dictSet_pairs G dd (λh2 L p=>q h2 ⟨λb o l f e=>(p.2 b f).trans (kp b o l f e),?_⟩ p.2 _) (cb (F0 _) (by rw[Y8];omega))⟩;rw[merged_take_succ [] g i (k,x) F];exact L
 ·have z:=q.2;rwa [←hn,YM]at z
end
section
variable{K:Type}[DecidableEq K]{knd:abu prog w K}
abbrev HI(h:YK):YK:=h.push {cls:=.type "dict",data:=.dict #[]}
theorem wR(ty:rl {s with heap:=HI s.heap} (.ref l) T)(b:(W6 T !=.type "dict")=true)(h:Yo (model prog w) A.in1.in1 (adX (.ref l) (xu "keys")) (λr a=>r=Yb/\Yo (model prog w) A.in1.in1 (pyIter (.ref l))
   (λit c=>sq (model prog w) A.in1 (.builtin "dict.update.loop" ⟨[.ref s.heap.objs.size,it,.int 0 0,.none],[]⟩) (wants (λr d=>r=.none/\Q (.ref s.heap.objs.size) d) E) c) E a) E {s with heap:=HI s.heap}):
  Yo (model prog w) A (call (.type "dict") [.ref l]) Q E s:=by
 apply callType_codes F.kt_called_dict (F.kt_typeCall_dict_1 _) F.entry_dict_init (kt_code_dict_new (Q₁:=λv a=>v=.ref s.heap.objs.size/\a={s with heap:=HI s.heap}) _ ⟨rfl,rfl⟩);rintro _ _ ⟨rfl,rfl⟩;have td:rl {s with heap:=HI s.heap} (.ref s.heap.objs.size) "dict":=⟨_,Yr _ rfl,rfl⟩;refine⟨td,F.args_dict_init_2 _ _,?_⟩;show Yo _ _ (Builtin.Dict.selfAndRest _ _ >>= _) _ _ _
 wp_walk using wpAny_notOrdered_dict td,wpAny_ite_true b,wpAny_mono h
 ·rintro _ a ⟨rfl,q⟩
  wp_walk using wpAny_mono q
  ·exact λ_ _ e=>wpAny_pure ⟨plainId_quiet fR _,e⟩
  ·exact λ_ _ e=>e
 ·exact λ_ _ e=>e
theorem sr{vs:List Yd}{q:List (K×Yd)}(D:A.handled=Yb)(hl:s.heap.get? l=Ya {cls:=.type "list",dict:=Yb,data:=.seq vs.toArray n,slots:=#[]})(hz:vs.length<=sizeLine)(m:q.length=vs.length)(J:∀(i:Nat) v,vs[i]?=Ya v->∃a t k x o c,v=.ref a/\q[i]?=Ya (k,x)/\knd.is k t=true/\s.heap.get? a=Ya o/\o.cls=.type "tuple"/\o.data=.seq #[t,x] c)(h:∀h' tk,(∀b o,s.heap.get? b=Ya o->h'.get? b=Ya o)->h'.DictOf knd s.heap.objs.size (merged [] q)->Q (.ref s.heap.objs.size) {s with heap:=h',toks:=tk}):
  Yo (model prog w) A (call (.type "dict") [.ref l]) Q E s:=by
 have g:(HI s.heap).get? l=Ya {cls:=.type "list",dict:=Yb,data:=.seq vs.toArray n,slots:=#[]}:=Yg _ hl;refine wR (T:="list") ⟨_,g,rfl⟩ (by decide) (Gi D g λh1 Dd u=>⟨rfl,?_⟩);have p:=u l _ g;have y:l<h1.objs.size:=Yu p;have ld:l<s.heap.objs.size:=Yu hl;have F:h1.IsList l vs.toArray:=⟨_,p,rfl,n,rfl⟩;have G:h1.DictOf knd s.heap.objs.size []:=by
  obtain⟨od,H,I,ho,r⟩:=Heap.DictOf.new (knd:=knd) s.heap;exact⟨od,H,I,u _ _ ho,r⟩
 have j:s.heap.objs.size<h1.objs.size:=by
  obtain⟨od,H,I,ho,r⟩:=G;exact Yu ho
 have L:∀{b:Ye},b<h1.objs.size->b≠h1.objs.size:=λz=>YE z;refine wpAny_pyIter_list (s:={s with heap:=h1,toks:=Dd}) F ?_;have W:=abc (prog:=prog) (w:=w) (A:=A.in1.in1) D h1.objs.size l (L y) vs.toArray;refine LF (A:=A.in1) (knd:=knd) W (d:=s.heap.objs.size) ?_ s.heap q (by rw[m,Yw]) (by rw[Yw];exact hz) (λi v M=>?_) vs.toArray.size 0 _ 0 (by omega)
  ⟨⟨_,Yr _ rfl,rfl,rfl⟩,F.push _⟩ (λb o _ X e=>Yg _ (u b o (Yg _ e))) ?_ λh2 B N O=>?_
 ·intro z;have f:s.heap.objs.size=h1.objs.size∨s.heap.objs.size=l:=by simpa using z
  rcases f with f|f
  ·exact absurd j (by rw[f];exact Y7 _)
  ·exact absurd ld (by rw[f];exact Y7 _)
 ·obtain⟨a,t,k,x,o,c,P,R,S,C,U,V⟩:=J i v (by simpa using M);refine⟨a,t,k,x,o,c,P,R,S,C,U,V,YE (Yu C),λz=>?_⟩;have f:a=h1.objs.size:=by simpa using z
  exact absurd (ab1 (Yu C) j) (by rw[f];exact Y7 _)
 ·exact G.push _
 ·exact⟨rfl,h h2 B (λb o e=>N b o (λz=>by
   have f:b=h1.objs.size:=by simpa using z
   exact absurd (ab1 (Yu e) j) (by rw[f];exact Y7 _)) (YE (Yu e)) e) O⟩
end
end GX
namespace GX
open PySem PyProof.Rows
section
variable{prog:YO}{w:YW}{A:nh}{E:Yd->Yl->Prop}{s:Yl}
theorem uR{x:Yd}{a:List (Yn×Yd)}{Q:Yd->Yl->Prop}(ok:argsOk "sorted" ⟨[x],a⟩)
  (h:Yo (model prog w) A.in1 (collect x) (λvs b=>Yo (model prog w) A.in1 (newList vs >>= λl=>holding [l] (call (.builtin "list.sort") [l] a) >>= λ_=>ret l) (λf c=>∃v,f=.done (.ret v)/\Q v c) E b) E s):
  Yo (model prog w) A (call (.builtin "sorted") [x] a) Q E s:=
 call_function_entry_kw kind_sorted plain_sorted entry_sorted ok (wpAny_bind (m:=checkCount _ _ _ _) (wpAny_pure (wpAny_bind (wpAny_mono h (λ_ _ q=>q) λ_ _ e=>e))))
end
end GX
namespace L2
open PySem PySem.Spec PyProof.Rows
variable{m ps:List (Int×Int)}{k:Int}{X:Cx}{P:YO}{w:YW}{A:nh}{s:Yl}{ns:List Int}{Za:List (Ye×Y9)}{σ:St}{H:Hp}{h':YK}{xs:List V}{a it:Ye}{kvs:List (bK×V)}{vs:List (bK×Yd)}{Zv:List Y2}{x1:Nat}{tp:Xr}
def dI(m:List (Int×Int)):List (bK×V):=m.map λp=>(YD p.1,V.int p.2)
theorem oz(m:List (Int×Int)):(dI m).length=m.length:=Yf ..
def qY:List (Int×Int)->Int->Option Int
 |[],_=>Yb
 |p::m,k=>if p.1=k then Ya p.2 else qY m k
theorem rp:∀(m:List (Int×Int)) (k:Int),d3 (dI m) (YD k:bK)=(qY m k).map V.int
 |[],_=>rfl
 |p::m,k=>by
  show d3 ((YD p.1,V.int p.2)::dI m) (YD k)=_;unfold qY;by_cases e:p.1=k
  ·rw[if_pos e,dw (by rw[e])];rfl
  ·rw[if_neg e,dq (λz=>e (WM z)),rp m k]
def dR:List (Int×Int)->Int->Int->List (Int×Int)
 |[],k,v=>[(k,v)]
 |p::m,k,v=>if p.1=k then(p.1,v)::m else p::dR m k v
theorem JP:∀(m:List (Int×Int)) (k v j:Int),qY (dR m k v) j=if j=k then Ya v else qY m j
 |[],k,v,j=>by
  show(if k=j then Ya v else Yb)=_;by_cases e:j=k
  ·rw[if_pos e,if_pos e.symm]
  ·rw[if_neg e,if_neg (λz=>e z.symm)];rfl
 |p::m,k,v,j=>by
  show qY (if p.1=k then(p.1,v)::m else p::dR m k v) j=if j=k then Ya v else(if p.1=j then Ya p.2 else qY m j)
  by_cases e:p.1=k
  ·rw[if_pos e];show(if p.1=j then Ya v else qY m j)=_;by_cases a:j=k
   ·rw[if_pos a,if_pos (e.trans a.symm)]
   ·rw[if_neg a,if_neg (λz=>a (z.symm.trans e)),if_neg (λz=>a (z.symm.trans e))]
  ·rw[if_neg e];show(if p.1=j then Ya p.2 else qY (dR m k v) j)=_;rw[JP m k v j];by_cases a:j=k
   ·rw[if_pos a,if_neg (λz=>e (z.trans a)),if_pos a]
   ·rw[if_neg a,if_neg a]
theorem Dw:∀(m:List (Int×Int)) (k v x:Int),x∈(dR m k v).map (·.1)↔x=k∨x∈m.map (·.1)
 |[],k,v,x=>by simp[dR]
 |p::m,k,v,x=>by
  show x∈(if p.1=k then(p.1,v)::m else p::dR m k v).map (·.1)↔_;by_cases e:p.1=k
  ·rw[if_pos e];simp only[Yz,Ym];constructor
   ·exact λh=>.inr h
   ·rintro(h|h)
    ·exact .inl (h.trans e.symm)
    ·exact h
  ·rw[if_neg e];simp only[Yz,Ym];have:=Dw m k v x;constructor
   ·rintro(h|h)
    ·exact .inr (.inl h)
    ·rcases this.mp h with h|h
     ·exact .inl h
     ·exact .inr (.inr h)
   ·rintro(h|h|h)
    ·exact .inr (this.mpr (.inl h))
    ·exact .inl h
    ·exact .inr (this.mpr (.inr h))
theorem LJ:∀(m:List (Int×Int)) (k v:Int),(m.map (·.1)).Nodup->((dR m k v).map (·.1)).Nodup
 |[],k,v,_=>by simp[dR]
 |p::m,k,v,h=>by
  show((if p.1=k then(p.1,v)::m else p::dR m k v).map (·.1)).Nodup;rw[Yz,tq]at h;by_cases e:p.1=k
  ·rw[if_pos e,Yz,tq];exact h
  ·rw[if_neg e,Yz,tq];refine⟨λz=>?_,LJ m k v h.2⟩;rcases(Dw m k v p.1).mp z with z|z
   ·exact e z
   ·exact h.1 z
theorem tD:∀(m:List (Int×Int)) (k v:Int) (p:Int×Int),p∈dR m k v->p=(k,v)∨p∈m
 |[],k,v,p,h=>.inl (by simpa [dR]using h)
 |q::m,k,v,p,h=>by
  have a:p∈(if q.1=k then(q.1,v)::m else q::dR m k v):=h;by_cases e:q.1=k
  ·rw[if_pos e]at a;rcases Ym.mp a with z|z
   ·exact .inl (by rw[z,e])
   ·exact .inr (Yp _ z)
  ·rw[if_neg e]at a;rcases Ym.mp a with z|z
   ·exact .inr (by rw[z];exact Ys)
   ·rcases tD m k v p z with z|z
    ·exact .inl z
    ·exact .inr (Yp _ z)
theorem L4(k:Int):∀m:List (Int×Int),((dI m).any λa=>decide (a.1=(YD k:bK)))=m.any λp=>decide (p.1=k)
 |[]=>rfl
 |p::m=>by
  show(decide ((YD p.1:bK)=YD k)||(dI m).any _)=(decide (p.1=k)||m.any _);rw[L4 k m];congr 1;rw[decide_eq_decide];exact⟨λh=>WM h,λh=>congrArg _ h⟩
theorem As:∀(m:List (Int×Int)) (k v:Int),(m.any λp=>decide (p.1=k))=false->dR m k v=m++[(k,v)]
 |[],_,_,_=>rfl
 |p::m,k,v,h=>by
  rw[X1,ac0]at h;show(if p.1=k then(p.1,v)::m else p::dR m k v)=_;rw[if_neg (of_decide_eq_false h.1),As m k v h.2];rfl
theorem GF:∀(m:List (Int×Int)) (k v:Int),(m.map (·.1)).Nodup->(m.any λp=>decide (p.1=k))=true->dR m k v=m.map λp=>if p.1=k then(p.1,v)else p
 |[],_,_,_,h=>by cases h
 |p::m,k,v,nd,h=>by
  rw[Yz,tq]at nd;show(if p.1=k then(p.1,v)::m else p::dR m k v)=(if p.1=k then(p.1,v)else p)::m.map _;by_cases e:p.1=k
  ·rw[if_pos e,if_pos e];congr 1;have:m.map (λp=>if p.1=k then(p.1,v)else p)=m.map id:=WB λq a=>by
    rw[if_neg (λz=>nd.1 (by rw[e,←z];exact YY a))];rfl
   rw[this,abx]
  ·rw[if_neg e,if_neg e,GF m k v nd.2 (by
    rw[X1,decide_eq_false e,abF]at h;exact h)]
theorem Kk(m:List (Int×Int))(k v:Int)(nd:(m.map (·.1)).Nodup):gy (dI m) (YD k:bK) (V.int v)=dI (dR m k v):=by
 unfold gy;rw[L4];cases e:m.any λp=>decide (p.1=k)with
 |false=>
  rw[As m k v e];unfold dI;rw[Yt];rfl
 |true=>
  rw[GF m k v nd e];unfold dI;rw[xw,if_pos rfl,xw];apply WB;intro p _;show(if(YD p.1:bK)=YD k then((YD p.1:bK),V.int v)else(YD p.1,V.int p.2))=((YD (if p.1=k then(p.1,v)else p).1:bK),V.int (if p.1=k then(p.1,v)else p).2);by_cases z:p.1=k
  ·rw[if_pos (congrArg _ z),if_pos z]
  ·rw[if_neg (λq=>z (WM q)),if_neg z]
theorem EY:∀{m:List (Int×Int)} {k v:Int},qY m k=Ya v->(k,v)∈m
 |[],_,_,h=>by cases h
 |p::m,k,v,h=>by
  have a:(if p.1=k then Ya p.2 else qY m k)=Ya v:=h;by_cases e:p.1=k
  ·rw[if_pos e]at a;have:p=(k,v):=by rw[←e,←YC a]
   rw[this];exact Ys
  ·rw[if_neg e]at a;exact Yp _ (EY a)
theorem JR:∀{m:List (Int×Int)} {k v:Int},(m.map (·.1)).Nodup->(k,v)∈m->qY m k=Ya v
 |[],_,_,_,h=>by cases h
 |p::m,k,v,nd,h=>by
  rw[Yz,tq]at nd;show(if p.1=k then Ya p.2 else qY m k)=Ya v;rcases Ym.mp h with z|z
  ·rw[←z,if_pos rfl]
  ·rw[if_neg (λe=>nd.1 (by rw[e];exact YY (f:=(·.1)) z)),JR nd.2 z]
theorem F7(h:k∉m.map (·.1)):qY m k=none:=by
 cases e:qY m k with
 |none=>rfl
 |some v=>exact absurd (YY (f:=(·.1)) (EY e)) h
theorem Od(h:k∈m.map (·.1)):∃v,qY m k=Ya v:=by
 cases e:qY m k with
 |some v=>exact⟨v,rfl⟩
 |none=>
  exfalso
  induction m with
  |nil=>cases h
  |cons p m ih=>
   have a:(if p.1=k then Ya p.2 else qY m k)=none:=e;by_cases z:p.1=k
   ·rw[if_pos z]at a;cases a
   ·rw[if_neg z]at a;rw[Yz]at h;rcases Ym.mp h with q|q
    ·exact z q.symm
    ·exact ih q a
def ct(m:List (Int×Int))(k:Int):Int:=(qY m k).getD 0
section
theorem uz{P:YO}{w:YW}:∀{m:List (Int×Int)} {vs:List (bK×Yd)} {us:List Yd},KV (dI m) vs->us.length=vs.length->(∀(j:Nat) v,us[j]?=Ya v->∃k x,vs[j]?=Ya (k,x)/\(aZ P w).is k v=true)->IntsAre us (m.map (·.1))
 |[],_,us,r,hl,h=>by
  have a:KV [] _:=r;cases a;cases us with
  |nil=>exact .nil
  |cons _ _=>cases hl
 |p::m,vs,us,r,hl,h=>by
  have a:KV ((YD p.1,V.int p.2)::dI m) vs:=r;cases a with
  |cons r1 r2=>
   rename_i q o;cases us with
   |nil=>cases hl
   |cons u us=>
    obtain⟨k,x,d,f⟩:=h 0 u rfl;have b:q=(k,x):=YC d;subst b;have g:(YD p.1:bK)=k:=r1.1;subst g;rcases cH (show vG (YD p.1) u=true from f)with⟨i,t,l,n⟩|⟨_,_,z,_⟩
    ·have c:p.1=i:=WM l;rw[n,←c];exact .cons _ t (uz (P:=P) (w:=w) r2 (Nat.succ.inj hl) λj v e=>h (j+ 1) v e)
    ·cases z
theorem z5{E:Yd->Yl->Prop}{prog:YO}{vs:List Yd}{Q:Yd->Yl->Prop}(c:IntsAre vs ns)(h64:vs.length<64)(hz:vs.length<=sizeLine)(h:∀h' out a e,(∀b o,s.heap.get? b=Ya o->h'.get? b=Ya o)->h'.get? s.heap.objs.size=Ya (seqObj "list" out e)->IntsAre out.toList a->a.Perm ns->a.Pairwise (·<=·)->Q (.ref s.heap.objs.size) {s with heap:=h'}):
  Yo (model prog w) A (do let l←newList vs;let _←holding [l] (call (.builtin "list.sort") [l] []);ret l) (λfin s'=>∃v,fin=.done (.ret v)/\Q v s') E s:=by
 refine wpAny_bind (wpAny_newList ?_ hz);have ho:(s.heap.push (seqObj "list" vs.toArray 0)).get? s.heap.objs.size=Ya (seqObj "list" vs.toArray 0):=Yr _ rfl;refine wpAny_bind (wpAny_holding (wpAny_call_entry aez ⟨_,ho,rfl⟩ ael (list_sort_tree ho c h64 λout a d f g=>⟨_,rfl,?_⟩) (args_list_sort _)));obtain⟨e,i⟩:=sortedHeap_at (out:=out) ho;refine wpAny_pure ⟨_,rfl,h _ out a e (λb o q=>?_) i d f g⟩;have l:=Yu q;rw[sortedHeap_old (YE l) (by rw[size_push'];exact XJ l)];exact Yg _ q
theorem aM.lay_ints{out:Array Yd}{e tk:Nat}(I:aM X Za σ H s)(k:∀b o,s.heap.get? b=Ya o->h'.get? b=Ya o)(a:h'.get? s.heap.objs.size=Ya (seqObj "list" out e))(c:IntsAre out.toList ns)(hz:ns.length<=sizeLine):
  aM X Za σ (upd H s.heap.objs.size (.lst (ns.map V.int))) {s with heap:=h',toks:=tk}:=
 I.laid k (Yj _) ⟨by rw[Yf];exact hz,out.toList,e,uv c,a⟩
theorem A0(x:X.calm=true):dh X (.builtin "sorted") (λxs H Q=>∃(d:Ye) (m:List (Int×Int)),xs=[.ref d]/\Rd H d (.dK (dI m))/\m.length<64/\∀(l:Ye) (ns:List Int),H l=Yb->ns.Perm (m.map (·.1))->ns.Pairwise (·<=·)->Q (.ref l) (upd H l (.lst (ns.map V.int)))):=by
 intro y s σ H xs M Q I r h;obtain⟨d,m,rfl,hd,b,q⟩:=h;obtain⟨u,rfl,B⟩:=d9 r;cases B;obtain⟨z,C,k,c,dd⟩:=iB I.hok hd;obtain⟨D,i⟩:=dd.dictAt;have hl:k.length=m.length:=by rw[←c.length,oz]
 refine GX.uR (args_sorted1 _) (PySem.W.kdu_collect (A:=X.A.in1) (adZ (knd:=aZ X.prog X.w) (kvs:=k) (ep:=D) C) (I.ok.hd x) i (by rw[hl];exact pe (aJ (by omega))) λn tk f E a=>?_);have o:IntsAre f.toList (m.map (·.1)):=uz (P:=X.prog) (w:=X.w) c (by rw[ir];exact a.1) λj v e=>a.2 j v (by rw[←pk];exact e);have ha:f.toList.length=m.length:=by rw[o.length,Yf]
 have p:aM X y σ H {s with heap:=n,toks:=tk}:=I.kept E;refine z5 o (by rw[ha];exact b) (by rw[ha];exact pe (aJ (by omega))) λh2 out g e F G J t K=>?_;have L:g.length<=sizeLine:=by rw[t.length_eq,Yf];exact pe (aJ (by omega))
 exact⟨.ref n.objs.size,_,p.lay_ints (tk:=tk) F G J L,rfl,q _ g (p.hok.fresh (Yj _)) t K⟩
theorem ED:dh X (.type "dict") (λxs H Q=>∃(d:Ye) (kvs:List (bK×V)),xs=[.ref d]/\Rd H d (.dK kvs)/\∀p,H p=Yb->Q (.ref p) (upd H p (.dK kvs))):=by
 intro c s σ H xs e Q I r h;obtain⟨d,kvs,rfl,hd,q⟩:=h;obtain⟨u,rfl,a⟩:=d9 r;cases a;exact J9 I hd λp s' hp b=>⟨.ref p,_,b,rfl,q p hp⟩
theorem Fu:dh X (.builtin "len") (λxs H Q=>∃(a:Ye) (kvs:List (bK×V)),xs=[V.ref a]/\Rd H a (.dK kvs)/\Q (.int kvs.length) H):=by
 intro d s σ H xs e Q I r h;obtain⟨a,kvs,rfl,ha,q⟩:=h;obtain⟨u,rfl,b⟩:=d9 r;cases b;exact UR I ha λt s' c=>⟨.int kvs.length,H,c,⟨_,rfl⟩,q⟩
def Pr(H:Hp)(x:V)(p:Int×Int):Prop:=∃a,x=.ref a/\H a=Ya (.tup [.int p.1,.int p.2])
abbrev i6(H:Hp):List V->List (Int×Int)->Prop:=Paired (Pr H)
theorem i6.mono{b:Hp}(h:∀a xs,H a=Ya (.tup xs)->b a=Ya (.tup xs))(r:i6 H xs ps):i6 b xs ps:=Paired.mapP r λ_ _ ⟨a,c,d⟩=>⟨a,c,h a _ d⟩
theorem i6.snoc{H:Hp}{x:V}{p:Int×Int}:∀{xs:List V} {ps:List (Int×Int)},i6 H xs ps->Pr H x p->i6 H (xs++[x]) (ps++[p])
 |_,_,.nil,h=>.cons h .nil
 |_,_,.cons r t,h=>.cons r (i6.snoc t h)
theorem i6.get{H:Hp}:∀{xs:List V} {ps:List (Int×Int)} {i:Nat} {x:V},i6 H xs ps->xs[i]?=Ya x->∃p,ps[i]?=Ya p/\Pr H x p
 |_,_,_,_,.nil,e=>by simp at e
 |_,_,0,_,.cons r _,e=>by simp at e;subst e;exact⟨_,rfl,r⟩
 |_,_,i+ 1,x,.cons _ t,e=>by
  obtain⟨p,h1,h2⟩:=i6.get (i:=i) (x:=x) t (by simpa using e);exact⟨p,by simpa using h1,h2⟩
theorem i6.len(r:i6 H xs ps):xs.length=ps.length:=Y0 r
end
section
theorem AI{A:nh}{s:Yl}{n:List (Int×Int)}{b:List (bK×Yd)}(c:KV (dI n) b):∀{m:List (Int×Int)} {vs:List (bK×Yd)},KV (dI m) vs->(∀p∈m,qY n p.1=Ya p.2)->PySem.W.KeqHits A s b vs true
 |[],_,r,_=>by
  have a:KV [] _:=r;cases a;exact .nil
 |p::m,vs,r,h=>by
  have a:KV ((YD p.1,V.int p.2)::dI m) vs:=r;cases a with
  |cons r1 r2=>
   rename_i q w;obtain⟨k,v⟩:=q;have d:(YD p.1:bK)=k:=r1.1;subst d;obtain⟨t,f⟩:=(show∃t,v=Xz p.2 t from r1.2);subst f;have z:=c.val (YD p.1);rw[rp,h p Ys]at z;obtain⟨y,g,i⟩:=ku.some_of z;obtain⟨j,l⟩:=(show∃t,y=Xz p.2 t from i);subst l;have e:=SeqAt.EqAt.int_int (A:=A) (s:=s) p.2 t p.2 j;have o:=AI (A:=A) (s:=s) c r2 λq u=>h q (Yp _ u);have:=PySem.W.KeqHits.hit g e o;rw[beq_self_eq_true,abH]at this;exact this
def Q4(b:Bool):R2:=λx y H Q=>∃(a c:Ye) (m n:List (Int×Int)),x=.ref a/\y=.ref c/\Rd H a (.dK (dI m))/\Rd H c (.dK (dI n))/\m.length=n.length/\(∀p∈m,qY n p.1=Ya p.2)/\Q (.bl b) H
theorem JQ(e:X.A.units<Wy):rA X (compareOp .NotEq) (Q4 false):=by
 intro z s σ H x y v u Q I f g h;obtain⟨a,c,m,n,rfl,rfl,ha,i,hl,hp,q⟩:=h;cases f;cases g;obtain⟨_,j,k,b,l⟩:=iB I.hok ha;obtain⟨_,o,p,d,t⟩:=iB I.hok i;have w:k.length=p.length:=by rw[←b.length,←d.length,oz,oz,hl]
 refine aeA j o l t e (r:=true) (λ_=>AI d b hp) ⟨.bl false,H,I,?_,q⟩;rw[w,beq_self_eq_true];rfl
theorem Ea:∀(ps a:List (Int×Int)),((a++ps).map (·.1)).Nodup->u9 (dI a) (dI ps)=dI (a++ps)
 |[],a,_=>by rw[gf];rfl
 |p::ps,a,h=>by
  show u9 (gy (dI a) (YD p.1) (V.int p.2)) (dI ps)=_;have h1:(a.map (·.1)).Nodup:=by
   rw[Yt]at h;exact(xi.mp h).1
  have h2:(a.any λq=>decide (q.1=p.1))=false:=by
   rw[abN];intro q b z;have c:=of_decide_eq_true z;rw[Yt,Yz]at h;exact(xi.mp h).2.2 q.1 (YY (f:=(·.1)) b) p.1 Ys c
  rw[Kk a p.1 p.2 h1,As a p.1 p.2 h2,Ea ps (a++[(p.1,p.2)]) (by rw[WZ];exact h),WZ];rfl
theorem MH(I:aM X Za σ H s):∀{xs:List V} {us:List Yd} {ps:List (Int×Int)},i6 H xs ps->Vals xs us->
  ∃d:List (bK×Yd),KV (dI ps) d/\d.length=us.length/\∀(i:Nat) v,us[i]?=Ya v->∃a f k x o c,v=.ref a/\d[i]?=Ya (k,x)/\(aZ X.prog X.w).is k f=true/\s.heap.get? a=Ya o/\o.cls=.type "tuple"/\o.data=.seq #[f,x] c:=by
 intro xs us ps w
 induction w generalizing us with
 |nil=>
  intro w;cases w;exact⟨[],.nil,rfl,λi v e=>by simp at e⟩
 |@cons x p xs ps h t ih=>
  intro w;cases w with|cons r q=>
  rename_i u us;obtain⟨d,j,l,m⟩:=ih q;obtain⟨a,rfl,ha⟩:=h;obtain rfl:u=YA a:=r;obtain⟨_,b,y,o,ho,z,n,hd,_⟩:[V.int p.1,V.int p.2].length<=sizeLine/\∃b:List Yd,Vals [V.int p.1,V.int p.2] b/\lG s.heap a b.toArray:=I.hok a _ ha;obtain⟨E,g,rfl,A,B⟩:=zM y;obtain⟨C,rfl⟩:=A;refine⟨(YD p.1,g)::d,.cons ⟨rfl,B⟩ j,congrArg (·+ 1) l,λi v e=>?_⟩;cases i with
  |zero=>
   have D:YA a=v:=YC e;subst D;exact⟨a,_,_,g,o,n,rfl,rfl,pB X.prog X.w p.1 C,ho,z,hd⟩
  |succ i=>exact m i v e
theorem Fx(d:X.calm=true):dh X (.type "dict") (λxs H Q=>∃(a:Ye) (ys:List V) (ps:List (Int×Int)),xs=[.ref a]/\H a=Ya (.lst ys)/\i6 H ys ps/\(ps.map (·.1)).Nodup/\ps.length<=1000/\∀p,H p=Yb->Q (.ref p) (upd H p (.dK (dI ps)))):=by
 intro o s σ H xs t Q I r h;obtain⟨a,ys,ps,rfl,ha,hp,nd,hl,q⟩:=h;obtain⟨u,rfl,f⟩:=d9 r;cases f;obtain⟨z,g,n,i,b,e⟩:=I.lstM ha;obtain⟨j,k,l,m⟩:=MH I hp i;refine GX.sr (knd:=aZ X.prog X.w) (I.ok.hd d) e (by rw[←b];exact z) l m λv tk kp dd=>?_;have c:KV (dI ps) (merged [] j):=by
  have:=KV.merge k (show KV (dI []) []from .nil);rw[Ea ps [] (by simpa using nd)]at this;exact this
 refine⟨.ref s.heap.objs.size,_,I.laid (t':=tk) kp (Yj _) (AJ ?_ (beq_eq_false_iff_ne.mpr (cT (YE I.big))) c dd),rfl,q _ (I.hok.fresh (Yj _))⟩;rw[oz];exact pe (aJ hl)
def Q2(K:Yc)(tl:TE):TI:=λσ H R=>tl σ H λx b=>∃a,x=.ref a/\(((∃c,bo K b a c)/\R (Ko K a) b)∨((∃c,bC K b a c)/\R (LK K a) b))
theorem Ri{n l:Y2}{tl:TE}(hl:PE X l tl):PI X n l (Q2 X.K tl):=by
 intro k s σ H R I h;refine cz (hl k s σ H _ I h) λv c r=>?_;obtain⟨x,g,d,t,i⟩:=r;obtain⟨a,e,i⟩:=i;subst e;cases t;have m:∀b∈[c.heap.objs.size],tR X k g b:=λb u=>by
  have e:b=c.heap.objs.size:=by simpa using u
  subst e;exact d.fpOk (Yj _) (d.hok.fresh (Yj _))
 rcases i with⟨⟨w,j⟩,q⟩|⟨⟨w,j⟩,q⟩
 ·obtain⟨f,y,p,z⟩:=d.list j;refine wpAny_pyIter_list p.isList ?_;exact⟨c.heap.objs.size,[c.heap.objs.size],_,_,g,rfl,d.kept (t':=c.toks) λb o e=>Yg _ e,zX a _,⟨_,Yr _ rfl,rfl,rfl⟩,m,q⟩
 ·obtain⟨f,y,p,z⟩:=d.tuple j;refine adk (show c.heap.IsTuple a f.toArray from p) ?_;exact⟨c.heap.objs.size,[c.heap.objs.size],_,_,g,rfl,d.kept (t':=c.toks) λb o e=>Yg _ e,yB a _,⟨_,Yr _ rfl,rfl,rfl⟩,m,q⟩
end
theorem Ds{K:Yc}{g:TG}{j:TT}{k:TE}{D:Ye}{Qe:Hp->Prop}(b:Nat->St->Hp->Prop)(h0:b 0 σ H)(hl:∀i σ H,i<=xs.length->b i σ H->bC K H a xs)(hs:∀i x σ H,xs[i]?=Ya x->b i σ H->eZ g j k D (b (i+ 1)) x σ H)(hd:∀σ H,b xs.length σ H->Qe H):
  ∃W:Nat->Nat->St->Hp->Prop,(∃m,W 0 m σ H)/\∀i m h c,W i m h c->((LK K a).stop i c/\Qe c)∨((LK K a).go i c/\∃N:St->Hp->Prop,(∀l n,N l n->∃o,o<m/\W (i+ 1) o l n)/\
   ∀x d,(LK K a).yld i c x d->eZ g j k D N x h d):=by
 refine⟨λi m σ H=>m=xs.length-i/\i<=xs.length/\b i σ H,⟨xs.length,by simp,Y6 _,h0⟩,?_⟩;rintro i m σ H ⟨rfl,r,p⟩;have q:=hl i σ H r p;by_cases f:i<xs.length
 ·refine .inr ⟨⟨xs,xs[i],q,by simp[f]⟩,b (i+ 1),λh c s=>⟨xs.length-(i+ 1),by omega,rfl,f,s⟩,λx c y=>?_⟩;obtain⟨e,y⟩:=y;subst e;exact hs i x σ _ (y xs q) p
 ·have e:i=xs.length:=by omega
  subst e;exact .inl ⟨⟨xs,q,Yj _⟩,hd σ H p⟩
def SN(d:Ye)(o:Y9)(kvs:List (bK×V)):It:=
 ⟨λi H=>i<kvs.length/\H d=Ya (.frz o (.dK kvs)),λi H x b=>∃k v a,kvs[i]?=Ya (k,v)/\H a=Yb/\x=.ref a/\b=upd H a (.tup [kV k,v]),λi H=>kvs.length<=i/\H d=Ya (.frz o (.dK kvs))⟩
theorem NA{k:bK}{u:Yd}(h:(aZ P w).is k u=true):RelV (kV k) u:=by
 rcases cH (show vG k u=true from h)with⟨i,t,rfl,rfl⟩|⟨x,t,rfl,rfl⟩
 ·exact⟨t,rfl⟩
 ·exact⟨t,rfl⟩
theorem KV.get:∀{i:Nat} {k:bK} {v:V},KV kvs vs->kvs[i]?=Ya (k,v)->∃u,vs[i]?=Ya (k,u)/\RelV v u:=by
 intro i k v r
 induction r generalizing i with
 |nil=>intro e;simp at e
 |cons r1 r2 ih=>
  rename_i p q _ _;intro e;cases i with
  |zero=>
   have a:p=(k,v):=YC e;subst a;obtain⟨b,u⟩:=q;have c:k=b:=r1.1;subst c;exact⟨u,rfl,r1.2⟩
  |succ i=>exact ih e
theorem aM.turnLay{o:HO}(I:aM X Za σ H s)(k:∀b o,b≠it->s.heap.get? b=Ya o->h'.get? b=Ya o)(j:tR X Za H it)(l:∃o,h'.get? it=Ya o)(ha:s.heap.objs.size<=a)(p:a≠it)(new:bZ X.prog X.w (upd H a o) h' a o):aM X Za σ (upd H a o) {s with heap:=h'}:=by
 obtain⟨t,i,D,w,x,y⟩:=j;have hn:H a=none:=I.hok.fresh ha;have h:∀b ob,s.heap.get? b=Ya ob->b≠a:=λb ob e z=>by
  have:=Yu e;rw[z]at this;exact absurd (YU this ha) (Y7 _)
 have f:∀b u,H b=Ya u->b≠it:=λb u e z=>by rw[z,t]at e;cases e
 refine I.step (g':=s.gens) (d':=s.drawn) (t':=s.toks) (ch:=[it]) (λb g=>?_) (λb o _ _ d e _=>k b o (λz=>d (by simp[z])) e) (λb o _ _ d e _=>⟨o.slots,k b o (λz=>d (by simp[z])) e⟩) (λb ob _ e n=>by rw[ak (h b ob e)];exact n)
  (λb o d e=>⟨o,k b o (λz=>d (by simp[z])) e⟩) (λb A e=>by rw[ak (ay e hn)];exact e) (λb o u e=>by rw[ak (ay e hn)];exact e) (λb ps e=>⟨#[],by rw[ak (ay e hn),e];simp⟩) (λm hm=>?_) (λb u e=>?_) I.bare
 ·have e:b=it:=by simpa using g
  subst e;exact⟨w,i,x,y⟩
 ·obtain⟨ob,B,C,ho,r⟩:=hm;exact⟨ob,B,C,k _ ob (cT i) ho,r⟩
 ·by_cases g:b=a
  ·subst g;rw[ai]at e;cases e;exact new
  ·rw[ak g]at e;refine(I.hok b u e).stay (λc v d q=>k c v ?_ q) (λc q=>by rw[ak (ay q hn)];exact q) λc A q=>by rw[ak (ay q hn)];exact q
   rcases d with z|z
   ·rw[z];exact f b u e
   ·exact f c _ z
theorem EI{K:Yc}{d:Ye}{o:Y9}{ep:Nat}(l:KV kvs vs)(M:∀h:YK,h.get? d=Ya o->h.DictAt (aZ P w) d vs ep):
  Turn P w K (.Tuple Zv x1 tp) (SN d o kvs) [it] it (λi h=>∃ok f,IsItemIter h it d i vs.length ep ok f) where
 mem:=by simp
 obj:=λi h st b g=>by
  have e:b=it:=by simpa using g
  subst e;obtain⟨ok,f,e⟩:=st;exact⟨_,e,λv z=>by
   have U:Data.fields _=Data.cell v:=z;cases U⟩
 keep:=λi h x st k=>let ⟨ok,f,e⟩:=st;⟨ok,f,k it (by simp) _ e⟩
 item:=by
  intro X y hw A N i O s σ H E I B st C;subst y hw A;obtain⟨ok,f,a⟩:=st;obtain⟨Q,hd⟩:=C;have j:s.heap.get? d=Ya o:=(show s.heap.get? d=Ya o/\_ from I.hok d _ hd).1;have R:kvs[i]?=Ya kvs[i]:=Yk Q;obtain⟨u,V,W⟩:=l.get (k:=kvs[i].1) (v:=kvs[i].2) R;refine wpAny_pyNext_items_item a (M _ j) V λS x m c n Y kp=>?_;have p:s.heap.objs.size≠it:=λz=>by
   have:=Yu a;rw[←z]at this;exact Y7 _ this
  have q:=B it (by simp);have Z:aM X O σ (upd H s.heap.objs.size (.tup [kV kvs[i].1,kvs[i].2])) {s with heap:=x}:=
   I.turnLay kp q ⟨_,c⟩ (Yj _) p ⟨by show 2<=sizeLine;decide,[S,u],.cons (NA m) (.cons W .nil),_,n,rfl,0,rfl,rfl,rfl⟩
  refine⟨_,rfl,wpAny_letOwnedTupleGo_items c λh2 r sb=>?_⟩;obtain⟨D,F,f2,G,J,L⟩:=q;have t:(upd H s.heap.objs.size (.tup [kV kvs[i].1,kvs[i].2])) it=none:=by rw[ak (cT p)];exact D
  refine⟨.ref s.heap.objs.size,_,Z.turned (t':=s.toks) (λb o g e=>(sb.2 b g).trans e) t F G J L,rfl,⟨_,_,_,R,I.hok.fresh (Yj _),rfl,rfl⟩,⟨S,u,r⟩,λb g=>?_⟩;have e:b=it:=by simpa using g
  rw[e];exact t
 done:=by
  intro X y hw A N i O s σ H E I B st C;subst y hw A;obtain⟨ok,f,a⟩:=st;obtain⟨Q,hd⟩:=C;have j:s.heap.get? d=Ya o:=(show s.heap.get? d=Ya o/\_ from I.hok d _ hd).1;obtain⟨D,F,f2,G,J,L⟩:=B it (by simp);have T:kvs.length=vs.length:=KV.length l;exact wpAny_pyNext_items_end (I.ok.hd N) a (M _ j) (Xe (by omega)) λx eb=>⟨rfl,I.turned (t':=s.toks) (λb o g e=>eb b o g e) D F G J L⟩
 self:=λ_ _ _ _ _ ⟨ok,f,st⟩ h=>ad0 st h
section
def LY(td:TE):TI:=λσ H R=>td σ H λx b=>∃d a,x=.ref d/\b d=Ya (.dK a)/\∀o,R (SN d o a) (upd b d (.frz o (.dK a)))
theorem JT{e:Y2}{r t:Xr}{td:TE}(y:PE X e td)(f:W8 e "items" X.env (eval e X.env)=eval e X.env:=by rfl)(g:(r.endLine==t.line)=true:=by rfl):
  PI X (.Tuple Zv x1 tp) (.Call (.Attribute e "items" r) [] [] t) (LY td):=by
 intro l s σ H R I h;refine XZ f g (cz (y l s σ H _ I h) λv a A=>?_);obtain⟨x,m,n,B,d,c,ex,hd,q⟩:=A;subst ex;obtain rfl:v=YA d:=B;obtain⟨z,u,k,i,dd⟩:=G6 n.hok hd;obtain⟨h1,h2⟩:=uS (T:="dict") n (x:=.ref d) rfl (.inr (.inr (.inl ⟨rfl,.inl ⟨c,hd⟩⟩)));refine⟨"dict","dict.items",WI,aae,ack,h1,h2,WN rfl (aav ?_)⟩;refine aak aae h1 acN (acB _) (meets_dict_items (aZ X.prog X.w) d u) ⟨⟨k,dd⟩,?_⟩;have j:(a.heap.push {cls:=.type "dict_items",data:=.fields #[.ref d]}).DictOf (aZ X.prog X.w) d k:=dd.push _;obtain⟨o,C,D,ho,rr⟩:=id j;have w:∀h:YK,h.get? d=Ya o->h.DictAt (aZ X.prog X.w) d k D:=λh E=>⟨o,C,E,rr⟩;have F:aM X l σ m {a with heap:=a.heap.push {cls:=.type "dict_items",data:=.fields #[.ref d]}}:=n.kept (t':=a.toks) λb ob e=>Yg _ e;have G:(a.heap.push {cls:=.type "dict_items",data:=.fields #[.ref d]}).IsItemsView a.heap.objs.size d:=⟨_,Yr _ rfl,rfl,rfl⟩;show Yo _ _ (pyIter (.ref a.heap.objs.size)) _ _ _;refine wpAny_pyIter_items G (w _ ho) ?_;have p:aM X l σ (upd m d (.frz o (.dK c))) {a with heap:=a.heap.push {cls:=.type "dict_items",data:=.fields #[.ref d]}}:=
  F.write (t':=a.toks) (x:=d) (e:=d) (by rw[hd];trivial) (.inl rfl) (λ_ _ _ e=>e) ⟨o,ho⟩ ⟨ho,z,u,k,i,j⟩
 refine⟨_,[_],_,SN d o c,upd m d (.frz o (.dK c)),rfl,p.kept (t':=a.toks) λb ob e=>Yg _ e,EI i w,⟨.none,.none,Yr _ rfl⟩,λb J=>?_,q o⟩;have K:b=(a.heap.push {cls:=.type "dict_items",data:=.fields #[.ref d]}).objs.size:=by simpa using J
 subst K;exact p.fpOk (Yj _) (p.hok.fresh (Yj _))
end
end L2
namespace GX
open PySem PyProof.Rows
variable{xs:Array Nat}{i j sl p n ep c:Nat}{t t':abr}{h:YK}{b:Bool}{x first:Yd}{prog:YO}{w:YW}{A:nh}{E Q1:Yd->Yl->Prop}{s:Yl}{a I tp:Ye}{S:Int->Bool}{es Zk:Array (Int×Yd)}{Q:Option Yd->Yl->Prop}{k:Int}{R:aaj->Yl->Prop}{ns:List Int}{M:aeP}{o:Y9}{ps:List Nat}
def K6(xs:Array Nat):Prop:=xs.toList.Pairwise (·<·)
theorem K6.at(h:K6 xs)(b:i<j)(a:j<xs.size):xs.getD i 0<xs.getD j 0:=by
 have:=Xg.mp h i j (by simp;omega) (by simpa using a) b;simp only[abd]at this;rw[YJ,YJ,YI (by omega),YI a];exact this
theorem CM(h:i<xs.size)(a b:Nat):xs.getD i a=xs.getD i b:=by
 rw[YJ,YJ,YI h];rfl
theorem xI{xs:Array Nat}(d:K6 xs)(j:Nat):∀(a lo b:Nat),lo<=b->b<=xs.size->b-lo<=a->(∀i,i<lo->xs.getD i 0<j)->(∀i,b<=i->i<xs.size->j<=xs.getD i 0)->
  Xp xs j a lo b<=xs.size/\(∀i,i<Xp xs j a lo b->xs.getD i 0<j)/\(∀i,Xp xs j a lo b<=i->i<xs.size->j<=xs.getD i 0)
 |0,lo,b,h1,h2,h3,h4,h5=>by
  have e:lo=b:=by omega
  subst e;unfold Xp;exact⟨h2,h4,h5⟩
 |a+ 1,lo,b,h1,h2,h3,h4,h5=>by
  unfold Xp;by_cases h:lo<b
  ·rw[if_pos h];have hm:(lo+ b) / 2<xs.size:=by omega
   show(if xs.getD ((lo+ b) / 2) j<j then Xp xs j a ((lo+ b) / 2+ 1) b else Xp xs j a lo ((lo+ b) / 2))<=_/\_;by_cases c:xs.getD ((lo+ b) / 2) j<j
   ·simp only[if_pos c];rw[CM hm j 0]at c;refine xI d j a _ b (by omega) h2 (by omega) (λi f=>?_) h5;rcases XS i ((lo+ b) / 2)with z|z
    ·have:=d.at z hm;omega
    ·have:i=(lo+ b) / 2:=by omega
     rw[this];exact c
   ·simp only[if_neg c];rw[CM hm j 0]at c;refine xI d j a lo _ (by omega) (by omega) (by omega) h4 (λi f hs=>?_);rcases XS ((lo+ b) / 2) i with z|z
    ·have:=d.at z hs;omega
    ·have:i=(lo+ b) / 2:=by omega
     rw[this];omega
  ·rw[if_neg h];have e:lo=b:=by omega
   subst e;exact⟨h2,h4,h5⟩
theorem tH(a:K6 xs)(j:Nat):mr xs j<=xs.size/\(∀i,i<mr xs j->xs.getD i 0<j)/\(∀i,mr xs j<=i->i<xs.size->j<=xs.getD i 0):=by
 unfold mr;exact xI a j _ 0 _ (Y6 _) (Yj _) (by omega) (λi h=>by omega) (λi h1 h2=>by omega)
theorem Eu(a:K6 xs)(b:i<xs.size):mr xs (xs.getD i 0+ 1)=i+ 1:=by
 obtain⟨h1,h2,h3⟩:=tH a (xs.getD i 0+ 1);rcases abT (mr xs (xs.getD i 0+ 1)) (i+ 1)with z|z|z
 ·have:=h3 i (by omega) b;omega
 ·exact z
 ·have q:=h2 (i+ 1) z;have:=a.at (i:=i) (j:=i+ 1) (by omega) (by omega);omega
theorem Fe(a:K6 xs):mr xs 0=0:=by
 obtain⟨h1,h2,h3⟩:=tH a 0;rcases Nat.eq_zero_or_pos (mr xs 0)with z|z
 ·exact z
 ·have:=h2 0 z;omega
def Off(xs:Array Nat)(d:Nat):Prop:=xs[mr xs d]?≠Ya d
theorem Off.no(b:K6 xs){d:Nat}(h:Off xs d):∀i,i<xs.size->xs.getD i 0≠d:=by
 intro i a e;obtain⟨h1,h2,h3⟩:=tH b d;have f:mr xs d<=i:=by
  rcases XS i (mr xs d)with z|z
  ·have:=h2 i z;omega
  ·exact z
 have c:mr xs d=i:=by
  rcases XS (mr xs d) i with z|z
  ·have:=b.at z a;have:=h3 (mr xs d) (Yj _) (by omega);omega
  ·omega
 apply h;rw[c,YI a];rw[YJ,YI a]at e;exact congrArg Ya e
theorem BS(h:∀i,t.slot j≠.live i):Off t.place j:=by
 intro z;apply h (mr t.place j);unfold SetTable.slot;simp only[z,beq_self_eq_true,if_true]
theorem zZ(t:abr)(p:aeB):(t.advance p).dummy=p.dummy:=by
 unfold SetTable.advance;split<;>rfl
theorem uN{t:abr}{f:Nat->Int}{h:Int}:∀(a:Nat) (p:aeB) (j:Nat) (b:Option Nat),(∀d,p.dummy=Ya d->Off t.place d)->aaS t f h a p=Ya (.empty j b)->Off t.place j/\∀d,b=Ya d->Off t.place d
 |0,p,j,b,hp,e=>by
  unfold aaS at e;cases e
 |a+ 1,p,j,b,hp,e=>by
  unfold aaS at e;cases hs:t.slot p.j with
  |empty=>
   rw[hs]at e;dsimp only at e;cases e;exact⟨BS (λi z=>by rw[hs]at z;cases z),hp⟩
  |dummy=>
   rw[hs]at e;dsimp only at e;refine uN a _ j b (λd hd=>?_) e;rw[zZ]at hd;cases hd;exact BS (λi z=>by rw[hs]at z;cases z)
  |live i=>
   rw[hs]at e;dsimp only at e;split at e
   ·cases e
   ·exact uN a _ j b (λd hd=>hp d (by rw[zZ]at hd;exact hd)) e
theorem Kb{h:Int}(e:t.freeSlot h=Ya (sl,b)):Off t.place sl:=by
 unfold SetTable.freeSlot SetTable.probe at e;generalize hg:aaS t (λ_=>h+ 1) h (10*SetTable.turns t.mask) (t.probeStart h)=g at e;cases g with
 |none=>cases e
 |some m=>
  cases m with
  |candidate j i n=>cases e
  |empty j dm=>
   obtain⟨h1,h2⟩:=uN _ _ j dm (λd hd=>by cases hd) hg;dsimp only at e;have a:=YC e;cases dm with
   |none=>
    have:j=sl:=congrArg Prod.fst a;rw[←this];exact h1
   |some d=>
    have:d=sl:=congrArg Prod.fst a;rw[←this];exact h2 d rfl
theorem MB{x:Nat}(h:x∈xs.toList.take p):∃i,i<p/\i<xs.size/\xs.getD i 0=x:=by
 obtain⟨i,a,e⟩:=XW h;rw[Y8,ir]at a;refine⟨i,by omega,by omega,?_⟩;rw[List.getElem_take,abd]at e;rw[YJ,YI (by omega)];exact e
theorem Ag{x:Nat}(h:x∈xs.toList.drop p):∃i,p<=i/\i<xs.size/\xs.getD i 0=x:=by
 obtain⟨i,a,e⟩:=XW h;rw[Xw,ir]at a;refine⟨p+ i,by omega,by omega,?_⟩;rw[List.getElem_drop,abd]at e;rw[YJ,YI (by omega)];exact e
theorem Pk(d:K6 t.place)(ho:Off t.place sl):K6 (t.put sl).1.place:=by
 obtain⟨h1,h2,h3⟩:=tH d sl;show(SetTable.insertAt t.place (mr t.place sl) sl).toList.Pairwise (·<·);rw[SetTable.toList_insertAt,abe];refine⟨d.sublist (aaf _ _),?_,?_⟩
 ·rw[aaI];refine⟨λx e=>?_,d.sublist (List.drop_sublist _ _)⟩;obtain⟨i,a,b,c⟩:=Ag e;have f:=h3 i a b;have g:=ho.no d i b;omega
 ·intro x e y h;obtain⟨i,a,b,c⟩:=MB e;have f:=h2 i a;rcases Ym.mp h with z|z
  ·omega
  ·obtain⟨j,k,l,m⟩:=Ag z;have g:=h3 j k l;omega
theorem ql(t:abr)(n:Nat):K6 (t.standIn n).place:=by
 show(Array.range n).toList.Pairwise (·<·);rw[Array.toList_range];exact aab
def Tb(b:Bool)(t:abr):Prop:=K6 t.place/\t.led=b
theorem Ss(h:Tb b t)(es:Array (Int×Yd))(k:Int)(x:Yd):Tb b (layNew t es k x).2.1:=by
 unfold layNew;split
 ·rename_i a wd e;dsimp only;unfold SetTable.orStandIn;split
  ·exact⟨Pk h.1 (Kb e),h.2⟩
  ·exact⟨ql _ _,h.2⟩
 ·exact⟨ql _ _,h.2⟩
theorem IH{hs:Array Int}{o:Array Nat}(h:Tb b t)(e:t.relaid hs n=Ya (t',o)):Tb b t':=by
 unfold SetTable.relaid SetTable.laid at e;cases d:SetTable.layClean (SetTable.sizeAbove n-1) hs with
 |none=>rw[d]at e;cases e
 |some ow=>
  rw[d]at e;have i:=YC e;have g:=congrArg Prod.fst i;dsimp only at g;rw[←g];refine⟨?_,h.2⟩;show List.Pairwise _ (adj (Xn _));rw[List.toList_toArray,List.map_filterMap];refine List.Pairwise.filterMap (R:=(·<·)) _ (λx y f a ha c d=>?_) aab;simp only[aeC,Option.mem_def,X8]at ha d;obtain⟨_,_,rfl⟩:=ha;obtain⟨_,_,rfl⟩:=d;exact f
theorem Mf(h:Tb b t)(es:Array (Int×Yd))(n:Nat):Tb b (relayAll t es n).2.1:=by
 unfold relayAll;split
 ·rename_i a o e;dsimp only;split
  ·exact IH h e
  ·exact⟨ql _ _,h.2⟩
 ·exact⟨ql _ _,h.2⟩
abbrev Ey(w:YW):Bool:=w.params.followText "set-order"
section
def rX(prog:YO)(w:YW)(h:YK)(a:Ye)(S:Int->Bool)(n:Nat):Prop:=
 ∃o b c t,h.get? a=Ya o/\o.ExactSet/\o.data=.set b c t/\ElemsOf (intKind prog w) b.toList/\(∀k,S k=true↔∃e∈b.toList,(intKind prog w).is k e.2=true)/\b.size<aap/\t.fits b.size=true/\b.size=n/\Tb (!Ey w) t
theorem rX.at{h':YK}(x:rX prog w h a S n)(k:∀o,h.get? a=Ya o->h'.get? a=Ya o):rX prog w h' a S n:=by
 obtain⟨o,b,c,t,ho,r⟩:=x;exact⟨o,b,c,t,k o ho,r⟩
theorem rX.congr{b:Int->Bool}{c:Nat}(x:rX prog w h a S n)(e:∀k,S k=b k)(d:n=c):rX prog w h a b c:=by
 have z:S=b:=funext e;rw[←z,←d];exact x
def p0(prog:YO)(w:YW)(es:Array (Int×Yd))(t:abr)(S:Int->Bool)(n:Nat):Prop:=
 ElemsOf (intKind prog w) es.toList/\(∀k,S k=true↔∃e∈es.toList,(intKind prog w).is k e.2=true)/\es.size<aap/\t.fits es.size=true/\es.size=n/\Tb (!Ey w) t
def BK(h:YK)(a:Ye)(es:Array (Int×Yd))(t:abr):Prop:=∃o b,h.get? a=Ya o/\o.ExactSet/\o.data=.set es b t
theorem BK.good(r:BK h a es t)(g:p0 prog w es t S n):rX prog w h a S n:=by
 obtain⟨o,b,c,d,e⟩:=r;exact⟨o,es,b,t,c,d,e,g⟩
theorem BK.put{Q:Unit->Yl->Prop}(r:BK s.heap a es t)(hz:Zk.size<aap)(h:∀h',Wt a s.heap h'->BK h' a Zk t'->Q () {s with heap:=h'}):
  Yo (model prog w) A (storeSet a Zk t') Q E s:=by
 obtain⟨⟨c,d,b,g⟩,e,ho,f,hd⟩:=r;cases hd;exact wpAny_storeSet_of ho rfl (h _ (Wv ..) ⟨_,e+ 1,Ww _ ho rfl,f,rfl⟩) (fits_of_scanBound hz)
theorem p0.mix(g:p0 prog w es t S n)(p:afn Zk.toList es.toList)(f:t'.fits Zk.size=true)(b:Tb (!Ey w) t'):p0 prog w Zk t' S n:=by
 obtain⟨a,c,d,_,h,_⟩:=g;have z:Zk.size=es.size:=by simpa using p.length_eq
 exact⟨a.perm p,λk=>(c k).trans ⟨fun⟨e,u,v⟩=>⟨e,p.mem_iff.mpr u,v⟩,fun⟨e,u,v⟩=>⟨e,p.mem_iff.mp u,v⟩⟩,z▸d,f,z.trans h,b⟩
theorem p0.relaid(g:p0 prog w es t S n)(m:Nat):p0 prog w (relayAll t es m).1 (relayAll t es m).2.1 S n:=
 g.mix (relayAll_perm t es m) (relayAll_fits t es m) (Mf g.2.2.2.2.2 es m)
theorem p0.more(g:p0 prog w es t S n)(hk:(intKind prog w).is k x=true)(c:x.scannable=true)(a:n+ 1<aap):
  p0 prog w (layNew t es ((intKind prog w).hash k) x).1 (layNew t es ((intKind prog w).hash k) x).2.1 (λb=>S b||decide (b=k)) (n+ 1):=by
 obtain⟨d,e,i,_,f,h⟩:=g;have p:afn _ (es.push ((intKind prog w).hash k,x)).toList:=layNew_perm t es ((intKind prog w).hash k) x;rw[adL]at p;have z:(layNew t es ((intKind prog w).hash k) x).1.size=n+ 1:=by simpa [f]using p.length_eq
 exact⟨(d.push hk c).perm p,mem_push_iff hk e p,z▸a,layNew_fits t es _ x,z,Ss h es _ x⟩
theorem D8{Q:Unit->Yl->Prop}(q:Q () s):Yo (model prog w) A (match b with|true=>rule "set.scan.the-table-gave-way"|false=>pure ()) Q E s:=by
 cases b
 ·exact wpAny_pure q
 ·exact wpAny_rule q
theorem Ot{u:aay}{Q:Bool->Yl->Prop}(x:rX prog w s.heap a S n)(d:n+ 1<aap)(h:∀h' b,Wt a s.heap h'->rX prog w h' a (λc=>S c||decide (c=k)) (if S k then n else n+ 1)->Q b {s with heap:=h'}):
  Yo (model prog w) A (setAddHashed a (.int k u) ((intKind prog w).hash k)) Q E s:=by
 obtain⟨o,l,p,t,ho,q,hd,g⟩:=x;have r:p0 prog w l t S n:=g;obtain⟨y,hm,H,B,hn,K⟩:=g;have C:(intKind prog w).is k (.int k u)=true:=intKind_is _ _ _ _;rw[setAddHashed,setAddHashedIn];apply wpAny_holding;apply wpAny_bind;apply wpAny_setState_of ho hd B;dsimp only;rw[byScan_of rfl H y,if_pos rfl]
 wp_walk using wpAny_setScan_of C ho hd B y
 cases hr:List.findIdx? (λe=>(intKind prog w).is k e.2) l.toList with
 |some j=>
  obtain⟨lt,is,_⟩:=List.findIdx?_eq_some_iff_getElem.mp hr;have f:S k=true:=(hm k).mpr ⟨_,aa0 lt,is⟩
  wp_walk
  refine h s.heap false (.refl a _) (BK.good ⟨o,p,ho,q,hd⟩ ?_);rw[if_pos f,show(λc=>S c||decide (c=k))=S from funext λc=>?_]
  ·exact r
  ·by_cases e:c=k
   ·rw[e,f];rfl
   ·rw[decide_eq_false e,ac7]
 |none=>
  have f:¬ S k=true:=λz=>by
   obtain⟨e,u,v⟩:=(hm k).mp z;exact absurd v (by simpa using List.findIdx?_eq_none_iff.mp hr e u)
  have i:=r.more C rfl d;rw[if_neg f]at h;dsimp only;generalize layNew t l ((intKind prog w).hash k) (.int k u)=L at i⊢;obtain⟨m,M,wd,N⟩:=L;refine wpAny_bind (D8 ?_);dsimp only;rw[hashByValue_scannable 8 (x:=.int k u) rfl];split
  all_goals
   refine wpAny_bind (wpAny_pure ?_);rw[if_pos (by rfl)];refine wpAny_bind (BK.put ⟨o,p,ho,q,hd⟩ i.2.2.1 λh1 D F=>?_);split
   ·have G:=i.relaid (SetTable.grown m.size);refine wpAny_bind (D8 (wpAny_bind (BK.put (s:={s with heap:=h1}) F G.2.2.1 λh2 I J=>?_)))
    wp_walk
    exact h h2 true (D.trans I) (J.good G)
   ·wp_walk
    exact h h1 true D (F.good i)
theorem C9(S I:Ye):MeetsIn prog w (vc.«set.update.loop» ⟨[.ref S,.ref I],[]⟩) λA R s=>Yo (model prog w) A.in1 (pyNext (.ref I)) (λr s=>match r with
  |none=>R (.ok (.ret .none)) s
  |some v=>Yo (model prog w) A.in1 (setAdd S v) (λ_ s=>sq (model prog w) A (.builtin "set.update.loop" ⟨[.ref S,.ref I],[]⟩) R s) (λ_ _=>False) s) (λ_ _=>False) s:=by
 intro A R s nx;show Yo _ _ (pyNext (.ref I) >>= _) _ _ s;apply wpAny_bind;refine wpAny_mono nx (λr a h=>?_) λ_ _ z=>z.elim;rcases r with _|v
 ·wp_walk
  exact h
 ·wp_walk using wpAny_mono h
  ·exact λ_ _ e=>wpAny_pure ⟨plainId_quiet XD _,e⟩
  ·exact λ_ _ z=>z.elim
theorem Mc{S:Ye}{fp f:List Ye}{P:Nat->Yd->Prop}{St:Nat->YK->Prop}(W:acu prog w A.in1 I fp f n P St)(l:S∉fp)(val:Nat->Int)(u:∀i v,P i v->∃t,v=.int (val i) t)(m:n+ 1<aap):
  ∀(k i:Nat) (s:Yl),n=i+ k->St i s.heap->rX prog w s.heap S (λc=>(firstMet val i).any (·==c)) (firstMet val i).length->
   (∀h' tk,(∀b o,b∉f->b≠S->s.heap.get? b=Ya o->h'.get? b=Ya o)->rX prog w h' S (λc=>(firstMet val n).any (·==c)) (firstMet val n).length->R (.ok (.ret .none)) {s with heap:=h',toks:=tk})->
   sq (model prog w) A (.builtin "set.update.loop" ⟨[.ref S,.ref I],[]⟩) R s:=by
 have p:S∉f:=λz=>l (W.sub _ z);intro k
 induction k with
 |zero=>
  intro i s q st x fin;obtain rfl:n=i:=q;exact enter aaJ XD (C9 S I) (W.done s _ _ st λh tk kp=>fin h tk (λb o d _ e=>kp b o d e) (x.at λo e=>kp S o p e))
 |succ k ih=>
  intro i s q st x fin;refine enter aaJ XD (C9 S I) (W.item i s _ _ (by omega) st λv h tk pv g kp=>?_);obtain⟨t,rfl⟩:=u i v pv;have len:=firstMet_length_le val i;show Yo _ _ (setAdd S (.int (val i) t)) _ _ _;unfold setAdd;refine wpAny_holding (wpAny_bind ((intKind prog w).pyHash (k:=val i) (intKind_is _ _ _ _) (Ot (s:={s with heap:=h,toks:=tk+ 1}) (x.at λo e=>kp S o p e) (by omega) λh2 b r y=>?_)));refine ih (i+ 1) {s with heap:=h2,toks:=tk+ 1} (by omega) (W.frame _ _ _ g λb m o e=>(r.2 b λz=>l (z▸m)).trans e) (y.congr (λc=>?_) ?_) λh3 j B C=>fin h3 j (λb o d a e=>B b o d a ((r.2 b a).trans (kp b o d e))) C
  ·rw[ac9,step_any]
  ·rw[ac9,step_length]
theorem Pe(a:Yd)(h:Q1 (.ref s.heap.objs.size) {s with heap:=s.heap.push {cls:=.type "set",dict:=Yb,data:=.set #[] 0 (.fresh 0 0 (!Ey w))}}):
  sq (model prog w) A (.call (.builtin "set.__new__") ⟨[.type "set",a],[]⟩) (wants Q1 E) s:=by
 refine codeAny_call_builtin PySem.F.plain_set_new PySem.F.entry_set_new (wpAny_of_eq (PySem.F.newCall_set_1 a) ?_);have sub:=sub_set_self;obtain⟨hp,g,d,tk,os⟩:=s
 wp_walk using wpAny_askSetting
 exact h
theorem Cv{T d e:String}{a:List Yd}{Q:Yd->Yl->Prop}(ft:TypeCalled T d e)(ct:checkTypeCall T ⟨a,[]⟩=pure ())(new:sq (model prog w) A.in1 (.call (.builtin d) ⟨.type T::a,[]⟩) (wants Q1 E) s)(init:∀v b,Q1 v b->b.TypeIs v T/\sq (model prog w) A.in1 (.call (.builtin e) ⟨v::a,[]⟩) (wants (λr f=>r=.none/\Q v f) E) b):Yo (model prog w) A (call (.type T) a) Q E s:=by
 obtain⟨_,_,_⟩:=ft.mro;have:=ft.notType;have:=ft.canCreate;have:=ft.made;have:=ft.sub;refine aa9 (codeAny_of_tree (wpAny_pure ⟨abC _ (by decide +kernel),codeAny_builtin PySem.F.entry_type_call ?_⟩));rw[Around.under_plain (weight_type_call_type T a []) rfl]
 repeat' first|assumption|wp_step
 refine codeAny_mono new λr b h=>?_
 match r,h with
 | .error _,h=>exact h
 | .ok (.ret v),h=>
  obtain⟨ty,c⟩:=init v b h;have:=ft.init.lookup;have:=ft.init.bind v
  repeat' first|assumption|wp_step
  refine codeAny_mono c λr f h=>?_
  match r,h with
  | .error _,h=>exact h
  | .ok (.ret _),h=>
   obtain⟨rfl,_⟩:=h
   repeat' first|assumption|wp_step
end
theorem cJ:aeU "set_iterator" "__next__" "set_iterator.__next__":=
 .of (owner:="set_iterator") (n:="__next__") (by rw[aem,acO];kernel_rfl) (by decide +kernel) (by decide +kernel) (by decide +kernel) (by first|exact .inl (by decide +kernel)|exact .inr (by decide +kernel)) (by rw[aal];kernel_rfl)
theorem jF:aaa abw "set_iterator.__next__"=Ya vc.«set_iterator.__next__»:=adY (by kernel_rfl)
theorem jY(a:Yd):argsOk "set_iterator.__next__" ⟨[a],[]⟩:=by unfold argsOk;kernel_rfl
theorem vH:aeU "set_iterator" "__iter__" "set_iterator.__iter__":=
 .of (owner:="set_iterator") (n:="__iter__") (by rw[aem,acO];kernel_rfl) (by decide +kernel) (by decide +kernel) (by decide +kernel) (by first|exact .inl (by decide +kernel)|exact .inr (by decide +kernel)) (by rw[aal];kernel_rfl)
theorem DE:aaa abw "set_iterator.__iter__"=Ya vc.«dict_keyiterator.__iter__»:=aeD (id':="dict_keyiterator.__iter__") (by kernel_rfl) rfl (by decide +kernel) (by kernel_rfl)
theorem Ec(a:Yd):argsOk "set_iterator.__iter__" ⟨[a],[]⟩:=by unfold argsOk;kernel_rfl
theorem BZ:aaa abw "set.__iter__"=Ya vc.«frozenset.__iter__»:=aeD (id':="frozenset.__iter__") (by kernel_rfl) rfl (by decide +kernel) (by kernel_rfl)
abbrev Fn(w:YW)(h:YK):YK:=h.push {cls:=.type "set",dict:=Yb,data:=.set #[] 0 (.fresh 0 0 (!Ey w))}
section
theorem Dr{l:Ye}{items:Array Yd}{Q:Yd->Yl->Prop}(t:A.handled=Yb)(hl:s.heap.IsList l items)(u:IntsAre items.toList ns)(y:items.size+ 1<aap)(h:∀h' tk,rX prog w h' s.heap.objs.size (λB=>(firstMet (λi=>ns.getD i 0) items.size).any (·==B)) (firstMet (λi=>ns.getD i 0) items.size).length->(∀b o,s.heap.get? b=Ya o->h'.get? b=Ya o)->Q (.ref s.heap.objs.size) {s with heap:=h',toks:=tk}):
  Yo (model prog w) A (call (.type "set") [.ref l]) Q E s:=by
 obtain⟨⟨I,od,C,g⟩,d,j,p,m⟩:=id hl;cases j;cases m;have q:l<s.heap.objs.size:=Yu d;refine Cv ads (PySem.F.typeCall_set_1 _) (Pe (.ref l) (Q1:=λv D=>v=.ref s.heap.objs.size/\D={s with heap:=Fn w s.heap}) ⟨rfl,rfl⟩) ?_;rintro _ _ ⟨rfl,rfl⟩;have new:(Fn w s.heap).get? s.heap.objs.size=Ya {cls:=.type "set",dict:=Yb,data:=.set #[] 0 (.fresh 0 0 (!Ey w))}:=Yr _ rfl;have f:(Fn w s.heap).get? l=Ya {cls:=.type "list",dict:=od,data:=.seq items p,slots:=g}:=Yg _ d;have a:(Fn w s.heap).objs.size=s.heap.objs.size+ 1:=WV ..;have ty:rl {s with heap:=Fn w s.heap} (.ref s.heap.objs.size) "set":=⟨_,new,rfl⟩;refine⟨ty,codeAny_call_builtin ads.init.plain PySem.F.entry_set_init (check_set_init_1 ty ?_)⟩;have:=PySem.F.sub_list_set;have:=PySem.F.sub_list_frozenset;have nd:(W6 "list"==W6 "dict")=false:=by decide
 have c:∀b o,s.heap.get? b=Ya o->(Fn w s.heap).get? b=Ya o:=λb o e=>Yg _ e;generalize Fn w s.heap=h1 at new f a ty c⊢;have r:h1.IsList l items:=⟨_,f,rfl,p,rfl⟩
 wp_walk using wpAny_pyIter_list r
 have F:s.heap.objs.size∉[h1.objs.size,l]:=by
  rw[a];intro z;rcases Ym.mp z with z|z
  ·exact absurd z (YE (Xv _))
  ·exact XA q (Yh.mp z)
 refine Mc (abc (by simpa using t) _ l (by rw[a];exact YE (XJ q)) items) F (λi=>ns.getD i 0) (λi v G=>IntsAre.int_at u i v (by rw[pk];exact G)) y items.size 0 _ (by omega)
  ⟨⟨_,Yr _ rfl,rfl,rfl⟩,r.push _⟩ ⟨_,#[],0,_,Yg _ new,⟨rfl,rfl,rfl⟩,rfl,λe H=>by simp at H,λk=>by simp[firstMet_zero],by decide,by rfl,rfl,⟨List.Pairwise.nil,rfl⟩⟩ λh2 tk kp x=>?_
 wp_walk
 refine⟨rfl,h h2 tk x λb o e=>?_⟩;have n:=Yu e;refine kp b o (λz=>?_) (YE n) (Yg _ (c b o e));rw[Yh.mp z,a]at n;exact absurd n (aen.mpr (Xh _))
end
section
theorem rK{α:Type}:∀{xs:List α} {i:Nat} (h:i<xs.length),(xs[i]::xs.eraseIdx i).Perm xs
 |x::xs,0,_=>.refl _
 |x::xs,i+ 1,h=>(acP x (xs[i]'(acC h)) _).trans ((rK (xs:=xs) (i:=i) (acC h)).cons x)
theorem IS{a:Source}{Q:Nat->Yl->Prop}(hn:n≠0)(h:∀i d,i<n->Q i {s with drawn:=d}):Yo M A (choose a n) Q E s:=fun Γ p _=>by
 unfold choose;rw[Sem.wp_choose];exact⟨hn,h _ _ (afk _ (Nat.pos_of_ne_zero hn))⟩
theorem GA{α:Type}{M:aeP}:∀(n:Nat) (xs:List α) (s:Yl) (Q:List α->Yl->Prop),xs.length=n->(∀ys d,ys.Perm xs->Q ys {s with drawn:=d})->Yo M A (drawOrder n xs) Q E s
 |0,xs,s,Q,hl,h=>by
  have e:xs=[]:=Wz hl;subst e;unfold drawOrder;exact wpAny_pure (h [] s.drawn .nil)
 |n+ 1,[],s,Q,hl,h=>by cases hl
 |n+ 1,x::xs,s,Q,hl,h=>by
  unfold drawOrder;refine wpAny_bind (IS (by simp) λi d a=>?_);rw[Yk a];dsimp only;refine wpAny_bind (GA n _ _ _ (by rw[abI a,hl];rfl) λys b c=>?_);exact wpAny_pure (h _ b ((c.cons _).trans (rK a)))
theorem GS{α:Type}(f:Nat->Nat):∀(n k:Nat) (xs:List α) (out:Array α),xs.length=n->(pickOrder.go f n k xs out).toList.Perm (out.toList++xs)
 |0,k,xs,out,hl=>by
  have e:xs=[]:=Wz hl;subst e;unfold pickOrder.go;rw[gf]
 |n+ 1,k,xs,out,hl=>by
  unfold pickOrder.go;have a:f k%xs.length<xs.length:=afk _ (by omega);rw[Yk a];dsimp only;refine(GS f n (k+ 1) _ _ (by rw[abI a,hl];rfl)).trans ?_;rw[adL,WZ];exact afd _ (rK a)
theorem II{α:Type}(f:Nat->Nat)(xs:Array α):(pickOrder f xs).toList.Perm xs.toList:=by
 have:=GS f xs.size 0 xs.toList #[] (by simp);simpa [pickOrder]using this
end
section
def vV(first:Yd)(i:Nat)(a:Ye)(n ep:Nat):Y9:={cls:=.type "set_iterator",dict:=Yb,data:=.fields #[first,.int i 0,.ref a,.int n 0,.int ep 0],slots:=#[]}
theorem rE(h:YK)(b:h.get? I=Ya (vV first i a n ep))(k:Nat)(x:Yd):(h.update I (aaX (·.setIfInBounds k x))).get? I=Ya {cls:=.type "set_iterator",dict:=Yb,data:=.fields ((#[first,.int i 0,.ref a,.int n 0,.int ep 0]:Array Yd).setIfInBounds k x),slots:=#[]}:=
 Ww _ b rfl
theorem eO(b:s.heap.get? I=Ya (vV first i a es.size ep)):s.TypeIs (.ref I) "set_iterator":=⟨_,b,rfl⟩
theorem tO{c:Int}{nx:Nat}(b:s.heap.get? I=Ya (vV (.int c 0) i a es.size ep))(ho:s.heap.get? a=Ya o)(hd:o.data=.set es ep t)(e:t.fits es.size=true)(hn:∀(A:nh) (E:Yd->Yl->Prop) (d:Option (Yd×Nat)->Yl->Prop),d (Ya (x,nx)) s->Yo (model prog w) A (setNext a c.toNat i ep) d E s)(h:∀h',h'.get? I=Ya (vV (.int nx 0) (i+ 1) a es.size ep)->Wt I s.heap h'->Q (Ya x) {s with heap:=h'}):Yo (model prog w) A (pyNext (.ref I)) Q E s:=by
 unfold pyNext;refine wpAny_bind (wpAny_attempt (Xs (name:=xu "__next__") (eO b) cJ (wpAny_call_entry cJ (eO b) jF ?_ (jY _))));unfold vc.«set_iterator.__next__»;refine wpAny_bind (wpAny_pure (wpAny_bind (wpAny_fieldsOf b rfl ?_)));show Yo _ _ (setEntries a >>= _) _ _ _;refine wpAny_bind (wpAny_setEntries_of ho hd e ?_);show Yo _ _ (if(((es.size:Nat):Int) !=((es.size:Nat):Int))=true then _ else _) _ _ _;rw[if_neg (by simp)];show Yo _ _ (setNext a c.toNat ((i:Int)).toNat ((ep:Int)).toNat >>= _) _ _ _;rw[YH,YH];refine wpAny_bind (hn _ _ _ ?_);show Yo _ _ (setField (.ref I) 0 (rawInt nx) >>= _) _ _ _;refine wpAny_bind (wpAny_setField b rfl (by simp) ?_);have h1:=rE s.heap b 0 (rawInt nx);refine wpAny_bind (wpAny_setField (s:={s with heap:=s.heap.update I (aaX (·.setIfInBounds 0 (rawInt nx)))}) h1 rfl (by simp) ?_);refine wpAny_pure ⟨_,rfl,wpAny_pure (h _ ?_ ((Wv ..).trans (Wv ..)))⟩;exact Ww _ h1 rfl
theorem Cb{Q:ab6->Yl->Prop}(c:A.handled=Yb)(h:∀h' e,(∀b o,s.heap.get? b=Ya o->h'.get? b=Ya o)->(∃o,h'.get? e=Ya o/\o.cls=.type "StopIteration")->E (.ref e) {s with heap:=h'}):
  Yo M A (newExc (.type "StopIteration") [] >>= λe=>ad1 e) Q E s:=by
 refine wpAny_bind ?_;simp only[newExc,newTuple];refine wpAny_bind (wpAny_newObj_type ?_ (by size_fits));refine wpAny_bind (m:=aeE _ _) (wpAny_of_eq (a:=WL) (by first|rfl|(simp only[aeE];rfl)) ?_);refine wpAny_newObj_type ?_ (by size_fits);refine wpAny_raiseNew_none c (h _ _ (λb o e=>Yg _ (Yg _ e)) ⟨_,Yr _ rfl,rfl⟩)
theorem sZ{d:Int}(g:A.handled=Yb)(c:s.heap.get? I=Ya (vV (.int d 0) i a es.size ep))(ho:s.heap.get? a=Ya o)(hd:o.data=.set es ep t)(j:t.fits es.size=true)(hn:∀(A:nh) (E:Yd->Yl->Prop) (f:Option (Yd×Nat)->Yl->Prop),f Yb s->Yo (model prog w) A (setNext a d.toNat i ep) f E s)(h:∀h',(∀b o,b≠I->s.heap.get? b=Ya o->h'.get? b=Ya o)->Q Yb {s with heap:=h'}):Yo (model prog w) A (pyNext (.ref I)) Q E s:=by
 unfold pyNext;refine wpAny_bind (wpAny_attempt (Xs (name:=xu "__next__") (eO c) cJ (wpAny_call_entry cJ (eO c) jF ?_ (jY _))));unfold vc.«set_iterator.__next__»;refine wpAny_bind (wpAny_pure (wpAny_bind (wpAny_fieldsOf c rfl ?_)));show Yo _ _ (setEntries a >>= _) _ _ _;refine wpAny_bind (wpAny_setEntries_of ho hd j ?_);show Yo _ _ (if(((es.size:Nat):Int) !=((es.size:Nat):Int))=true then _ else _) _ _ _;rw[if_neg (by simp)];show Yo _ _ (setNext a d.toNat ((i:Int)).toNat ((ep:Int)).toNat >>= _) _ _ _;rw[YH,YH];refine wpAny_bind (hn _ _ _ ?_);show Yo _ _ (setField (.ref I) 2 .none >>= _) _ _ _;refine wpAny_bind (wpAny_setField c rfl (by simp) ?_);refine Cb (A:=A.in1) g λh' e kp k=>?_;obtain⟨l,m,n⟩:=k;refine wpAny_bind (wpAny_isInstance (T:="StopIteration") (b:=true) ⟨l,m,n⟩ aeF ?_);exact wpAny_pure (h h' λb ob p e=>kp b ob ((oh _ _ (cT p)).trans e))
theorem By{k:Nat}{hk:Int}(b:s.heap.get? I=Ya (vV (.ref tp) i a es.size ep))(ho:s.heap.get? a=Ya o)(hd:o.data=.set es ep t)(d:t.fits es.size=true)(e:s.heap.get? tp=Ya {cls:=.type "tuple",dict:=Yb,data:=.seq (ps.map fun(i:Nat)=>rawInt i).toArray c,slots:=#[]})(hp:ps[i]?=Ya k)(f:es[k]?=Ya (hk,x))(h:∀h',h'.get? I=Ya (vV (.ref tp) (i+ 1) a es.size ep)->Wt I s.heap h'->Q (Ya x) {s with heap:=h'}):Yo (model prog w) A (pyNext (.ref I)) Q E s:=by
 unfold pyNext;refine wpAny_bind (wpAny_attempt (Xs (name:=xu "__next__") (eO b) cJ (wpAny_call_entry cJ (eO b) jF ?_ (jY _))));unfold vc.«set_iterator.__next__»;refine wpAny_bind (wpAny_pure (wpAny_bind (wpAny_fieldsOf b rfl ?_)));show Yo _ _ (setEntries a >>= _) _ _ _;refine wpAny_bind (wpAny_setEntries_of ho hd d ?_);show Yo _ _ (if(((es.size:Nat):Int) !=((es.size:Nat):Int))=true then _ else _) _ _ _;rw[if_neg (by simp)];show Yo _ _ (adp (.ref tp) >>= _) _ _ _;refine wpAny_bind (wpAny_seqItems e rfl ?_);have g:((ps.map fun(i:Nat)=>rawInt i).toArray)[((i:Nat):Int).toNat]?=Ya (.int k 0):=by
  rw[YH,acQ,Yv,hp];rfl
 dsimp only;rw[g];show Yo _ _ (setNextDrawn a ((k:Nat):Int).toNat ((ep:Nat):Int).toNat >>= _) _ _ _;rw[YH,YH];unfold setNextDrawn;refine wpAny_bind (wpAny_bind (wpAny_setState_of ho hd d ?_));show Yo _ _ (if(ep !=ep)=true then _ else _) _ _ _;rw[if_neg (by simp)];refine wpAny_bind (wpAny_pure ?_);rw[f];refine wpAny_pure ?_;show Yo _ _ (setField (.ref I) 1 (rawInt ((i:Int)+ 1)) >>= _) _ _ _;refine wpAny_bind (wpAny_setField b rfl (by simp) (wpAny_pure ⟨_,rfl,wpAny_pure (h _ ?_ (Wv ..))⟩));exact rE s.heap b 1 (rawInt ((i:Int)+ 1))
theorem Aq(g:A.handled=Yb)(d:s.heap.get? I=Ya (vV (.ref tp) i a es.size ep))(ho:s.heap.get? a=Ya o)(hd:o.data=.set es ep t)(j:t.fits es.size=true)(k:s.heap.get? tp=Ya {cls:=.type "tuple",dict:=Yb,data:=.seq (ps.map fun(i:Nat)=>rawInt i).toArray c,slots:=#[]})(hp:ps[i]?=Yb)(h:∀h',(∀b o,b≠I->s.heap.get? b=Ya o->h'.get? b=Ya o)->Q Yb {s with heap:=h'}):Yo (model prog w) A (pyNext (.ref I)) Q E s:=by
 unfold pyNext;refine wpAny_bind (wpAny_attempt (Xs (name:=xu "__next__") (eO d) cJ (wpAny_call_entry cJ (eO d) jF ?_ (jY _))));unfold vc.«set_iterator.__next__»;refine wpAny_bind (wpAny_pure (wpAny_bind (wpAny_fieldsOf d rfl ?_)));show Yo _ _ (setEntries a >>= _) _ _ _;refine wpAny_bind (wpAny_setEntries_of ho hd j ?_);show Yo _ _ (if(((es.size:Nat):Int) !=((es.size:Nat):Int))=true then _ else _) _ _ _;rw[if_neg (by simp)];show Yo _ _ (adp (.ref tp) >>= _) _ _ _;refine wpAny_bind (wpAny_seqItems k rfl ?_);have l:((ps.map fun(i:Nat)=>rawInt i).toArray)[((i:Nat):Int).toNat]?=none:=by
  rw[YH,acQ,Yv,hp];rfl
 dsimp only;rw[l];show Yo _ _ (setField (.ref I) 0 (rawInt 0) >>= _) _ _ _;refine wpAny_bind (wpAny_setField d rfl (by simp) ?_);have h1:=rE s.heap d 0 (rawInt 0);refine wpAny_bind (wpAny_setField (s:={s with heap:=s.heap.update I (aaX (·.setIfInBounds 0 (rawInt 0)))}) h1 rfl (by simp) ?_);refine Cb (A:=A.in1) g λh' e kp m=>?_;obtain⟨n,p,q⟩:=m;refine wpAny_bind (wpAny_isInstance (T:="StopIteration") (b:=true) ⟨n,p,q⟩ aeF ?_);exact wpAny_pure (h h' λb ob f e=>kp b ob ((oh _ _ (cT f)).trans ((oh _ _ (cT f)).trans e)))
theorem Ac{Q:Option (Yd×Nat)->Yl->Prop}(b:Ey w=true)(ho:s.heap.get? a=Ya o)(hd:o.data=.set es ep t)(c:t.fits es.size=true)(h:Q (((pickOrder (w.params.setOrder a ep) es)[i]?).map λe=>(e.2,sl)) s):Yo (model prog w) A (setNext a sl i ep) Q E s:=by
 have d:w.params.followText "set-order"=true:=b;unfold setNext;refine wpAny_bind (wpAny_setState_of ho hd c (wpAny_bind (wpAny_bind (wpAny_askSetting (wpAny_pure ?_)))));show Yo _ _ (if w.params.followText "set-order"=true then _ else _) _ _ _;rw[d,if_pos rfl];show Yo _ _ (if(ep !=ep)=true then _ else _) _ _ _;rw[if_neg (by simp)];refine wpAny_bind ?_;unfold setWalk;refine wpAny_bind (wpAny_setState_of ho hd c (wpAny_bind (wpAny_bind (wpAny_askSetting (wpAny_pure ?_)))));show Yo _ _ (if w.params.followText "set-order"=true then _ else _) _ _ _;rw[d,if_pos rfl];exact wpAny_bind (wpAny_askSetting (wpAny_pure (wpAny_pure h)))
theorem CV{Q:Option (Yd×Nat)->Yl->Prop}(b:Ey w=false)(d:(!t.plain&&decide (es.size>1))=false)(hl:t.led=true)(ho:s.heap.get? a=Ya o)(hd:o.data=.set es ep t)(c:t.fits es.size=true)(h:Q (match es[mr t.place sl]?,t.place[mr t.place sl]? with|some (_,x),Ya j=>Ya (x,j+ 1)|_,_=>Yb) s):Yo (model prog w) A (setNext a sl i ep) Q E s:=by
 have e:w.params.followText "set-order"=false:=b;unfold setNext;refine wpAny_bind (wpAny_setState_of ho hd c (wpAny_bind (wpAny_bind (wpAny_askSetting (wpAny_pure ?_)))));show Yo _ _ (if w.params.followText "set-order"=true then _ else _) _ _ _;rw[e,if_neg YN];refine wpAny_bind (wpAny_pure ?_);show Yo _ _ (if(!t.plain&&decide (es.size>1))=true then _ else _) _ _ _;rw[d,if_neg YN];refine wpAny_bind ?_;show Yo _ _ (if(!t.led&& !es.isEmpty)=true then _ else _) _ _ _;rw[hl];show Yo _ _ (if(false&& !es.isEmpty)=true then _ else _) _ _ _;rw[XO,if_neg YN];exact wpAny_pure (wpAny_pure h)
end
section
theorem yh{Q:Yd->Yl->Prop}(b:s.heap.get? I=Ya (vV first i a es.size ep))(h:Q (.ref I) s):Yo (model prog w) A (pyIter (.ref I)) Q E s:=by
 refine aag (eO b) vH (wpAny_call_entry vH (eO b) DE ?_ (Ec _));show Yo _ _ (ret (.ref I)) _ _ s;exact wpAny_pure ⟨_,rfl,"set_iterator",_,eO b,cJ.lookup,h⟩
theorem HJ(u:A.handled=Yb)(b:Ey w=true)(hd:o.data=.set es ep t)(j:t.fits es.size=true)(ne:a≠I):
  acu prog w A I [I,a] [I] ((pickOrder (w.params.setOrder a ep) es).toList.map (·.2)).length (λi v=>((pickOrder (w.params.setOrder a ep) es).toList.map (·.2))[i]?=Ya v)
   (λi h=>(∃sl:Nat,h.get? I=Ya (vV (.int sl 0) i a es.size ep))/\h.get? a=Ya o) where
 sub:=λb y=>Yh.mp y▸Ys
 frame:=λi h k st n=>⟨let ⟨sl,e⟩:=st.1;⟨sl,n I (by simp) _ e⟩,n a (by simp) _ st.2⟩
 item:=λi s _ _ B st d=>by
  obtain⟨⟨sl,f⟩,ho⟩:=st;have g:i<(pickOrder (w.params.setOrder a ep) es).size:=by simpa using B
  refine tO (x:=((pickOrder (w.params.setOrder a ep) es)[i]).2) (nx:=sl) f ho hd j (λA E C q=>Ac b ho hd j ?_) λk e p=>d _ k s.toks ?_ ⟨⟨sl,e⟩,(p.2 a ne).trans ho⟩ λc r l m=>(p.2 c (λz=>l (by simp[z]))).trans m
  ·rw[YI g];exact q
  ·rw[Yv,pk,YI g];rfl
 done:=λs Q E st d=>by
  obtain⟨⟨sl,f⟩,ho⟩:=st;refine sZ u f ho hd j (λA E C q=>Ac b ho hd j ?_) λk kp=>d k s.toks λc r l m=>kp c r (λz=>l (by simp[z])) m;rw[WO (by simp)];exact q
 self:=λi s Q E st d=>let ⟨⟨_,f⟩,_⟩:=st;yh f d
theorem K1(C:A.handled=Yb)(b:Ey w=false)(d:(!t.plain&&decide (es.size>1))=false)(tb:Tb (!Ey w) t)(hd:o.data=.set es ep t)(g:t.fits es.size=true)(ne:a≠I):
  acu prog w A I [I,a] [I] (es.toList.map (·.2)).length (λi v=>(es.toList.map (·.2))[i]?=Ya v)
   (λi h=>(∃sl:Nat,mr t.place sl=i/\h.get? I=Ya (vV (.int sl 0) i a es.size ep))/\h.get? a=Ya o) where
 sub:=λb D=>Yh.mp D▸Ys
 frame:=λi h n st u=>⟨let ⟨sl,j,e⟩:=st.1;⟨sl,j,u I (by simp) _ e⟩,u a (by simp) _ st.2⟩
 item:=λi s _ _ F st k=>by
  obtain⟨⟨sl,j,l⟩,ho⟩:=st;have m:i<es.size:=by simpa using F
  have hl:t.led=true:=by rw[tb.2,b];rfl
  have hp:t.place.size=es.size:=by
   simp only[SetTable.fits,XQ,beq_iff_eq,decide_eq_true_eq]at g;exact g.1
  have f:i<t.place.size:=by omega
  refine tO (x:=(es[i]).2) (nx:=t.place.getD i 0+ 1) l ho hd g (λA E G q=>CV b d hl ho hd g ?_) λn e y=>k _ n s.toks ?_ ⟨⟨t.place.getD i 0+ 1,Eu tb.1 f,e⟩,(y.2 a ne).trans ho⟩ λc B p r=>(y.2 c (λz=>p (by simp[z]))).trans r
  ·rw[YH,j,YI m,YI f];rw[YJ,YI f]at q;exact q
  ·rw[Yv,pk,YI m];rfl
 done:=λs Q E st k=>by
  obtain⟨⟨sl,j,l⟩,ho⟩:=st;have hl:t.led=true:=by rw[tb.2,b];rfl
  refine sZ C l ho hd g (λA E G q=>CV b d hl ho hd g ?_) λn kp=>k n s.toks λc B p r=>kp c B (λz=>p (by simp[z])) r;rw[YH,j,WO (by simp)];exact q
 self:=λi s Q E st k=>let ⟨⟨_,_,l⟩,_⟩:=st;yh l k
theorem FA(u:A.handled=Yb)(y:ps.Perm (Y3 es.size))(hd:o.data=.set es ep t)(q:t.fits es.size=true)(ne:a≠I)(B:tp≠I):
  acu prog w A I [I,a,tp] [I] (ps.map λi=>(es.getD i (0,.none)).2).length (λi v=>(ps.map λi=>(es.getD i (0,.none)).2)[i]?=Ya v)
   (λi h=>h.get? I=Ya (vV (.ref tp) i a es.size ep)/\h.get? a=Ya o/\h.get? tp=Ya {cls:=.type "tuple",dict:=Yb,data:=.seq (ps.map fun(i:Nat)=>rawInt i).toArray c,slots:=#[]}) where
 sub:=λb C=>Yh.mp C▸Ys
 frame:=λi h f st k=>⟨k I (by simp) _ st.1,k a (by simp) _ st.2.1,k tp (by simp) _ st.2.2⟩
 item:=λi s _ _ g st d=>by
  obtain⟨l,ho,j⟩:=st;rw[Yf]at g;have hm:ps[i]<es.size:=WG.mp (y.mem_iff.mp (aa0 g));refine By (x:=(es[ps[i]]).2) (hk:=(es[ps[i]]).1) l ho hd q j (Yk g) (YI hm) λf e m=>d _ f s.toks ?_ ⟨e,(m.2 a ne).trans ho,(m.2 tp B).trans j⟩ λc r n p=>(m.2 c (λz=>n (by simp[z]))).trans p;rw[Yv,Yk g,XI,YJ,YI hm];rfl
 done:=λs Q E st d=>by
  obtain⟨l,ho,j⟩:=st;exact Aq u l ho hd q j (Xe (by rw[Yf];exact Yj _)) λf kp=>d f s.toks λc r n p=>kp c r (λz=>n (by simp[z])) p
 self:=λi s Q E st d=>yh st.1 d
theorem Ff(es:Array (Int×Yd)):(Y3 es.size).map (λi=>(es.getD i (0,WL)).2)=es.toList.map (·.2):=by
 apply aaT;intro i;rw[Yv,Yv,pk (xs:=es)];by_cases h:i<es.size
 ·rw[Yk (by rw[KW];exact h),List.getElem_range,XI,YJ,YI h];rfl
 ·rw[Xe (by rw[KW];omega),WO (by omega)];rfl
theorem KA(r:A.handled=Yb)(ho:s.heap.get? a=Ya o)(q:o.ExactSet)(hd:o.data=.set es ep t)(f:t.fits es.size=true)(g:es.size<aap)(tb:Tb (!Ey w) t){Q:Yd->Yl->Prop}
  (h:∀(h':YK) (d':aec) (I:Ye) (fp:List Ye) (vs:List Yd) (St:Nat->YK->Prop),(∀b o,s.heap.get? b=Ya o->h'.get? b=Ya o)->s.heap.objs.size<=I->(∀b∈fp,b=a∨s.heap.objs.size<=b)->vs.Perm (es.toList.map (·.2))->
   (∀A:nh,A.handled=Yb->acu prog w A I fp [I] vs.length (λi v=>vs[i]?=Ya v) St)->St 0 h'->Q (.ref I) {s with heap:=h',drawn:=d'}):Yo (model prog w) A (pyIter (.ref a)) Q E s:=by
 have j:s.TypeIs (.ref a) "set":=⟨o,ho,q.1⟩;have p:=Yu ho;refine aag j acR (wpAny_call_entry acR j BZ ?_ (PySem.F.args_set_iter_1 _));unfold vc.«frozenset.__iter__» Builtin.Frozenset.slot0 Builtin.Frozenset.addrOf Builtin.Frozenset.sizeOf;refine wpAny_bind (wpAny_bind (wpAny_pure (wpAny_pure (wpAny_bind (wpAny_bind (wpAny_setEntries_of ho hd f (wpAny_pure ?_)))))));refine wpAny_bind ?_;unfold setDrawn;refine wpAny_bind (wpAny_setState_of ho hd f (wpAny_bind (wpAny_bind (wpAny_askSetting (wpAny_pure (wpAny_pure ?_))))));show Yo _ _ (if(!Ey w&&(!t.plain&&decide (es.size>1)))=true then _ else _) _ _ _;cases hc:(!Ey w&&(!t.plain&&decide (es.size>1)))with
 |false=>
  rw[if_neg YN];refine wpAny_bind (wpAny_pure (wpAny_bind ?_));unfold setEpoch;refine wpAny_bind (wpAny_setState_of ho hd f (wpAny_pure ?_));refine wpAny_bind (wpAny_newObj_type (wpAny_pure ⟨_,rfl,"set_iterator",_,⟨_,Yr _ rfl,rfl⟩,cJ.lookup,?_⟩));have nI:a≠s.heap.objs.size:=YE p;have d:∀b∈[s.heap.objs.size,a],b=a∨s.heap.objs.size<=b:=λb g=>by
   simp only[Ym,uc,or_false]at g;rcases g with z|z
   ·exact .inr (aa8 z.symm)
   ·exact .inl z
  cases j:Ey w with
  |true=>
   refine h _ s.drawn s.heap.objs.size [s.heap.objs.size,a] _ _ (λb o e=>Yg _ e) (Yj _) d ((II (w.params.setOrder a ep) es).map _) (λA k=>HJ k j hd f nI) ⟨⟨0,Yr _ rfl⟩,Yg _ ho⟩
  |false=>
   have m:(!t.plain&&decide (es.size>1))=false:=by rw[j]at hc;exact hc
   refine h _ s.drawn s.heap.objs.size [s.heap.objs.size,a] _ _ (λb o e=>Yg _ e) (Yj _) d (.refl _) (λA k=>K1 k j m tb hd f nI) ⟨⟨0,Fe tb.1,Yr _ rfl⟩,Yg _ ho⟩
 |true=>
  rw[if_pos rfl];refine wpAny_bind (GA es.size (Y3 es.size) s _ (by rw[KW]) λps d' n=>wpAny_bind ?_);refine wpAny_newTuple (wpAny_bind ?_) ?_
  ·unfold setEpoch;have l:(s.heap.push {cls:=.type "tuple",data:=.seq (ps.map fun(i:Nat)=>rawInt i).toArray}).get? a=Ya o:=Yg _ ho;refine wpAny_bind (wpAny_setState_of l hd f (wpAny_pure ?_));refine wpAny_bind (wpAny_newObj_type (wpAny_pure ⟨_,rfl,"set_iterator",_,⟨_,Yr _ rfl,rfl⟩,cJ.lookup,?_⟩));have sz:(s.heap.push {cls:=.type "tuple",data:=.seq (ps.map fun(i:Nat)=>rawInt i).toArray}).objs.size=s.heap.objs.size+ 1:=WV ..;refine h _ d' (s.heap.push {cls:=.type "tuple",data:=.seq (ps.map fun(i:Nat)=>rawInt i).toArray}).objs.size [(s.heap.push {cls:=.type "tuple",data:=.seq (ps.map fun(i:Nat)=>rawInt i).toArray}).objs.size,a,s.heap.objs.size] (ps.map λi=>(es.getD i (0,.none)).2) _
    (λb o e=>Yg _ (Yg _ e)) (by rw[sz];exact Xh _) (λb g=>?_) ?_ (λA k=>FA (c:=0) k n hd f (by rw[sz];exact YE (XJ p)) (by rw[sz];exact YE (Xv _)))
    ⟨Yr _ rfl,Yg _ l,Yg _ (Yr _ rfl)⟩
   ·simp only[Ym,uc,or_false]at g;rcases g with z|z|z
    ·exact .inr (by rw[z,sz];exact Xh _)
    ·exact .inl z
    ·exact .inr (aa8 z.symm)
   ·exact(n.map _).trans (by rw[Ff])
  ·rw[Yf,n.length_eq,KW];exact fits_of_scanBound g
end
theorem xX{α:Type}[DecidableEq α]:∀{l m:List α},l.Nodup->(∀x∈l,x∈m)->m.length<=l.length->m.Perm l
 |[],m,_,_,h=>by
  have e:m=[]:=Wz (Nat.le_zero.mp h);rw[e]
 |x::l,m,nd,sub,h=>by
  rw[tq]at nd;have d:=sub x Ys;have b:=ac1 d;refine b.trans (afo x (xX nd.2 (λy c=>?_) ?_))
  ·have a:=sub y (Yp _ c);exact(abf (show y≠x from λz=>nd.1 (z▸c))).mpr a
  ·have:=b.length_eq;rw[cw]at this h;omega
theorem vw(val:Nat->Int):∀i,(firstMet val i).Nodup
 |0=>acJ
 |i+ 1=>by
  rw[ac9];unfold step_dedup;have a:=vw val i;by_cases h:List.any (firstMet val i) (·==val i)
  ·rw[if_pos h];exact a
  ·rw[if_neg h,xi];refine⟨a,by simp,λx b y c e=>h ?_⟩;rw[XT];refine⟨x,b,?_⟩;have d:=Yh.mp c;rw[e,d,beq_self_eq_true]
theorem Bx(val:Nat->Int)(i:Nat)(k:Int):k∈firstMet val i↔∃j,j<i/\val j=k:=by
 have h:=firstMet_any val i k;rw[XG,XT,XT]at h;constructor
 ·intro z;obtain⟨x,a,e⟩:=h.mp ⟨k,z,by simp⟩;obtain⟨j,b,c⟩:=YL.mp a;exact⟨j,WG.mp b,by rw[c];simpa using e⟩
 ·rintro⟨j,b,e⟩;obtain⟨x,a,d⟩:=h.mpr ⟨val j,YL.mpr ⟨j,WG.mpr b,rfl⟩,by simp[e]⟩;have:x=k:=by simpa using d
  rw[←this];exact a
section
theorem yj:∀{l:List (Int×Yd)},ElemsOf (intKind prog w) l->∃ns,IntsAre (l.map (·.2)) ns/\∀k,k∈ns↔∃e∈l,(intKind prog w).is k e.2=true
 |[],_=>⟨[],.nil,λk=>by simp⟩
 |e::l,h=>by
  obtain⟨ns,h1,h2⟩:=yj h.tail;obtain⟨⟨k,a,_⟩,_⟩:=h.head;obtain⟨t,d⟩:=adC (k:=k) (v:=e.2) a;refine⟨k::ns,?_,λj=>?_⟩
  ·rw[Yz,d];exact .cons k t h1
  ·rw[Ym,h2 j];constructor
   ·rintro(z|⟨b,c,q⟩)
    ·exact⟨e,Ys,by rw[z];exact a⟩
    ·exact⟨b,Yp _ c,q⟩
   ·rintro⟨b,c,q⟩;rcases Ym.mp c with z|z
    ·rw[z]at q;exact .inl ((intKind prog w).inj e.2 j k q a)
    ·exact .inr ⟨b,z,q⟩
theorem HG{vs us:List Yd}(b:vs.Perm us)(h:IntsAre us ns):∃a,IntsAre vs a/\a.Perm ns:=by
 induction b generalizing ns with
 |nil=>exact⟨ns,h,.refl _⟩
 |cons x p ih=>
  cases h with
  |cons n t hr=>
   obtain⟨a,h1,h2⟩:=ih hr;exact⟨n::a,.cons n t h1,h2.cons n⟩
 |swap x y l=>
  cases h with
  |cons n t hr=>
   cases hr with
   |cons m u hr=>exact⟨_,.cons m u (.cons n t hr),acP ..⟩
 |trans p q ih1 ih2=>
  obtain⟨a,h1,h2⟩:=ih2 h;obtain⟨c,h3,h4⟩:=ih1 h1;exact⟨c,h3,h4.trans h2⟩
theorem JY{Q:Bool->Yl->Prop}(c:s.TypeIs (.ref a) "set")(h:Q false s):Yo (model prog w) A (aeH (.ref a)) Q E s:=by
 show Yo _ _ (specialOf (.ref a) "__len__" >>= _) _ _ s;refine wpAny_bind (wpAny_specialOf c PySem.F.slot_set_len.lookup ?_);generalize hid:("set.__len__":String)=id0
 wp_delta
 rw[show splitId id0=Ya ("set","__len__")from by subst hid;decide +kernel];subst hid;refine wpAny_bind (wpAny_isInstance (T:="set") (b:=true) c (by rw[aal];kernel_rfl) ?_);refine acv (λz=>absurd z (by decide)) (λ_=>?_);refine acv (λ_=>?_) (λz=>absurd (by decide +kernel) z);exact wpAny_bind (wpAny_typeOf c (wpAny_pure h))
theorem KD{id:String}{B:vc}{a:Args}(d:aaa abw id=Ya B)(hp:acM id=true)(h:Yo (model prog w) A.in1 (B a) (λf b=>match f with| .done f=>R (.ok f) b| .again c=>c.quiet=true/\sq (model prog w) A c R b) (λe b=>R (.error e) b) s):sq (model prog w) A (.builtin id a) R s:=
 codeAny_builtin d (by rw[Around.under_plainId hp];exact h)
theorem Di{R:List Yd->Yl->Prop}(C:A.handled=Yb)(x:rX prog w s.heap a S n)(h:∀(h':YK) (d':aec) (tk:Nat) (vs:List Yd) (ns:List Int),(∀b o,s.heap.get? b=Ya o->h'.get? b=Ya o)->IntsAre vs ns->ns.length=n->(∀k,k∈ns↔S k=true)->R vs {s with heap:=h',drawn:=d',toks:=tk}):
  Yo (model prog w) A (collect (.ref a)) R E s:=by
 obtain⟨o,es,ep,t,ho,D,hd,U,hm,y,V,hn,X⟩:=x;have L:=Yu ho;unfold collect;refine wpAny_bind (wpAny_runValue (KD entry_proto_collect' PySem.F.plain_proto_collect (wpAny_bind (wpAny_newObj_type (wpAny_pure ⟨plainId_quiet acm _,KD entry_list_iadd' acm ?_⟩)))));have m:(s.heap.push {cls:=.type "list",data:=.seq ([]:List Yd).toArray}).get? s.heap.objs.size=Ya {cls:=.type "list",data:=.seq #[]}:=Yr _ rfl;have c:(s.heap.push {cls:=.type "list",data:=.seq ([]:List Yd).toArray}).get? a=Ya o:=Yg _ ho;have g:(s.heap.push {cls:=.type "list",data:=.seq ([]:List Yd).toArray}).objs.size=s.heap.objs.size+ 1:=WV ..;have p:∀b ob,s.heap.get? b=Ya ob->(s.heap.push {cls:=.type "list",data:=.seq ([]:List Yd).toArray}).get? b=Ya ob:=λb ob e=>Yg _ e;show Yo _ A.in1 (aeI (.ref s.heap.objs.size) (.ref a) (.ref s.heap.objs.size)) _ _ _;generalize s.heap.push {cls:=.type "list",data:=.seq ([]:List Yd).toArray}=H1 at m c g p⊢;show Yo _ _ (typeOf (.ref a) >>= _) _ _ _;refine wpAny_bind (wpAny_typeOf (T:="set") ⟨o,c,D.1⟩ ?_);have n1:acb (.ref s.heap.objs.size) (.ref a)=false:=by simp[acb,XA L]
 have n2:(W6 "set"==W6 "list")=false:=by decide
 have n3:(W6 "set"==W6 "tuple")=false:=by decide
 simp only[n1,n2,n3,ac7,aaH,if_false];refine wpAny_bind (KA (s:={s with heap:=H1}) (A:=A.in1) C c D hd V y X λh2 Y I Z vs St F lI G M W st=>?_);refine wpAny_bind (wpAny_holding (JY (s:={s with heap:=h2,drawn:=Y}) ⟨o,F _ _ c,D.1⟩ ?_));have r:=F _ _ m;have N:s.heap.objs.size∉Z:=λz=>by
  rcases G _ z with q|q
  ·exact absurd L (by rw[←q];exact Y7 _)
  ·rw[g]at q;exact absurd q (Nat.not_succ_le_self _)
 have d:vs.length=n:=by rw[M.length_eq,Yf,ir,hn]
 have nz:vs.length<=sizeLine:=by rw[d,←hn];exact fits_of_scanBound y
 refine acv (λ_=>?_) (λz=>absurd (by decide) z);refine wpAny_bind (wpAny_rule (wpAny_bind ?_));show Yo _ _ (updateSeq s.heap.objs.size (·.push .none) >>= λ_=>updateSeq s.heap.objs.size (·.pop)) _ _ _;refine wpAny_bind (wpAny_updateSeq r rfl ?_);have u:=Ww (WC (·.push WL)) r rfl;refine wpAny_updateSeq (hz:=by seq_fits) u rfl ?_;have H:=Ww (WC (·.pop)) u rfl;have v:∀b ob,b≠s.heap.objs.size->h2.get? b=Ya ob->((h2.update s.heap.objs.size (WC (·.push WL))).update s.heap.objs.size (WC (·.pop))).get? b=Ya ob:=λb ob O e=>(oh _ _ (cT O)).trans ((oh _ _ (cT O)).trans e);refine wpAny_pure ⟨plainId_quiet PySem.F.plain_extend_loop _,codeAny_extend_loopS (W A.in1 C).toS nz _ N _ vs.length 0 _ #[] _ rfl (Y6 _) ((W A.in1 C).frame 0 _ _ st λb y ob e=>v b ob (λz=>N (z▸y)) e) H (ItemsOf.nil _) λs' i c' l J f=>?_⟩;apply wpAny_bind (wpAny_load J _);have ea:i.toList=vs:=by
  apply aaT;intro j;rw[pk];by_cases P:j<i.size
  ·rw[YI P];exact(f.2 j _ (YI P)).symm
  ·rw[WO (by omega),Xe (by rw[←f.1];omega)]
 obtain⟨ab,q1,q2⟩:=yj U;obtain⟨ns,Q,q4⟩:=HG M q1;have ln:ns.length=n:=by rw[←Q.length,d]
 have:=h s'.heap s'.drawn s'.toks vs ns (λb ob e=>l.heap b ob (λz=>?_) (v b ob (YE (Yu e)) (F b ob (p b ob e)))) Q ln (λk=>by rw[q4.mem_iff,q2 k,hm k])
 ·obtain⟨h',g',d',t',K⟩:=s';have eg:g'=s.gens:=l.gens;have eo:K=s.os:=l.os;subst eg eo;show Yo _ A (pure i.toList) _ _ _;rw[ea];exact wpAny_pure this
 ·have B:=Yu e;rcases Ym.mp z with z|z
  ·rw[z]at B;exact Y7 _ B
  ·rw[Yh.mp z]at B;have q:H1.objs.size<=I:=lI;rw[g]at q;exact absurd B (aen.mpr (cb (Xh _) q))
end
end GX
namespace L2
open PySem PySem.Spec PyProof.Rows
def Lu(P:YO)(w:YW)(a:Ye)(ks:List Int):HO:=.ext λh=>GX.rX P w h a (λk=>ks.any (·==k)) ks.length
section
variable{X:Cx}
theorem aM.draw{a:List (Ye×Y9)}{σ:St}{H:Hp}{s:Yl}(I:aM X a σ H s)(d:aec):aM X a σ H {s with drawn:=d}:=⟨I.ok,I.os,I.bare,I.base,I.loc,I.cell,I.free,I.freeC,I.pin,I.hok,I.len⟩
theorem Aa(d:X.calm=true):dh X (.type "set") (λxs H Q=>∃(p:Ye) (ns:List Int),xs=[.ref p]/\bo X.K H p (ns.map V.int)/\ns.length<=1000/\∀(q:Ye) (ks:List Int),H q=Yb->ks.Nodup->(∀k,k∈ks↔k∈ns)->Q (.ref q) (upd H q (Lu X.prog X.w q ks))):=by
 intro z s σ H xs A Q I r h;obtain⟨p,ns,rfl,f,B,q⟩:=h;obtain⟨u,rfl,g⟩:=d9 r;cases g;obtain⟨a,l,m,n⟩:=I.list f;have c:IntsAre a ns:=ji l;have hl:a.length=ns.length:=c.length;refine GX.Dr (items:=a.toArray) (ns:=ns) (I.ok.hd d) m.isList (by simpa using c) (by rw[Yw,hl];unfold aap;omega) λt tk x kp=>?_;have sz:a.toArray.size=ns.length:=by rw[Yw,hl]
 rw[sz]at x;have new:bZ X.prog X.w (upd H s.heap.objs.size (Lu X.prog X.w s.heap.objs.size (firstMet (λi=>ns.getD i 0) ns.length))) t s.heap.objs.size (Lu X.prog X.w s.heap.objs.size (firstMet (λi=>ns.getD i 0) ns.length)):=by
  refine⟨x,?_,λh1 h2 y k=>y.at k⟩;obtain⟨o,_,_,_,ho,_⟩:=x;exact⟨o,ho⟩
 refine⟨.ref s.heap.objs.size,_,I.laid (t':=tk) kp (Yj _) new,rfl,q _ _ (I.hok.fresh (Yj _)) (GX.vw _ _) λk=>?_⟩;rw[GX.Bx];constructor
 ·rintro⟨j,b,e⟩;rw[YX,Yk b]at e;have v:ns[j]=k:=e;rw[←v];exact aa0 b
 ·intro w;obtain⟨j,b,e⟩:=XW w;refine⟨j,b,?_⟩;rw[YX,Yk b];exact e
theorem tN(o:X.calm=true):dh X (.builtin "sorted") (λxs H Q=>∃(a:Ye) (ks:List Int),xs=[.ref a]/\H a=Ya (Lu X.prog X.w a ks)/\ks.Nodup/\ks.length<64/\∀(l:Ye) (ns:List Int),H l=Yb->ns.Perm ks->ns.Pairwise (·<=·)->Q (.ref l) (upd H l (.lst (ns.map V.int)))):=by
 intro p s σ H xs E Q I r h;obtain⟨a,ks,rfl,ha,nd,b,q⟩:=h;obtain⟨u,rfl,t⟩:=d9 r;cases t;have x:GX.rX X.prog X.w s.heap a (λk=>ks.any (·==k)) ks.length:=(I.hok a _ ha).1;refine GX.uR (args_sorted1 _) (GX.Di (A:=X.A.in1) (I.ok.hd o) x λd f tk v ns g i hl hm=>?_);have w:ns.Perm ks:=GX.xX nd (λk g=>(hm k).mpr (XT.mpr ⟨k,g,by simp⟩)) (aa8 hl);have j:v.length=ks.length:=by rw[i.length,hl]
 have m:aM X p σ H {s with heap:=d,drawn:=f,toks:=tk}:=(I.draw f).kept (t':=tk) g;refine z5 (s:={s with heap:=d,drawn:=f,toks:=tk}) i (by rw[j];exact b) (by rw[j];exact pe (aJ (by omega))) λh2 out c e y z B n C=>?_;have D:c.length<=sizeLine:=by rw[n.length_eq,hl];exact pe (aJ (by omega))
 exact⟨.ref d.objs.size,_,m.lay_ints (tk:=tk) y z B D,rfl,q _ c (m.hok.fresh (Yj _)) (n.trans w) C⟩
theorem FX(n:X.calm=true):dh X (.type "list") (λxs H Q=>∃(d:Ye) (m:List (Int×Int)),xs=[.ref d]/\Rd H d (.dK (dI m))/\m.length<=1000/\∀(l:Ye),H l=Yb->Q (.ref l) (upd H l (.lst ((m.map (·.1)).map V.int)))):=by
 intro C s σ H xs D Q I r h;obtain⟨d,m,rfl,hd,i,q⟩:=h;obtain⟨u,rfl,o⟩:=d9 r;cases o;obtain⟨z,p,k,b,dd⟩:=iB I.hok hd;obtain⟨t,f⟩:=dd.dictAt;have hl:k.length=m.length:=by rw[←b.length,oz]
 refine acd (A:=X.A) (adZ (knd:=aZ X.prog X.w) (kvs:=k) (ep:=t) p) (I.ok.hd n) f (by rw[hl];exact pe (aJ (by omega))) λE tk g c x y a=>?_;have B:IntsAre g.toList (m.map (·.1)):=uz (P:=X.prog) (w:=X.w) b (by rw[ir];exact a.1) λj v e=>a.2 j v (by rw[←pk];exact e);exact⟨.ref s.heap.objs.size,_,I.lay_ints (tk:=tk) (e:=c) x y B (by rw[Yf];exact pe (aJ (by omega))),rfl,q _ (I.hok.fresh (Yj _))⟩
end
end L2
namespace GX
open PySem PyProof.Rows
section
variable{prog:YO}{w:YW}{A:nh}{E:Yd->Yl->Prop}{s:Yl}{I:Ye}{fp wr:List Ye}{N:Nat}{P:Nat->Yd->Prop}{St:Nat->YK->Prop}
end
end GX
namespace L2
open PySem PySem.Spec PyProof.Rows
variable{X:Cx}{H:Hp}
section
theorem xR:∀{vs:List Yd} {ns:List Int},IntsAre vs ns->∃ps:List (Int×aay),vs=ps.map (λp=>Xz p.1 p.2)/\ps.map (·.1)=ns
 |_,_,.nil=>⟨[],rfl,rfl⟩
 |_,_,.cons n t h=>by
  obtain⟨ps,a,b⟩:=xR h;exact⟨(n,t)::ps,by rw[Yz,←a],by rw[Yz,b]⟩
theorem OJ{ps:List (Int×aay)}{ns:List Int}(b:ps.map (·.1)=ns){j:Nat}(c:j<ps.length):numAt ps.toArray j∈ns/\∀z∈ns,∃i,i<=ps.length-1/\numAt ps.toArray i=z:=by
 have d:∀i (a:i<ps.length),numAt ps.toArray i=(ps[i]).1:=λi a=>by simp[numAt,a]
 constructor
 ·rw[d j c,←b];exact YY (aa0 c)
 ·intro z f;rw[←b]at f;obtain⟨p,hp,e⟩:=YL.mp f;obtain⟨i,a,g⟩:=XW hp;exact⟨i,by omega,by rw[d i a,g,e]⟩
theorem Jf(l:X.calm=true):dh X (.builtin "min") (λxs H Q=>∃(p:Ye) (ns:List Int),xs=[.ref p]/\bo X.K H p (ns.map V.int)/\ns≠[]/\∀b,b∈ns->(∀z∈ns,b<=z)->Q (.int b) H):=by
 intro G s σ H xs J Q I r h;obtain⟨p,ns,rfl,m,a,q⟩:=h;obtain⟨u,rfl,n⟩:=d9 r;cases n;obtain⟨c,o,w,d⟩:=I.list m;obtain⟨ps,x,f⟩:=xR (ji o);have y:intItems ps.toArray=c.toArray:=by rw[x];simp[intItems]
 have A:0<ps.length:=by
  cases ps with
  |nil=>exact absurd f.symm a
  |cons _ _=>exact aeV _
 refine min_intList (xs:=ps.toArray) (I.ok.hd l) (by rw[y];exact w.isList) (by rw[Yw];exact A) λv K tk g kp=>?_;obtain⟨B,k⟩:=argBest_lt (numAt ps.toArray) (ps.toArray.size-1);rw[Yw]at B k g;obtain⟨t,C⟩:=intItems_at g;obtain⟨D,E⟩:=OJ f (show argBest (λi j=>decide (numAt ps.toArray i<numAt ps.toArray j)) (ps.length-1)<ps.length by omega);refine⟨.int _,H,I.kept (t':=tk) kp,⟨t,C⟩,q _ D λz d=>?_⟩;obtain⟨i,F,e⟩:=E z d;rw[←e];exact k i F
abbrev MG(H:Hp):List V->List (List (Int×Int))->Prop:=Paired λx m=>∃d,x=.ref d/\Rd H d (.dK (dI m))
theorem MG.get{H:Hp}:∀{xs:List V} {a:List (List (Int×Int))} {i:Nat} {x:V},MG H xs a->xs[i]?=Ya x->∃m,a[i]?=Ya m/\∃d,x=.ref d/\Rd H d (.dK (dI m))
 |_,_,_,_,.nil,e=>by simp at e
 |_,_,0,_,.cons r _,e=>by simp at e;subst e;exact⟨_,rfl,r⟩
 |_,_,i+ 1,x,.cons _ t,e=>by
  obtain⟨p,h1,h2⟩:=MG.get (i:=i) (x:=x) t (by simpa using e);exact⟨p,by simpa using h1,h2⟩
end
section
theorem aM.thaw{i:List (Ye×Y9)}{σ:St}{s:Yl}{a:Ye}{o:Y9}{kvs:List (bK×V)}(I:aM X i σ H s)(h:H a=Ya (.frz o (.dK kvs)))(n1:∀xs,X.H₀ a≠Ya (.tup xs))(n2:∀o u,X.H₀ a≠Ya (.frz o u))(n3:∀ps,X.H₀ a≠Ya (.tbl ps)):aM X i σ (upd H a (.dK kvs)) s:=by
 have ne:∀b,H b=Yb->b≠a:=λb q z=>by rw[z,h]at q;cases q
 have b:=I.base;refine⟨I.ok,I.os,I.bare,⟨b.keep,b.slot,λc g e n x=>?_,b.there,λc xs e=>?_,λc g u e=>?_,λc ps e=>?_⟩,I.loc,I.cell,by rw[ak (ne _ I.free)];exact I.free,λx c z=>by rw[ak (ne _ (I.freeC x c z))];exact I.freeC x c z,
  λp hp=>let ⟨p1,p2,p3⟩:=I.pin p hp;⟨p1,by rw[ak (ne _ p2)];exact p2,p3⟩,λc u e=>?_,I.len⟩
 ·have q:=b.free c g e n x;rw[ak (ne _ q)];exact q
 ·have f:c≠a:=λz=>n1 _ (z▸e);rw[ak f];exact b.tups c xs e
 ·have f:c≠a:=λz=>n2 _ _ (z▸e);rw[ak f];exact b.frzs c g u e
 ·have f:c≠a:=λz=>n3 _ (z▸e);rw[ak f];exact b.tbls c ps e
 ·by_cases j:c=a
  ·subst j;rw[ai]at e;cases e;exact(I.hok c _ h).2
  ·rw[ak j]at e;refine(I.hok c u e).stay (λ_ _ _ q=>q) (λd q=>?_) λd xs q=>?_
   ·rw[ak (λz=>by rw[z,h]at q;cases q)];exact q
   ·rw[ak (λz=>by rw[z,h]at q;cases q)];exact q
def Px(t:TS):TS:=λD σ H=>∃a b,H a=Ya (.dK b)/\t {D with nx:=λd c=>(∃o,c a=Ya (.frz o (.dK b)))/\D.nx d (upd c a (.dK b)),rt:=λv c=>(∃o,c a=Ya (.frz o (.dK b)))/\D.rt v (upd c a (.dK b))} σ H
theorem G8{st:YT}{t:TS}(h:PS X st t):PS X st (Px t):=by
 intro g s σ H D I hw;obtain⟨a,i,ha,j⟩:=hw;have n1:∀b,X.H₀ a≠Ya (.tup b):=λb e=>by have:=I.base.tups a b e;rw[ha]at this;cases this
 have n2:∀o u,X.H₀ a≠Ya (.frz o u):=λo u e=>by have:=I.base.frzs a o u e;rw[ha]at this;cases this
 have n3:∀ps,X.H₀ a≠Ya (.tbl ps):=λps e=>by obtain⟨m,q⟩:=I.base.tbls a ps e;rw[ha]at q;cases q
 refine cz (h g s σ H _ I j) λf l q=>?_;cases f with
 |next=>
  obtain⟨c,k,d,⟨o,e⟩,n⟩:=q;exact⟨c,_,d.thaw e n1 n2 n3,n⟩
 |brk=>exact q
 |cont=>exact q
 |ret u=>
  obtain⟨v,c,k,d,r,⟨o,e⟩,n⟩:=q;exact⟨v,c,_,d.thaw e n1 n2 n3,r,n⟩
end
mutual
inductive Dp (K:Yc) (H:Hp):V->Xt->Prop
 |none:Dp K H .non .none
 |bool (b:Bool):Dp K H (.bl b) (.bool b)
 |int (i:Int):Dp K H (.int i) (.int i)
 |str (x:Yn):Dp K H (.str x) (.str x)
 |tup {a:Ye} {xs:List V} {ds:List Xt}:bC K H a xs->CL K H xs ds->Dp K H (.ref a) (.tuple ds)
inductive CL (K:Yc) (H:Hp):List V->List Xt->Prop
 |nil:CL K H [] []
 |cons {x:V} {xs:List V} {d:Xt} {ds:List Xt}:Dp K H x d->CL K H xs ds->CL K H (x::xs) (d::ds)
end
def Ta(K:Yc)(H c:Hp):Prop:=∀a b,bC K H a b->bC K c a b
theorem Ta.same{K:Yc}{H b:Hp}(e:aG H b):Ta K H b:=by
 rintro a c ((h|⟨o,h⟩)|h)
 ·exact .inl (.inl (e _ _ h))
 ·exact .inl (.inr ⟨o,e _ _ h⟩)
 ·exact .inr h
section
variable{X:Cx}{Za:List (Ye×Y9)}{σ:St}{H:Hp}{s:Yl}
mutual
theorem Dp.reads(I:aM X Za σ H s):∀{x:V} {d:Xt} {u:Yd},Dp X.K H x d->RelV x u->∃a,Reads s.heap u d a
 |_,_,_,.none,r=>by cases r;exact⟨_,.none⟩
 |_,_,_,.bool b,r=>by cases r;exact⟨_,.bool b⟩
 |_,_,_,.int i,r=>by obtain⟨t,rfl⟩:=r;exact⟨_,.int i t⟩
 |_,_,_,.str z,r=>by obtain⟨t,rfl⟩:=r;exact⟨_,.str z t⟩
 |_,_,_,.tup h t,r=>by
  cases r;obtain⟨f,g,⟨o,e,c,n,dd⟩,_⟩:=I.tuple h;obtain⟨a,q⟩:=CL.reads I t g;exact⟨_,.tuple e c dd (by simpa using q)⟩
theorem CL.reads(I:aM X Za σ H s):∀{xs:List V} {ds:List Xt} {us:List Yd},CL X.K H xs ds->Vals xs us->∃a,ReadsAll s.heap us ds a
 |_,_,_,.nil,r=>by cases r;exact⟨_,.nil⟩
 |_,_,_,.cons h t,r=>by
  cases r with
  |cons r1 r2=>
   obtain⟨a,q⟩:=Dp.reads I h r1;obtain⟨bs,b⟩:=CL.reads I t r2;exact⟨_,.cons q b⟩
end
def Dl(K:Yc)(H:Hp)(x:V)(d:Xt):Prop:=Dp K H x d∨∃a b c,x=.ref a/\d=.list c/\bo K H a b/\CL K H b c
theorem Dl.reads(I:aM X Za σ H s){x:V}{d:Xt}{u:Yd}(h:Dl X.K H x d)(r:RelV x u):∃b,Reads s.heap u d b:=by
 rcases h with h|⟨a,i,j,rfl,rfl,h,t⟩
 ·exact Dp.reads I h r
 ·cases r;obtain⟨f,g,⟨o,n,e,c,_,dd⟩,_⟩:=I.list h;obtain⟨b,q⟩:=CL.reads I t g;exact⟨_,.list e c dd (by simpa using q)⟩
def Rf(K:Yc):R2:=λx y H Q=>∃d e,Dl K H x d/\Dl K H y e/\d.canLay0=true/\e.canLay0=true/\min d.depth e.depth<=60/\Q (.bl (d.eqv e)) H
def N5(K:Yc):R2:=λx y H Q=>∃d e,Dl K H x d/\Dl K H y e/\d.canLay0=true/\e.canLay0=true/\min d.depth e.depth<=60/\Q (.bl (!d.eqv e)) H
theorem Nw(i:X.A.units+ 64<Wy):rA X (compareOp .Eq) (Rf X.K):=by
 intro j s σ H x y v u Q I a b h;obtain⟨d,e,h1,h2,c1,c,dp,q⟩:=h;obtain⟨k,f⟩:=h1.reads I a;obtain⟨bs,g⟩:=h2.reads I b;exact SeqAt.compareEq_reads f g c1 c (by omega) ⟨.bl _,H,I,rfl,q⟩
theorem Ph(i:X.A.units+ 64<Wy):rA X (compareOp .NotEq) (N5 X.K):=by
 intro j s σ H x y v u Q I a b h;obtain⟨d,e,h1,h2,c1,c,dp,q⟩:=h;obtain⟨k,f⟩:=h1.reads I a;obtain⟨bs,g⟩:=h2.reads I b;exact SeqAt.compareNe_reads f g c1 c (by omega) ⟨.bl _,H,I,rfl,q⟩
def OS(K:Yc)(c:Bool):R2:=λx y H Q=>∃a e b d,y=.ref a/\(bo K H a e∨bC K H a e)/\CL K H e b/\Dp K H x d/\WD b=true/\d.canLay0=true/\d.depth<=60/\Q (.bl (if c then !(b.any λz=>z.eqv d)else b.any λz=>z.eqv d)) H
theorem VB(m:X.A.units+ 64<Wy):rA X (compareOp .In) (OS X.K false):=by
 intro n s σ H x y v u Q I f g h;obtain⟨a,i,j,d,rfl,hs,hd,k,c1,c,dp,q⟩:=h;obtain⟨bs,e⟩:=k.reads I f;cases g;rcases hs with hs|hs
 ·obtain⟨l,b⟩:=Dl.reads I (x:=.ref a) (u:=.ref a) (.inr ⟨a,i,j,rfl,rfl,hs,hd⟩) rfl;exact SeqAt.in_list_reads b e c1 c (by omega) ⟨.bl _,H,I,rfl,q⟩
 ·obtain⟨l,b⟩:=Dp.reads I (x:=.ref a) (u:=.ref a) (.tup hs hd) rfl;exact SeqAt.in_tuple_reads b e c1 c (by omega) ⟨.bl _,H,I,rfl,q⟩
theorem HW(m:X.A.units+ 64<Wy):rA X (compareOp .NotIn) (OS X.K true):=by
 intro n s σ H x y v u Q I f g h;obtain⟨a,i,j,d,rfl,hs,hd,k,c1,c,dp,q⟩:=h;obtain⟨bs,e⟩:=k.reads I f;cases g;rcases hs with hs|hs
 ·obtain⟨l,b⟩:=Dl.reads I (x:=.ref a) (u:=.ref a) (.inr ⟨a,i,j,rfl,rfl,hs,hd⟩) rfl;exact SeqAt.notIn_list_reads b e c1 c (by omega) ⟨.bl _,H,I,rfl,q⟩
 ·obtain⟨l,b⟩:=Dp.reads I (x:=.ref a) (u:=.ref a) (.tup hs hd) rfl;exact SeqAt.notIn_tuple_reads b e c1 c (by omega) ⟨.bl _,H,I,rfl,q⟩
end
theorem S5{K:Yc}{x y:V}{H:Hp}{Q:VK}{d:Xt}(h1:Dl K H x d)(h2:Dl K H y d)(c:d.canLay0=true)(dp:d.depth<=60)(q:Q (.bl true) H):Rf K x y H Q:=
 ⟨d,d,h1,h2,c,c,by omega,by rw[SeqAt.eqv_refl d c];exact q⟩
theorem HY{K:Yc}{x y:V}{H:Hp}{Q:VK}{d:Xt}(h1:Dl K H x d)(h2:Dl K H y d)(c:d.canLay0=true)(dp:d.depth<=60)(q:Q (.bl false) H):N5 K x y H Q:=
 ⟨d,d,h1,h2,c,c,by omega,by rw[SeqAt.eqv_refl d c];exact q⟩
theorem aD{H:Hp}{l:Ye}{o:HO}(h:H l=Yb):aG H (upd H l o):=λb u e=>by rw[ak (ay e h)];exact e
def FC(d:Ye)(H a:Hp):Prop:=∀b,b≠d->a b=H b
theorem FC.upd{d:Ye}{H:Hp}{o:HO}:FC d H (L2.upd H d o):=λb h=>ak h
theorem FC.same{d:Ye}{B H a:Hp}(e:FC d H a)(s:aG B H)(h:B d=Yb):aG B a:=λb o c=>by rw[e b (ay c h)];exact s b o c
theorem FC.at{d b:Ye}{H a:Hp}{o:Option HO}(e:FC d H a)(n:b≠d)(h:H b=o):a b=o:=by rw[e b n];exact h
theorem FC.of{d b:Ye}{H a:Hp}{o u:HO}(e:FC d H a)(hd:H d=Ya u)(h:H b=Ya o)(n:o≠u):a b=Ya o:=e.at (bV h hd n) h
def V2(xs:List V)(H:Hp)(Q:VK):Prop:=xs.length<=sizeLine/\∀p,H p=Yb->Q (.ref p) (upd H p (.tup xs))
def V8(xs:List V)(H:Hp)(Q:VK):Prop:=xs.length<=sizeLine/\∀p,H p=Yb->Q (.ref p) (upd H p (.lst xs))
section
variable{D:p5}{σ:St}{H:Hp}{Q:VK}{K:Yc}
theorem tW{t u:TS}(h:t {D with nx:=u D} σ H):pH t u D σ H:=h
theorem SE{a:TE}{g:TG}{u:TS}(h:a σ H λx b=>g x σ b (u D)):pH (Ky a g) u D σ H:=h
theorem QG{a:TE}{u:TS}(h:a σ H λ_ b=>u D σ b):pH (Mh a) u D σ H:=h
theorem Sn{td ty tv:TE}{u:TS}(h:Gm td ty tv {D with nx:=u D} σ H):pH (Gm td ty tv) u D σ H:=h
theorem RP{a:TI}{g:TG}{tb u:TS}(h:NW a g tb {D with nx:=u D} σ H):pH (NW a g tb) u D σ H:=h
theorem QV{c:TT}{tb u:TS}(h:EF c tb {D with nx:=u D} σ H):pH (EF c tb) u D σ H:=h
theorem QN{ta tv:TE}{f:Yn}{u:TS}(h:LZ K ta tv f {D with nx:=u D} σ H):pH (LZ K ta tv f) u D σ H:=h
theorem Sm{c:TT}{a:TE}{u:TS}(h:c σ H λb d=>if b=true then a σ d D.rt else u D σ d):pH (Oe c (RD a) Gv) u D σ H:=h
theorem Ad(I:St->Hp->Prop){t u:TS}(h2:∀a b,I a b->u D a b)(h:∀N:St->Hp->Prop,(∀a b,I a b->N a b)->t {D with nx:=N} σ H):pH t u D σ H:=h _ h2
theorem LL(h:D.nx σ H):Gv D σ H:=h
theorem TN{a:TE}(h:a σ H D.rt):RD a D σ H:=h
theorem Rt{a:TE}(h:a σ H λ_ b=>D.nx σ b):Mh a D σ H:=h
theorem UD{a:TE}{g:TG}(h:a σ H λx b=>g x σ b D.nx):Ky a g D σ H:=h
theorem Vo{c:TT}{t u:TS}(h:c σ H λb a=>if b=true then t D σ a else u D σ a):Oe c t u D σ H:=h
theorem U8(h:D.bk σ H):K5 D σ H:=h
theorem Rh{i:Nat}{v:V}{R:St->Hp->Prop}(h:R (σ.set i (Ya v)) H):yA i v σ H R:=h
theorem Rp{R:St->Hp->Prop}(h:R σ H):SA [] σ H R:=⟨rfl,h⟩
theorem OG{t:TG}{u:M9}{v:V}{r:List V}{R:St->Hp->Prop}(h:t v σ H λa b=>u r a b R):Hf t u (v::r) σ H R:=⟨v,r,rfl,h⟩
theorem Rc{n:Nat}{t:M9}{a:Ye}{xs:List V}{R:St->Hp->Prop}(h1:bC K H a xs)(h2:xs.length=n)(h:t xs σ H R):Oa K n t (.ref a) σ H R:=⟨a,xs,rfl,h1,h2,h⟩
theorem Vp{i:Nat}{v:V}(h1:σ[i]?=Ya (Ya v))(h:Q v H):Jl i σ H Q:=⟨v,h1,h⟩
theorem Wk{v:V}(h:Q v H):tC v σ H Q:=h
theorem VG{r:R2}{ta tb:TE}(h:ta σ H λx a=>tb σ a λy b=>r x y b Q):SV r ta tb σ H Q:=h
theorem VE{g:Int->Int->V}{i j:Int}(h:Q (g i j) H):La g (.int i) (.int j) H Q:=⟨i,j,rfl,rfl,h⟩
theorem Wm{C:Int->Int->Prop}{g:Int->Int->V}{i j:Int}(a:C i j)(h:Q (g i j) H):rI C g (.int i) (.int j) H Q:=⟨i,j,rfl,rfl,a,h⟩
theorem Ts(i j:Int):decide (V.int i=V.int j)=decide (i=j):=by
 by_cases h:i=j
 ·subst h;rw[decide_eq_true rfl,decide_eq_true rfl]
 ·rw[decide_eq_false h,decide_eq_false (λe=>h (V.int.inj e))]
theorem Uo(i j:Yn):decide (V.str i=V.str j)=decide (i=j):=by
 by_cases h:i=j
 ·subst h;rw[decide_eq_true rfl,decide_eq_true rfl]
 ·rw[decide_eq_false h,decide_eq_false (λe=>h (V.str.inj e))]
theorem UA{i j:Int}(h:Q (.bl (decide (i=j))) H):V1 (.int i) (.int j) H Q:=⟨rfl,by rw[Ts];exact h⟩
theorem Uj{i j:Int}(h:Q (.bl (!decide (i=j))) H):VY (.int i) (.int j) H Q:=⟨rfl,by rw[Ts];exact h⟩
theorem Vc{i j:Yn}(h:Q (.bl (decide (i=j))) H):V1 (.str i) (.str j) H Q:=⟨rfl,by rw[Uo];exact h⟩
theorem Tu{i j:Yn}(h:Q (.bl (!decide (i=j))) H):VY (.str i) (.str j) H Q:=⟨rfl,by rw[Uo];exact h⟩
theorem SR{t:TE}{R:Bool->Hp->Prop}(h:t σ H λx a=>∃k,x=.bl k/\R k a):Lh t σ H R:=h
theorem U3{t:TE}{R:Bool->Hp->Prop}(h:t σ H λx a=>∃k,Lm K x a k/\R k a):Ro K t σ H R:=h
theorem Wj{t:TE}{R:Bool->Hp->Prop}(h:t σ H λx a=>∃k,x=.bl k/\R k a):tB t σ H R:=h
theorem Rg{c:Bool}{P:Bool->Prop}(h:P c):∃k,V.bl c=.bl k/\P k:=⟨c,rfl,h⟩
theorem OR{c:Bool}{P:Bool->Prop}(h:P c):∃k,Lm K (.bl c) H k/\P k:=⟨c,rfl,h⟩
theorem U6{t u:TT}{R:Bool->Hp->Prop}(h:t σ H λc a=>if c=true then u σ a R else R false a):UO t u σ H R:=h
theorem VI{t u:TT}{R:Bool->Hp->Prop}(h:t σ H λc a=>if c=true then R true a else u σ a R):V6 t u σ H R:=h
theorem Uk{t:TT}{R:Bool->Hp->Prop}(h:t σ H λc a=>R (!c) a):TV t σ H R:=h
theorem RG{ta tb:TE}(h:ta σ H λx a=>∃c,x=.bl c/\if c=true then tb σ a Q else Q (.bl false) a):P0 ta tb σ H Q:=h
theorem T4{ta tb:TE}(h:ta σ H λx a=>∃c,x=.bl c/\if c=true then Q (.bl true) a else tb σ a Q):Tp ta tb σ H Q:=h
theorem SK{ta:TE}(h:ta σ H λx a=>∃c,x=.bl c/\Q (.bl (!c)) a):PM ta σ H Q:=h
theorem Ug{t:TT}{ta tb:TE}(h:t σ H λc a=>if c=true then ta σ a Q else tb σ a Q):V4 t ta tb σ H Q:=h
theorem UL{R:List V->Hp->Prop}(h:R [] H):Bd σ H R:=h
theorem QO{ta:TE}{tr:TA}{R:List V->Hp->Prop}(h:ta σ H λx a=>tr σ a λxs b=>R (x::xs) b):yn ta tr σ H R:=h
theorem UZ{t:TA}(h:t σ H λxs a=>V2 xs a Q):SU t σ H Q:=h
theorem Ue{t:TA}(h:t σ H λxs a=>V8 xs a Q):U5 t σ H Q:=h
theorem Va{xs:List V}(hl:xs.length<=sizeLine)(h:∀p a,H p=Yb->aG H a->a p=Ya (.tup xs)->Q (.ref p) a):V2 xs H Q:=⟨hl,λp hp=>h p _ hp (aD hp) ai⟩
theorem Uw{xs:List V}(hl:xs.length<=sizeLine)(h:∀p a,H p=Yb->aG H a->a p=Ya (.lst xs)->Q (.ref p) a):V8 xs H Q:=⟨hl,λp hp=>h p _ hp (aD hp) ai⟩
theorem Q7(h:∀p a,H p=Yb->aG H a->a p=Ya (.dK (dI []))->Q (.ref p) a):Lz σ H Q:=λp hp=>h p _ hp (aD hp) ai
theorem QR{sp:Sp}{a:List V}{E:XK}{t:TA}(h:t σ H λvs b=>sp (vs++a) b Q E):GK sp a E t σ H Q:=h
theorem VF{r:List V->Hp->VK->Prop}{t:TA}(h:t σ H λvs a=>r vs a Q):VH r t σ H Q:=h
theorem VP{r:V->Option Int->Option Int->Hp->VK->Prop}{a:TE}{tl b:TO}(h:a σ H λx c=>tl σ c λl d=>b σ d λu e=>r x l u e Q):We r a tl b σ H Q:=h
theorem KG{R:Option Int->Hp->Prop}(h:R Yb H):Gw σ H R:=h
theorem Q5{t:TE}{R:Option Int->Hp->Prop}(h:t σ H λx a=>∃i,x=.int i/\R (Ya i) a):PL t σ H R:=h
theorem OI{c:Int}{P:Int->Prop}(h:P c):∃k,V.int c=.int k/\P k:=⟨c,rfl,h⟩
theorem T5{a:Ye}{xs:List V}{lo c:Option Int}(h1:bo K H a xs)(h:∀p b,H p=Yb->aG H b->b p=Ya (.lst (u5 xs lo c))->Q (.ref p) b):RY K (.ref a) lo c H Q:=⟨a,xs,rfl,h1,λp hp=>h p _ hp (aD hp) ai⟩
theorem TK{a:Ye}{xs:List V}{i:Int}{v:V}(h1:bo K H a xs)(h2:sf xs i=Ya v)(h:Q v H):Pq K (.ref a) (.int i) H Q:=⟨a,xs,i,v,rfl,rfl,h1,h2,h⟩
theorem TQ{a:Ye}{xs:List V}{i:Int}{v:V}(h1:bC K H a xs)(h2:sf xs i=Ya v)(h:Q v H):NC K (.ref a) (.int i) H Q:=⟨a,xs,i,v,rfl,rfl,h1,h2,h⟩
theorem Sg{td ty:TE}(h:td σ H λx c=>ty σ c λy b=>∃a v,x=.ref a/\iy b a y (Ya v)/\Q v b):PZ td ty σ H Q:=h
theorem QW{d:Ye}{m:List (Int×Int)}{k n:Int}{P:V->Prop}(hd:Rd H d (.dK (dI m)))(hk:qY m k=Ya n)(h:P (.int n)):∃a v,V.ref d=.ref a/\iy H a (.int k) (Ya v)/\P v:=
 ⟨d,.int n,rfl,.inl ⟨_,YD k,hd,rfl,by rw[rp,hk];rfl⟩,h⟩
theorem NQ{td ty b:TE}(h:td σ H λx c=>∃a,x=.ref a/\SY c a/\ty σ c λy e=>b σ e λz d=>∃o,iy d a y o/\Q (o.getD z) d):Lx td ty b σ H Q:=h
theorem RB{d:Ye}{m:List (Int×Int)}{k:Int}{P:Option V->Prop}(hd:Rd H d (.dK (dI m)))(h:P ((qY m k).map V.int)):∃o,iy H d (.int k) o/\P o:=
 ⟨_,.inl ⟨_,YD k,hd,rfl,(rp m k).symm⟩,h⟩
theorem G5(o:Option Int)(z:Int):(o.map V.int).getD (V.int z)=V.int (o.getD z):=by cases o<;>rfl
theorem Aj(o:Option Int):(o.map V.int).isSome=o.isSome:=by cases o<;>rfl
theorem Vi{td ty:TE}(h:ty σ H λy c=>td σ c λx b=>∃a o,x=.ref a/\iy b a y o/\Q (.bl o.isSome) b):Vm ty td σ H Q:=h
theorem Lk{td ty:TE}(h:ty σ H λy c=>td σ c λx b=>∃a o,x=.ref a/\iy b a y o/\Q (.bl (!o.isSome)) b):Gp ty td σ H Q:=h
theorem N7{d:Ye}{m:List (Int×Int)}{k:Int}{P:Option V->Prop}(hd:Rd H d (.dK (dI m)))(h:P ((qY m k).map V.int)):∃a o,V.ref d=.ref a/\iy H a (.int k) o/\P o:=
 ⟨d,_,rfl,.inl ⟨_,YD k,hd,rfl,(rp m k).symm⟩,h⟩
theorem QK{td ty tv:TE}(h:tv σ H λv c=>td σ c λx d=>ty σ d λy e=>∃a b,x=.ref a/\y6 e a y v b/\D.nx σ b):Gm td ty tv D σ H:=h
theorem M7{d:Ye}{m:List (Int×Int)}{k n:Int}{P:Hp->Prop}(hd:H d=Ya (.dK (dI m)))(nd:(m.map (·.1)).Nodup)(hl:m.length<sizeLine)(h:∀b,FC d H b->b d=Ya (.dK (dI (dR m k n)))->P b):∃a c,V.ref d=.ref a/\y6 H a (.int k) (.int n) c/\P c:=
 ⟨d,_,rfl,.inl ⟨_,YD k,hd,rfl,by rw[oz];exact hl,rfl⟩,h _ .upd (by rw[ai,Kk m k n nd])⟩
theorem Ui{b:TI}{g:TG}{tb:TS}(h:b σ H λJ e=>∃W:Nat->Nat->St->Hp->Prop,(∃m,W 0 m σ e)/\∀i m σ H,W i m σ H->
 (J.stop i H/\D.nx σ H)∨(J.go i H/\∃N:St->Hp->Prop,(∀c a,N c a->∃d,d<m/\W (i+ 1) d c a)/\∀x a,J.yld i H x a->g x σ a λf j=>tb {D with nx:=N,ct:=N,bk:=D.nx} f j)):NW b g tb D σ H:=h
theorem OX{tl:TE}{R:It->Hp->Prop}(h:tl σ H λx b=>∃a,x=.ref a/\(∃xs,bo K b a xs)/\R (Ko K a) b):MP K tl σ H R:=h
theorem RT{a:Ye}{xs:List V}{P:Ye->Prop}(hd:bo K H a xs)(h:P a):∃b,V.ref a=.ref b/\(∃xs,bo K H b xs)/\P b:=⟨a,rfl,⟨xs,hd⟩,h⟩
theorem R4{tl:TE}{R:It->Hp->Prop}(h:tl σ H λx b=>∃a,x=.ref a/\(∃xs,bC K b a xs)/\R (LK K a) b):Ra K tl σ H R:=h
theorem Rv{a:Ye}{xs:List V}{P:Ye->Prop}(hd:bC K H a xs)(h:P a):∃b,V.ref a=.ref b/\(∃xs,bC K H b xs)/\P b:=⟨a,rfl,⟨xs,hd⟩,h⟩
theorem Vs{ta:TA}{R:It->Hp->Prop}(h:ta σ H λvs a=>∃j:Int,vs=[.int j]/\-(2^62)<=j/\j<2^62/\R (JG 0 j.toNat) a):Qd ta σ H R:=h
theorem VJ{T:String}{r:V->List V->Hp->VK->Prop}{to:TE}{t:TA}(h:to σ H λx a=>R0 K T x a/\t σ a λxs b=>r x xs b Q):VA K T r to t σ H Q:=h
theorem Vk{T:String}{r:V->List V->Hp->VK->Prop}{to:TE}(h:to σ H λx a=>R0 K T x a/\r x [] a Q):Um K T r to σ H Q:=h
theorem Uu{a:Ye}{xs:List V}{P:Prop}(hd:H a=Ya (.lst xs))(h:P):R0 K "list" (.ref a) H/\P:=⟨.inl ⟨rfl,_,bo.of hd⟩,h⟩
theorem K4{a:Ye}{xs:List V}{y:V}(hd:H a=Ya (.lst xs))(hl:xs.length<sizeLine)(h:∀b,FC a H b->b a=Ya (.lst (xs++[y]))->Q .non b):wz (.ref a) [y] H Q:=⟨a,xs,y,rfl,rfl,hd,hl,h _ .upd ai⟩
theorem RF{a:List (Option Nat)}{d:TI}{g:TG}{e:TT}{f:TE}(h:d σ H λJ j=>∀D,j D=Yb->∃W:Nat->Nat->St->Hp->Prop,(∃m,W 0 m (CO a σ) (upd j D (.lst [])))/\
 ∀i m k b,W i m k b->(J.stop i b/\Q (.ref D) b)∨(J.go i b/\∃N:St->Hp->Prop,(∀l n,N l n->∃o,o<m/\W (i+ 1) o l n)/\
  ∀x c,J.yld i b x c->eZ g e f D N x k c)):J6 a d g e f σ H Q:=h
theorem Sj{a:Ye}{kvs:List (bK×V)}{P:List (bK×V)->Prop}(hd:Rd H a (.dK kvs))(h:P kvs):∃p ys,[V.ref a]=[.ref p]/\Rd H p (.dK ys)/\P ys:=⟨a,kvs,rfl,hd,h⟩
end
theorem Vg{A B:Prop}(h:B):if(!true)=true then A else B:=h
theorem UT{A B:Prop}(h:A):if(!false)=true then A else B:=h
theorem Tw:(10:Int)^(18:Int).toNat=1000000000000000000:=by decide
theorem LS:(0:Int)<(10:Int)^(18:Int).toNat:=by rw[Tw];decide
theorem LQ:(0:Int)<(10:Int)^(60:Int).toNat:=Int.pow_pos (by decide)
section
variable{X:Cx}{K:Yc}
theorem br(a:X.K=K):JF X (NC K):=by subst a;exact LP
theorem bI(a:X.K=K):JF X (Pq K):=by subst a;exact G9
theorem tY(a:X.K=K):To X (RY K):=by subst a;exact OW
theorem NH(a:X.K=K):To X (Su K):=by subst a;exact SO
theorem R1(a:X.K=K)(b:X.A.units+ 64<Wy):rA X (compareOp .Eq) (Rf K):=by subst a;exact Nw b
theorem Ft(a:X.K=K)(b:X.A.units+ 64<Wy):rA X (compareOp .NotEq) (N5 K):=by subst a;exact Ph b
theorem Nk(a:X.K=K)(b:X.A.units+ 64<Wy):rA X (compareOp .NotIn) (OS K true):=by subst a;exact HW b
def Qs(K:Yc):List V->Hp->VK->Prop:=λb H Q=>∃p a,b=[.ref p]/\(bo K H p a∨bC K H p a)/\Q (.int a.length) H
theorem cY(a:X.K=K):dh X (.builtin "len") (Qs K):=by subst a;exact Bt
def Hk(K:Yc):List V->Hp->VK->Prop:=λb H Q=>∃p a,b=[.ref p]/\(bo K H p a∨bC K H p a)/\∀l,H l=Yb->Q (.ref l) (upd H l (.lst a))
theorem yH(a:X.K=K):dh X (.type "list") (Hk K):=by subst a;exact Bc
def BH(K:Yc):List V->Hp->VK->Prop:=λb H Q=>∃p a,b=[.ref p]/\((bo K H p a/\∀l,H l=Yb->Q (.ref l) (upd H l (.tup a)))∨(bC K H p a/\Q (.ref p) H))
theorem iu(a:X.K=K):dh X (.type "tuple") (BH K):=by subst a;exact y7
def VZ(K:Yc):List V->Hp->VK->Prop:=λa H Q=>∃(x:V) (t:Yd) (T:String) (b:Bool),a=[x,.ty T]/\sX K H x t/\acH K t (.type T)=Ya b/\Q (.bl b) H
theorem fM(a:X.K=K):dh X (.builtin "isinstance") (VZ K):=by subst a;exact CQ
def Lq:List V->Hp->VK->Prop:=λb H Q=>∃(d:Ye) (a:List (bK×V)),b=[.ref d]/\Rd H d (.dK a)/\∀p,H p=Yb->Q (.ref p) (upd H p (.dK a))
theorem JB:dh X (.type "dict") Lq:=ED
theorem mT{es:List Y2}{k:Nat}{t:M9}{n:Nat}{pos:Xr}(b:X.K=K)(c:X.calm=true)(h:Tr X es t)(hn:(assignEach es X.env).length=n:=by rfl)(a:(assignEach es X.env).findIdx? (·.1)=none:=by rfl):PG X (.Tuple es k pos) (Oa K n t):=by subst b;exact Rw c h hn a
theorem bJ{a l:Y2}{tl:TE}(b:X.K=K)(hl:PE X l tl):PI X a l (MP K tl):=by subst b;exact O7 hl
theorem AH{a l:Y2}{tl:TE}(b:X.K=K)(hl:PE X l tl):PI X a l (Ra K tl):=by subst b;exact QT hl
theorem Gk{a l:Y2}{tl:TE}(b:X.K=K)(hl:PE X l tl):PI X a l (Q2 K tl):=by subst b;exact Ri hl
theorem Ke{x:Yn}{pos:Xr}{t:TE}(a:X.K=K)(h:PE X (.Name x pos) t):PT X (.Name x pos) (Ro K t):=by
 subst a;exact Df h λ_=>rfl
theorem rO{o e:Y2}{to:TE}{t:TA}{a b:Xr}(c:X.K=K)(h:PE X (.Call (.Attribute o "append" a) [e] [] b) (VA X.K "list" wz to t)):PE X (.Call (.Attribute o "append" a) [e] [] b) (VA K "list" wz to t):=by subst c;exact h
end
section
variable{σ:St}{H:Hp}{Q:VK}{K:Yc}
theorem Pp{a:Ye}{xs:List V}(hd:bC K H a xs)(h:Q (.int xs.length) H):Qs K [.ref a] H Q:=⟨a,xs,rfl,.inr hd,h⟩
theorem LO{a:Ye}{xs:List V}(hd:bC K H a xs)(h:∀p b,H p=Yb->aG H b->b p=Ya (.lst xs)->Q (.ref p) b):Hk K [.ref a] H Q:=⟨a,xs,rfl,.inr hd,λp hp=>h p _ hp (aD hp) ai⟩
theorem OY{a:Ye}{xs:List V}(hd:bo K H a xs)(h:∀p b,H p=Yb->aG H b->b p=Ya (.tup xs)->Q (.ref p) b):BH K [.ref a] H Q:=⟨a,xs,rfl,.inl ⟨hd,λp hp=>h p _ hp (aD hp) ai⟩⟩
end
theorem cU{H b:Hp}{a:Ye}{u:HO}(s:aG H b)(h:Rd H a u):Rd b a u:=by
 rcases h with h|⟨o,h⟩
 ·exact .inl (s _ _ h)
 ·exact .inr ⟨o,s _ _ h⟩
theorem aT{α:Type}{ls:List α}{i:Nat}{n:α}(h:ls[i]?=Ya n):ls.take (i+ 1)=ls.take i++[n]:=by
 rw[acS,h];rfl
theorem fP{a:List Int}{i:Nat}{x:V}(h:(a.map V.int)[i]?=Ya x):∃n:Int,a[i]?=Ya n/\x=.int n:=by
 rw[Yv]at h;cases e:a[i]? with
 |none=>rw[e]at h;cases h
 |some n=>rw[e]at h;exact⟨n,rfl,(YC h).symm⟩
theorem Gn{α:Type}{xs:List α}{i:Int}{v:α}(h0:0<=i)(h:xs[i.toNat]?=Ya v):sf xs i=Ya v:=by
 obtain⟨n,rfl⟩:=WJ h0;exact cE h
abbrev Nm:=Int×Int×Int
def Gg(p:Nm):Xt:=.tuple [.int p.1,.int p.2.1,.int p.2.2]
def wy(H:Hp)(x:V)(p:Nm):Prop:=∃a,x=.ref a/\H a=Ya (.tup [.int p.1,.int p.2.1,.int p.2.2])
abbrev nZ(H:Hp):List V->List Nm->Prop:=Paired (wy H)
def dF(H c:Hp):Prop:=∀a b,H a=Ya (.tup b)->c a=Ya (.tup b)
theorem dF.trans{c d e:Hp}(a:dF c d)(b:dF d e):dF c e:=λ_ _ h=>b _ _ (a _ _ h)
theorem dF.same{H a:Hp}(e:aG H a):dF H a:=λ_ _ h=>e _ _ h
theorem dF.upd{H:Hp}{l:Ye}{o:HO}(h1:∀xs,H l≠Ya (.tup xs)):dF H (upd H l o):=λa xs h=>by
 have:a≠l:=λe=>h1 xs (e▸h);rw[ak this];exact h
theorem dF.lst{H:Hp}{l:Ye}{o:HO}{ys:List V}(h:H l=Ya (.lst ys)):dF H (L2.upd H l o):=.upd (λ_ z=>by rw[h]at z;cases z)
theorem wy.up{H b:Hp}(m:dF H b){x:V}{p:Nm}(h:wy H x p):wy b x p:=by
 obtain⟨a,e,h⟩:=h;exact⟨a,e,m _ _ h⟩
theorem nZ.up{H a:Hp}(m:dF H a):∀{xs:List V} {ns:List Nm},nZ H xs ns->nZ a xs ns
 |_,_,.nil=>.nil
 |_,_,.cons r t=>.cons (r.up m) (nZ.up m t)
theorem nZ.get{H:Hp}:∀{xs:List V} {ns:List Nm} {i:Nat} {x:V},nZ H xs ns->xs[i]?=Ya x->∃p,ns[i]?=Ya p/\wy H x p
 |_,_,_,_,.nil,e=>by simp at e
 |_,_,0,_,.cons r _,e=>by simp at e;subst e;exact⟨_,rfl,r⟩
 |_,_,i+ 1,x,.cons _ t,e=>by
  obtain⟨p,h1,h2⟩:=nZ.get (i:=i) (x:=x) t (by simpa using e);exact⟨p,by simpa using h1,h2⟩
theorem nZ.len{H:Hp}{xs:List V}{ns:List Nm}(h:nZ H xs ns):xs.length=ns.length:=Y0 h
theorem nZ.at{H:Hp}{xs:List V}{ns:List Nm}{i:Nat}(h:nZ H xs ns)(a:i<ns.length):∃x,xs[i]?=Ya x/\wy H x ns[i]:=by
 have b:i<xs.length:=by rw[h.len];exact a
 obtain⟨p,e,r⟩:=h.get (Yk b);rw[Yk a]at e;cases e;exact⟨_,Yk b,r⟩
theorem nZ.snoc{H:Hp}:∀{xs:List V} {ns:List Nm} {x:V} {p:Nm},nZ H xs ns->wy H x p->nZ H (xs++[x]) (ns++[p])
 |_,_,_,_,.nil,h=>.cons h .nil
 |_,_,_,_,.cons r t,h=>.cons r (nZ.snoc t h)
theorem wy.dp{K:Yc}{H:Hp}{x:V}{p:Nm}(h:wy H x p):Dp K H x (Gg p):=by
 obtain⟨a,rfl,h⟩:=h;exact .tup (bC.of h) (.cons (.int _) (.cons (.int _) (.cons (.int _) .nil)))
theorem nZ.dps{K:Yc}{H:Hp}:∀{xs:List V} {ns:List Nm},nZ H xs ns->CL K H xs (ns.map Gg)
 |_,_,.nil=>.nil
 |_,_,.cons r t=>.cons r.dp (nZ.dps t)
theorem EV(p:Nm):(Gg p).canLay0=true:=rfl
theorem Hi:∀ns:List Nm,WD (ns.map Gg)=true
 |[]=>rfl
 |p::ns=>by rw[Yz,Xy,EV,Hi ns];rfl
section
variable{σ:St}{H:Hp}{Q:VK}{K:Yc}{X:Cx}
theorem Gq(a:X.K=K):JF X (VQ K):=by subst a;exact RE
theorem T9{a:Ye}{xs:List V}{i:Int}{v:V}(h1:bo K H a xs∨bC K H a xs)(h2:sf xs i=Ya v)(h:Q v H):VQ K (.ref a) (.int i) H Q:=by
 rcases h1 with h1|h1
 ·exact .inl ⟨a,xs,i,v,rfl,rfl,h1,h2,h⟩
 ·exact .inr (.inl ⟨a,xs,i,v,rfl,rfl,h1,h2,h⟩)
theorem OV{a:Ye}{xs:List V}(hd:bo K H a xs∨bC K H a xs)(h:Q (.int xs.length) H):Qs K [.ref a] H Q:=⟨a,xs,rfl,hd,h⟩
end
theorem Mq{P:Prop}(h:P):V.non=V.non/\P:=⟨rfl,h⟩
section
variable{X:Cx}{CX:LV}{k:Nat}{f C:Ye}{fd:Yx}{ps:List Yn}{sp:Sp}{Zl:List V}{ds:List Yd}{E:XK}{x m:Yn}{p pos Ze:Xr}{e o:Y2}{es:List Y2}{ta:TE}{t:TA}
structure MJ(K:Yc)(C:Ye)(m:Yn)(f:Ye):Prop where
 ga:adF K (.ref C) "__getattribute__"=Ya (Ya (.builtin "type.__getattribute__"))
 rd:PySem.W.readsIn K C (.type "type")=true
 at_:PySem.W.findCls K (.ref C) (.type "type") m=Ya (.val (.ref f))
 hd:ab0 (.ref f)=true
 kp:Xl K (.ref f)=true
theorem Kn{pl:abL Bool}(w:Gl X x)(hm:X.mg x=Ya (.ref C))(c:MJ X.K C m f)(F:aF X.prog X.w X.K X.mg X.base bx k f fd ps sp)(y:Binds X.K fd ps [])(z:cR k X.A)(ha:PA X (e::es) t)
  (a:(x==("__debug__":Yn))=false:=by decide)
  (b:starEach (e::es) X.env=(false,eval e X.env)::starEach es X.env:=by rfl) (d:(backTo pos (starEach es X.env)).any (·.1)=false:=by rfl)
  (A:eval (.Call (.Attribute (.Name x p) m Ze) (e::es) [] pos) X.env=(do
   let ov←eval (.Name x p) X.env
   aa2 Ze.atName
   let (f,first)←holding [ov] (getMethod ov m pl)
   callWith pos f first (backTo pos (starEach (e::es) X.env)) (backToKw pos (keywordEach [] X.env))):=by rfl):
  PE X (.Call (.Attribute (.Name x p) m Ze) (e::es) [] pos) (GK sp [] E0 t):=by
 intro l s σ H Q I h;refine Xc (pl:=pl) (cz (Gu (v:=.ref C) w hm rfl a l s σ H (λv g=>v=.ref C/\t σ g λi n=>sp (i++[]) n Q E0) I ⟨rfl,h⟩) λu J B=>?_) A;obtain⟨x,g,j,D,ex,q⟩:=B;subst ex;obtain rfl:u=YA C:=D;refine PySem.W.method_cls j.kIn c.ga (PySem.W.cls_value j.kIn c.rd c.at_ c.hd ?_);refine XB (first:=[]) (h₀:=X.base) I.ok.mod.kin c.kp (cz (ha pos l _ σ g _ (j.tok _) q) λE K ⟨i,n,o,r,G⟩=>⟨o.kIn,?_⟩) b d;exact rN (us:=E) (vs:=i) F z y .nil nH o r G
def bU(P:YO)(w:YW)(K:Yc)(mg:Yn->Option Yd)(base:YK)(k:Nat)(m:Yn)(a:List (Ye×Sp)):Prop:=
 ∀cs∈a,∃f fd ps,zJ K cs.1/\bB K cs.1 m f/\aF P w K mg base bx k f fd ps cs.2/\Binds K fd ps []
theorem bU.nil{P:YO}{w:YW}{K:Yc}{mg:Yn->Option Yd}{base:YK}:bU P w K mg base k m []:=λ_ h=>nomatch h
theorem bU.cons{P:YO}{w:YW}{K:Yc}{mg:Yn->Option Yd}{base:YK}{a:List (Ye×Sp)}(c:zJ K C)(hm:bB K C m f)(F:aF P w K mg base bx k f fd ps sp)(b:Binds K fd ps [])(r:bU P w K mg base k m a):bU P w K mg base k m ((C,sp)::a):=by
 intro cs h;rcases Ym.mp h with rfl|h
 ·exact⟨f,fd,ps,c,hm,F,b⟩
 ·exact r cs h
def SX(b:List (Ye×Sp))(m:Yn)(t:TA)(σ:St)(x:V)(H:Hp)(Q:VK):Prop:=
 ∃cs∈b,∃a c fs,x=.ref a/\H a=Ya (.ins cs.1 c fs)/\fs.lookup m=Yb/\t σ H λd e=>cs.2 (x::(d++[])) e Q E0
def FH(a:List (Ye×Sp))(m:Yn)(ta:TE)(t:TA):TE:=λσ H Q=>ta σ H λx b=>SX a m t σ x b Q
theorem bP{pl:abL Bool}{i:List (Ye×Sp)}(M:bU X.prog X.w X.K X.mg X.base k m i)(v:PE X o ta)(w:cR k X.A)(ha:PA X (e::es) t)
  (b:starEach (e::es) X.env=(false,eval e X.env)::starEach es X.env:=by rfl) (d:(backTo pos (starEach es X.env)).any (·.1)=false:=by rfl)
  (y:eval (.Call (.Attribute o m Ze) (e::es) [] pos) X.env=(do
   let ov←eval o X.env
   aa2 Ze.atName
   let (f,first)←holding [ov] (getMethod ov m pl)
   callWith pos f first (backTo pos (starEach (e::es) X.env)) (backToKw pos (keywordEach [] X.env))):=by rfl):
  PE X (.Call (.Attribute o m Ze) (e::es) [] pos) (FH i m ta t):=by
 intro j s σ H Q I h;refine Xc (pl:=pl) (cz (v j s σ H _ I h) λu z A=>?_) y;obtain⟨x,B,n,C,cs,g,a,L,fs,ex,D,l,q⟩:=A;subst ex;obtain rfl:u=YA a:=C;obtain⟨f,fd,ps,c,hm,F,E⟩:=M cs g;refine jy n D c hm l ?_;refine XB (first:=[.ref a]) (h₀:=X.base) I.ok.mod.kin hm.kp (cz (ha pos j z σ B _ n q) λG N ⟨J,O,p,r,K⟩=>⟨p.kIn,?_⟩) b d;exact rN (us:=.ref a::G) (vs:=.ref a::J) F w E .nil nH p (.cons rfl r) K
theorem bA{pl:abL Bool}{e:List (Ye×Sp)}(M:bU X.prog X.w X.K X.mg X.base k m e)(g:PE X o ta)(i:cR k X.A)
  (j:eval (.Call (.Attribute o m Ze) [] [] pos) X.env=(do
   let ov←eval o X.env
   aa2 Ze.atName
   let (f,first)←holding [ov] (getMethod ov m pl)
   callWith pos f first (backTo pos (starEach [] X.env)) (backToKw pos (keywordEach [] X.env))):=by rfl):
  PE X (.Call (.Attribute o m Ze) [] [] pos) (FH e m ta Bd):=by
 intro n s σ H Q I h;refine Xc (pl:=pl) (cz (g n s σ H _ I h) λu w p=>?_) j;obtain⟨x,y,b,r,cs,d,a,z,fs,ex,t,l,q⟩:=p;subst ex;obtain rfl:u=YA a:=r;obtain⟨f,fd,ps,c,hm,F,v⟩:=M cs d;refine jy b t c hm l ?_;exact ade (first:=[.ref a]) b.kIn hm.kp (rN (us:=[.ref a]) (vs:=[.ref a]) F i v .nil nH b (.cons rfl .nil) q)
end
section
variable{X:Cx}{K:Yc}
theorem aH{e:Y2}{ta:TE}{f:Yn}{pos:Xr}(a:X.K=K)(b:PE X e ta)(c:W8 e f X.env (eval e X.env)=eval e X.env):PE X (.Attribute e f pos) (RZ K ta f):=by subst a;exact SD b c
theorem cF{o a:Y2}{ta tv:TE}{f:Yn}{pos b:Xr}(c:X.K=K)(ha:PE X o ta)(d:PE X a tv)(hs:aa1 a (Ya (.Attribute o f b)) pos.line X.env=pure false):PS X (.Assign [.Attribute o f b] a pos) (LZ K ta tv f):=by subst c;exact Q3 ha d hs
end
section
variable{D:p5}{σ:St}{H:Hp}{Q:VK}{K:Yc}
def UY(K:Yc)(f:Yn)(x:V)(H:Hp)(Q:VK):Prop:=∃a C b fs v,x=.ref a/\H a=Ya (.ins C b fs)/\zJ K C/\cC K C f/\fs.lookup f=Ya v/\Q v H
theorem TJ{ta:TE}{f:Yn}(h:ta σ H λx a=>UY K f x a Q):RZ K ta f σ H Q:=h
theorem QE{f:Yn}{a C b:Ye}{fs:List (Yn×V)}{v:V}(e:H a=Ya (.ins C b fs))(c:zJ K C)(n:cC K C f)(l:fs.lookup f=Ya v)(h:Q v H):UY K f (.ref a) H Q:=⟨a,C,b,fs,v,rfl,e,c,n,l,h⟩
def Wb(K:Yc)(f:Yn)(y x:V)(H:Hp)(R:Hp->Prop):Prop:=∃a C b fs,x=.ref a/\H a=Ya (.ins C b fs)/\zJ K C/\cC K C f/\fs.length<1000/\R (upd H a (.ins C b (dB f y fs)))
theorem RQ{ta tv:TE}{f:Yn}(h:tv σ H λy a=>ta σ a λx b=>Wb K f y x b λc=>D.nx σ c):LZ K ta tv f D σ H:=h
theorem Vr{f:Yn}{y:V}{a C b:Ye}{fs:List (Yn×V)}{R:Hp->Prop}(e:H a=Ya (.ins C b fs))(c:zJ K C)(n:cC K C f)(hl:fs.length<1000)(h:∀d,FC a H d->d a=Ya (.ins C b (dB f y fs))->R d):Wb K f y (.ref a) H R:=⟨a,C,b,fs,rfl,e,c,n,hl,h _ .upd ai⟩
theorem NM{a:List (Ye×Sp)}{m:Yn}{ta:TE}{t:TA}(h:ta σ H λx b=>SX a m t σ x b Q):FH a m ta t σ H Q:=h
theorem ur{c:List (Ye×Sp)}{m:Yn}{t:TA}{C a b:Ye}{sp:Sp}{fs:List (Yn×V)}(e:H a=Ya (.ins C b fs))(l:fs.lookup m=Yb)(h:t σ H λvs d=>sp (.ref a::(vs++[])) d Q E0):SX ((C,sp)::c) m t σ (.ref a) H Q:=
 ⟨(C,sp),Ys,a,b,fs,rfl,e,l,h⟩
theorem uC{a:List (Ye×Sp)}{m:Yn}{t:TA}{cs:Ye×Sp}{x:V}(h:SX a m t σ x H Q):SX (cs::a) m t σ x H Q:=by
 obtain⟨c,h1,h2⟩:=h;exact⟨c,Yp _ h1,h2⟩
def V9(C:Ye)(sp:Sp)(vs:List V)(H:Hp)(Q:VK):Prop:=∀x a,H x=Yb->H a=Yb->a≠x->sp (.ref x::(vs++[])) (upd (upd H a (.own x)) x (.ins C a [])) (λv b=>v=.non/\Q (.ref x) b) E0
theorem RC{C:Ye}{sp:Sp}{t:TA}(h:t σ H λvs a=>V9 C sp vs a Q):PH C sp [] E0 t σ H Q:=h
theorem VU{C:Ye}{sp:Sp}{vs:List V}(h:∀x a c,H x=Yb->aG H c->c x=Ya (.ins C a [])->sp (.ref x::(vs++[])) c (λv f=>v=.non/\Q (.ref x) f) E0):V9 C sp vs H Q:=by
 intro x a nx d g;refine h x a _ nx (λb o e=>?_) ai;rw[ak (ay e nx),ak (ay e d)];exact e
end
theorem VD{f b c:St->Hp->Prop}{r:VK}{σ:St}{H:Hp}(h:f σ H):p5.nx ⟨f,r,b,c⟩ σ H:=h
theorem T2{σ:St}{H:Hp}{R:Bool->Hp->Prop}(h:R true H):Q9 σ H R:=h
theorem Rm{g:TG}{c:TT}{d:TE}{D:Ye}{N:St->Hp->Prop}{x:V}{σ:St}{H:Hp}(h:g x σ H λa i=>c a i λb e=>if b=true then d a e λy f=>∃ys,f D=Ya (.lst ys)/\ys.length<sizeLine/\N a (upd f D (.lst (ys++[y])))else N a e):eZ g c d D N x σ H:=h
theorem Rr{D:p5}{σ:St}{H:Hp}{c:TT}{u:TS}(h:c σ H λb a=>if b=true then False else u D σ a):pH (Oe c Mw Gv) u D σ H:=h
theorem Ku{H b:Hp}(s:aG H b){xs:List V}{ps:List (Int×Int)}(r:i6 H xs ps):i6 b xs ps:=r.mono λa xs e=>s a _ e
theorem KS{K:Yc}{H b:Hp}{a:Ye}{xs:List V}(e:aG H b)(h:bC K H a xs):bC K b a xs:=by
 rcases h with(h|⟨o,h⟩)|h
 ·exact .inl (.inl (e _ _ h))
 ·exact .inl (.inr ⟨o,e _ _ h⟩)
 ·exact .inr h
theorem K7{H a:Hp}(s:aG H a){xs:List V}{b:List (List (Int×Int))}(r:MG H xs b):MG a xs b:=Paired.mapP r λ_ _ ⟨d,e,q⟩=>⟨d,e,cU s q⟩
structure Ck(m:List (Int×Int)):Prop where
 nd:(m.map (·.1)).Nodup
 nn:∀p∈m,0<=p.2
 rg:∀p∈m,0<=p.1/\p.1<63
def AZ:List Int:=(Y3 63).map fun(h:Nat)=>(h:Int)
theorem Bm{k:Int}:k∈AZ↔0<=k/\k<63:=by
 unfold AZ;rw[YL];constructor
 ·rintro⟨n,hn,rfl⟩;have:=WG.mp hn;omega
 ·rintro⟨h0,h1⟩;exact⟨k.toNat,WG.mpr (by omega),by omega⟩
theorem MI{α:Type}[DecidableEq α]:∀{l m:List α},l.Nodup->(∀x∈l,x∈m)->l.length<=m.length
 |[],m,_,_=>Y6 _
 |x::l,m,nd,sub=>by
  rw[tq]at nd;have b:=sub x Ys;have c:=ac1 b;have:=MI (l:=l) (m:=m.erase x) nd.2 λy a=>(abf (show y≠x from λz=>nd.1 (z▸a))).mpr (sub y (Yp _ a));have q:=c.length_eq;rw[cw]at q⊢;omega
theorem iJ{l:List Int}(nd:l.Nodup)(h:∀k∈l,0<=k/\k<63):l.length<64:=by
 have:=MI nd (m:=AZ) λk a=>Bm.mpr (h k a);unfold AZ at this;rw[Yf,KW]at this;omega
theorem Ck.keys{m:List (Int×Int)}(c:Ck m):∀k∈m.map (·.1),0<=k/\k<63:=λk a=>by
 obtain⟨p,hp,e⟩:=YL.mp a;rw[←e];exact c.rg p hp
theorem Ck.len{m:List (Int×Int)}(c:Ck m):m.length<64:=by
 have:=iJ c.nd c.keys;rw[Yf]at this;exact this
theorem Ck.nil:Ck []:=⟨acJ,(λp hp=>nomatch hp),(λp hp=>nomatch hp)⟩
theorem Ck.ct{m:List (Int×Int)}(c:Ck m)(k:Int):0<=ct m k:=by
 unfold L2.ct;cases e:qY m k with
 |none=>exact Xi _
 |some v=>exact c.nn _ (EY e)
theorem mJ{m:List (Int×Int)}{k:Int}(h:k∉m.map (·.1)):ct m k=0:=by
 unfold ct;rw[F7 h];rfl
theorem U1{m:List (Int×Int)}{k:Int}(h:ct m k≠0):k∈m.map (·.1):=by
 by_cases z:k∈m.map (·.1)
 ·exact z
 ·exact absurd (mJ z) h
theorem Ub{m:List (Int×Int)}{k:Int}(h:k∈m.map (·.1)):qY m k=Ya (ct m k):=by
 obtain⟨v,e⟩:=Od h;unfold ct;rw[e];rfl
theorem My{m:List (Int×Int)}(nd:(m.map (·.1)).Nodup){p:Int×Int}(h:p∈m):ct m p.1=p.2:=by
 unfold ct;rw[JR (k:=p.1) (v:=p.2) nd h];rfl
theorem Ck.put{m:List (Int×Int)}(c:Ck m){k v:Int}(h0:0<=k)(h1:k<63)(a:0<=v):Ck (dR m k v):=
 ⟨LJ m k v c.nd,λp hp=>by
  rcases tD m k v p hp with z|z
  ·rw[z];exact a
  ·exact c.nn p z,λp hp=>by
  rcases tD m k v p hp with z|z
  ·rw[z];exact⟨h0,h1⟩
  ·exact c.rg p z⟩
theorem uT(m:List (Int×Int))(k v j:Int):ct (dR m k v) j=if j=k then v else ct m j:=by
 unfold ct;rw[JP];split<;>rfl
structure Td(m:List (Int×Int)):Prop extends Ck m where
 ps:∀p∈m,0<p.2
theorem Td.nil:Td []:=⟨Ck.nil,(λp hp=>nomatch hp)⟩
theorem Td.pos{m:List (Int×Int)}(t:Td m){k:Int}(h:k∈m.map (·.1)):0<L2.ct m k:=by
 obtain⟨p,hp,e⟩:=YL.mp h;rw[←e,My t.nd hp];exact t.ps p hp
def MY(a:List (List (Int×Int)))(k b:Int):Prop:=(∃m∈a,ct m k=b)/\∀m∈a,ct m k<=b
def EX(a:List (List (Int×Int)))(k b:Int):Prop:=(∃m∈a,ct m k=b)/\∀m∈a,b<=ct m k
def cov(m n:List (Int×Int)):Bool:=(Y3 63).all fun(h:Nat)=>decide (ct n h<=ct m h)
theorem G4{m n:List (Int×Int)}(a:Ck m)(b:Ck n):cov m n=true↔∀k,ct n k<=ct m k:=by
 unfold cov;rw[ad2];constructor
 ·intro h k;by_cases c:0<=k/\k<63
  ·have:=of_decide_eq_true (h k.toNat (WG.mpr (by omega)));rw[show((k.toNat:Nat):Int)=k by omega]at this;exact this
  ·rw[mJ (λz=>c (b.keys k z))];exact a.ct k
 ·intro h n _;exact decide_eq_true (h n)
def eh(ps:List (Int×Int)):List (Int×Int):=ps.filter λp=>decide (0<p.2)
theorem OU{ps:List (Int×Int)}{p:Int×Int}(h:0<p.2):eh (ps++[p])=eh ps++[p]:=by
 unfold eh;rw[YS,GV,decide_eq_true h];rfl
theorem QZ{ps:List (Int×Int)}{p:Int×Int}(h:¬ 0<p.2):eh (ps++[p])=eh ps:=by
 unfold eh;rw[YS,GV,decide_eq_false h];exact gf _
theorem AS{ps:List (Int×Int)}(h:(ps.map (·.1)).Nodup):((eh ps).map (·.1)).Nodup:=by
 unfold eh;exact h.sublist ((abm).map _)
theorem OH(ps:List (Int×Int)):(eh ps).length<=ps.length:=YQ _ _
def Mn(S:List Int)(f:Int->Int):List (Int×Int):=S.map λk=>(k,f k)
theorem kR(S:List Int)(f:Int->Int):(Mn S f).map (·.1)=S:=by
 unfold Mn;rw[xw];exact abx _
theorem KC{S:List Int}{f:Int->Int}(nd:S.Nodup)(rg:∀k∈S,0<=k/\k<63):Td (eh (Mn S f)):=by
 have mem:∀p∈eh (Mn S f),0<p.2/\p.1∈S:=λp hp=>by
  have h:=Y4.mp hp;refine⟨of_decide_eq_true h.2,?_⟩;have:=YY (f:=(·.1)) h.1;rw[kR]at this;exact this
 exact⟨⟨AS (by rw[kR];exact nd),λp hp=>aeW (mem p hp).1,λp hp=>rg _ (mem p hp).2⟩,λp hp=>(mem p hp).1⟩
theorem ME{S:List Int}{f:Int->Int}(nd:S.Nodup)(k:Int)(hk:k∈S)(h0:0<=f k):ct (eh (Mn S f)) k=f k:=by
 by_cases h:0<f k
 ·have hm:(k,f k)∈eh (Mn S f):=Y4.mpr ⟨YY (f:=λk=>(k,f k)) hk,decide_eq_true h⟩;exact My (p:=(k,f k)) (AS (by rw[kR];exact nd)) hm
 ·have e:f k=0:=by omega
  rw[e];apply mJ;intro z;obtain⟨p,hp,a⟩:=YL.mp z;have q:=Y4.mp hp;obtain⟨b,_,c⟩:=YL.mp q.1;have:=of_decide_eq_true q.2;rw[←c]at a this;have a:b=k:=a;rw[a]at this;exact h this
theorem Hg{S:List Int}{f:Int->Int}{k:Int}(hk:k∉S):ct (eh (Mn S f)) k=0:=by
 apply mJ;intro z;apply hk;have:k∈(Mn S f).map (·.1):=((abm).map _).subset z;rw[kR]at this;exact this
theorem two{m n:List (Int×Int)}{k:Int}:(∃x∈[m,n],k∈x.map (·.1))↔k∈m.map (·.1)∨k∈n.map (·.1):=by simp
def rZ(m:List (Int×Int))(S:List Int):List (Int×Int):=(S.filter λk=>decide (0<ct m k)).map λk=>(k,ct m k)
theorem GP{m:List (Int×Int)}{S:List Int}{k:Int}(h:0<ct m k):rZ m (S++[k])=rZ m S++[(k,ct m k)]:=by
 unfold rZ;rw[YS,Yt,GV,decide_eq_true h];rfl
theorem Kq{m:List (Int×Int)}{S:List Int}{k:Int}(h:¬ 0<ct m k):rZ m (S++[k])=rZ m S:=by
 unfold rZ;rw[YS,Yt,GV,decide_eq_false h];exact gf _
theorem Ox(m:List (Int×Int))(S:List Int):(rZ m S).length<=S.length:=by
 unfold rZ;rw[Yf];exact YQ _ _
theorem Oc(m:List (Int×Int))(h:Int):((d3 (dI m) (YD h:bK)).getD (.int 0))=V.int (ct m h):=by
 rw[rp];unfold ct;cases qY m h<;>rfl
def uk(n c k w cs:V):List (Yn×V):=[("number",n),("caller",c),("count",k),("word",w),("causes",cs)]
theorem Of(n c k w cs:V):dB "causes" cs (dB "word" w (dB "count" k (dB "caller" c (dB "number" n []))))=uk n c k w cs:=by
 have e:∀(a b:Yn),decide (a=b)=false->a≠b:=λa b h=>of_decide_eq_false h;simp only[dB,uk,if_neg (e "number" "caller" (by decide +kernel)),if_neg (e "number" "count" (by decide +kernel)),if_neg (e "caller" "count" (by decide +kernel)),if_neg (e "number" "word" (by decide +kernel)),if_neg (e "caller" "word" (by decide +kernel)),if_neg (e "count" "word" (by decide +kernel)),if_neg (e "number" "causes" (by decide +kernel)),if_neg (e "caller" "causes" (by decide +kernel)),if_neg (e "count" "causes" (by decide +kernel)),if_neg (e "word" "causes" (by decide +kernel))]
theorem FZ{n c k w cs:V}:(uk n c k w cs).lookup ("number":Yn)=Ya n:=by kernel_rfl
theorem EU{n c k w cs:V}:(uk n c k w cs).lookup ("caller":Yn)=Ya c:=by kernel_rfl
theorem Il{n c k w cs:V}:(uk n c k w cs).lookup ("count":Yn)=Ya k:=by kernel_rfl
theorem MF{n c k w cs:V}:(uk n c k w cs).lookup ("word":Yn)=Ya w:=by kernel_rfl
theorem F3{n c k w cs:V}:(uk n c k w cs).lookup ("causes":Yn)=Ya cs:=by kernel_rfl
theorem J4{n c k w cs:V}:(uk n c k w cs).lookup ("free":Yn)=none:=by kernel_rfl
theorem BF{n c k w cs:V}:(uk n c k w cs).lookup ("in_turn":Yn)=none:=by kernel_rfl
theorem yN{n c k w cs:V}:(uk n c k w cs).lookup ("asks_place":Yn)=none:=by kernel_rfl
theorem MO{n c k w cs:V}:(uk n c k w cs).lookup ("kind":Yn)=none:=by kernel_rfl
theorem sF{n c k w cs:V}:(uk n c k w cs).lookup ("name":Yn)=none:=by kernel_rfl
theorem Mm{n c k w cs:V}:(uk n c k w cs).lookup ("rank":Yn)=none:=by kernel_rfl
theorem Ml{n c k w cs:V}:(uk n c k w cs).lookup ("told":Yn)=none:=by kernel_rfl
theorem Pn{K:Yc}{H:Hp}{Q:VK}{a:Ye}{kd:Yn}(h:kd="own"∨kd="heard"∨kd="one")(ha:bC K H a [.str "own",.str "heard",.str "one"])(q:Q (.bl false) H):OS K true (.str kd) (.ref a) H Q:=by
 refine⟨a,_,_,_,rfl,.inr ha,.cons (.str _) (.cons (.str _) (.cons (.str _) .nil)),.str kd,by kernel_rfl,?_,by show 0<=60;decide,?_⟩
 ·rcases h with rfl|rfl|rfl<;>kernel_rfl
 ·have e:(([.str "own",.str "heard",.str "one"]:List Xt).any λz=>z.eqv (.str kd))=true:=by rcases h with rfl|rfl|rfl<;>kernel_rfl
  show Q (.bl (!_)) H;rw[e];exact q
theorem UE:decide (("heard":Yn)="own")=false:=by decide +kernel
theorem Tx:decide (("one":Yn)="own")=false:=by decide +kernel
theorem UW:decide (("one":Yn)="heard")=false:=by decide +kernel
theorem Vd:decide (("own":Yn)="own")=true:=by decide +kernel
theorem Ux:decide (("heard":Yn)="heard")=true:=by decide +kernel
def JE(p:Int×Int):Xt:=.tuple [.int p.1,.int p.2]
theorem i6.dps{K:Yc}{H:Hp}:∀{xs:List V} {ps:List (Int×Int)},i6 H xs ps->CL K H xs (ps.map JE)
 |_,_,.nil=>.nil
 |_,_,.cons r t=>by
  obtain⟨a,rfl,h⟩:=r;exact .cons (.tup (bC.of h) (.cons (.int _) (.cons (.int _) .nil))) (i6.dps t)
theorem Be:∀ps:List (Int×Int),WD (ps.map JE)=true
 |[]=>rfl
 |p::ps=>by rw[Yz,Xy,Be ps];rfl
theorem GC:∀ps:List (Int×Int),X7 (ps.map JE)<=1
 |[]=>by rw[aaF,PyData.depthAll.eq_1];omega
 |p::ps=>by
  have e:X7 ((p::ps).map JE)=max (JE p).depth (X7 (ps.map JE)):=rfl;rw[e];have:=GC ps;have:(JE p).depth=1:=rfl;omega
theorem GZ{K:Yc}{H:Hp}{Q:VK}{a b:Ye}{xs:List V}{ds:List Xt}(ha:bo K H a xs)(c:CL K H xs ds)(hl:WD ds=true)(f:bo K H b [])(q:Q (.bl (!decide (ds=[]))) H):N5 K (.ref a) (.ref b) H Q:=by
 refine⟨.list ds,.list [],.inr ⟨_,_,_,rfl,rfl,ha,c⟩,.inr ⟨_,_,_,rfl,rfl,f,.nil⟩,by rw[PyData.canLay0.eq_5];exact hl,rfl,by have:(ae8 []).depth=1:=rfl;omega,?_⟩;have e:(ae8 ds).eqv (.list [])=decide (ds=[]):=by
  cases ds with
  |nil=>rfl
  |cons d ds=>rw[decide_eq_false (by intro z;cases z)];rfl
 rw[e];exact q
theorem M5{H:Hp}{Q:VK}{a b:Ye}{xs zs:List V}(h1:H a=Ya (.lst xs))(h2:H b=Ya (.lst zs))(hl:xs.length+ zs.length<=1000)(h:∀p c,H p=Yb->aG H c->c p=Ya (.lst (xs++zs))->Q (.ref p) c):TC (.ref a) (.ref b) H Q:=⟨a,b,xs,zs,rfl,rfl,h1,h2,pe (aJ hl),λp hp=>h p _ hp (aD hp) ai⟩
def JH(d:Ye)(B H:Hp):Prop:=∀b o,b≠d->B b=Ya o->H b=Ya o
theorem JH.refl(d:Ye)(B:Hp):JH d B B:=λ_ _ _ h=>h
structure iS(K:Yc)(C:Ye):Prop where
 cl:zJ K C
 n1:cC K C "number"
 n2:cC K C "caller"
 n3:cC K C "count"
 n4:cC K C "word"
 n5:cC K C "causes"
def dG(m:List (Int×V)):List (bK×V):=m.map λp=>(YD p.1,p.2)
theorem rS(m:List (Int×V)):(dG m).length=m.length:=Yf ..
def Qm:List (Int×V)->Int->Option V
 |[],_=>Yb
 |p::m,k=>if p.1=k then Ya p.2 else Qm m k
theorem FQ:∀(m:List (Int×V)) (k:Int),d3 (dG m) (YD k:bK)=Qm m k
 |[],_=>rfl
 |p::m,k=>by
  show d3 ((YD p.1,p.2)::dG m) (YD k)=_;unfold Qm;by_cases e:p.1=k
  ·rw[if_pos e,dw (by rw[e])]
  ·rw[if_neg e,dq (λz=>e (WM z)),FQ m k]
def vR:List (Int×V)->Int->V->List (Int×V)
 |[],k,v=>[(k,v)]
 |p::m,k,v=>if p.1=k then(p.1,v)::m else p::vR m k v
theorem uG:∀(m:List (Int×V)) (k:Int) (v:V) (p:Int×V),p∈vR m k v->p=(k,v)∨p∈m
 |[],k,v,p,h=>.inl (by simpa [vR]using h)
 |q::m,k,v,p,h=>by
  have a:p∈(if q.1=k then(q.1,v)::m else q::vR m k v):=h;by_cases e:q.1=k
  ·rw[if_pos e]at a;rcases Ym.mp a with z|z
   ·exact .inl (by rw[z,e])
   ·exact .inr (Yp _ z)
  ·rw[if_neg e]at a;rcases Ym.mp a with z|z
   ·exact .inr (by rw[z];exact Ys)
   ·rcases uG m k v p z with z|z
    ·exact .inl z
    ·exact .inr (Yp _ z)
theorem Lc(k:Int):∀m:List (Int×V),((dG m).any λa=>decide (a.1=(YD k:bK)))=m.any λp=>decide (p.1=k)
 |[]=>rfl
 |p::m=>by
  show(decide ((YD p.1:bK)=YD k)||(dG m).any _)=(decide (p.1=k)||m.any _);rw[Lc k m];congr 1;rw[decide_eq_decide];exact⟨λh=>WM h,λh=>congrArg _ h⟩
theorem yQ:∀(m:List (Int×V)) (k:Int) (v:V),(m.any λp=>decide (p.1=k))=false->vR m k v=m++[(k,v)]
 |[],_,_,_=>rfl
 |p::m,k,v,h=>by
  rw[X1,ac0]at h;show(if p.1=k then(p.1,v)::m else p::vR m k v)=_;rw[if_neg (of_decide_eq_false h.1),yQ m k v h.2];rfl
theorem CC:∀(m:List (Int×V)) (k:Int) (v:V),(m.map (·.1)).Nodup->(m.any λp=>decide (p.1=k))=true->vR m k v=m.map λp=>if p.1=k then(p.1,v)else p
 |[],_,_,_,h=>by cases h
 |p::m,k,v,nd,h=>by
  rw[Yz,tq]at nd;show(if p.1=k then(p.1,v)::m else p::vR m k v)=(if p.1=k then(p.1,v)else p)::m.map _;by_cases e:p.1=k
  ·rw[if_pos e,if_pos e];congr 1;have:m.map (λp=>if p.1=k then(p.1,v)else p)=m.map id:=WB λq a=>by
    rw[if_neg (λz=>nd.1 (by rw[e,←z];exact YY a))];rfl
   rw[this,abx]
  ·rw[if_neg e,if_neg e,CC m k v nd.2 (by
    rw[X1,decide_eq_false e,abF]at h;exact h)]
theorem Mu(m:List (Int×V))(k:Int)(v:V)(nd:(m.map (·.1)).Nodup):gy (dG m) (YD k:bK) (v)=dG (vR m k v):=by
 unfold gy;rw[Lc];cases e:m.any λp=>decide (p.1=k)with
 |false=>
  rw[yQ m k v e];unfold dG;rw[Yt];rfl
 |true=>
  rw[CC m k v nd e];unfold dG;rw[xw,if_pos rfl,xw];apply WB;intro p _;show(if(YD p.1:bK)=YD k then((YD p.1:bK),v)else(YD p.1,p.2))=((YD (if p.1=k then(p.1,v)else p).1:bK),(if p.1=k then(p.1,v)else p).2);by_cases z:p.1=k
  ·rw[if_pos (congrArg _ z),if_pos z]
  ·rw[if_neg (λq=>z (WM q)),if_neg z]
section
variable{X:Cx}
theorem rU{α β:Type}{R:α->β->Prop}:∀{xs:List α} {ys:List β},xs.length=ys.length->(∀(i:Nat) x y,xs[i]?=Ya x->ys[i]?=Ya y->R x y)->Paired R xs ys
 |[],[],_,_=>.nil
 |[],_::_,h,_=>by cases h
 |_::_,[],h,_=>by cases h
 |x::xs,y::ys,h,k=>.cons (k 0 x y rfl rfl) (rU (Nat.succ.inj h) λi a b ha c=>k (i+ 1) a b (by simpa using ha) (by simpa using c))
theorem D9:∀(ns:List Int) (n:Nat),n<=ns.length->preSum (λi=>ns.getD i 0) n=(ns.take n).sum:=by
 intro ns n
 induction n with
 |zero=>intro _;rfl
 |succ n ih=>
  intro h;show preSum _ n+ ns.getD n 0=_;rw[ih (by omega),acS,acw];have:n<ns.length:=h;rw[YX,Yk this];simp
theorem Ic(k:X.calm=true):dh X (.builtin "sum") (λxs H Q=>∃(p:Ye) (ns:List Int),xs=[.ref p]/\bo X.K H p (ns.map V.int)/\Q (.int ns.sum) H):=by
 intro C s σ H xs D Q I r h;obtain⟨p,ns,rfl,l,q⟩:=h;obtain⟨u,rfl,m⟩:=d9 r;cases m;obtain⟨a,f,d,E⟩:=I.list l;have hl:a.toArray.size=ns.length:=by rw[Yw,←f.length,Yf]
 have hp:p<s.heap.objs.size:=let ⟨_,z,_⟩:=d.isList;Yu z;refine call_sum_walkG (wpAny_pyIter_list d.isList ?_);refine⟨s.heap.objs.size,[s.heap.objs.size,p],[s.heap.objs.size],a.toArray.size,_,_,λi=>ns.getD i 0,rfl,abc (A:=X.A.in1) (I.ok.hd k) _ p (YE hp) a.toArray,
  ⟨⟨_,Yr _ rfl,rfl,rfl⟩,d.isList.push _⟩,λb c=>?_,λi v n=>?_,λF tk w kp=>?_⟩
 ·rw[WV];rcases Ym.mp c with z|z
  ·rw[z];exact Xv _
  ·rw[Yh.mp z];exact XJ hp
 ·have g:a[i]?=Ya v:=by simpa using n
  have c:i<ns.length:=by
   have:=(Yi.mp g).1;rw[←hl,Yw];exact this
  obtain⟨u,j,y⟩:=f.get (i:=i) (x:=V.int ns[i]) (by rw[Yv,Yk c];rfl);rw[g]at j;cases j;obtain⟨t,rfl⟩:=y;refine⟨t,?_⟩;show Xz ns[i] t=Xz (ns.getD i 0) t;rw[YX,Yk c,aca]
 ·refine⟨.int ns.sum,H,I.kept (t':=tk) λb o e=>kp b o ?_ (Yg _ e),⟨w,?_⟩,q⟩
  ·intro z;have B:b=s.heap.objs.size:=by simpa using z
   exact absurd (Yu e) (by rw[B];exact Y7 _)
  ·rw[hl,D9 ns ns.length (Yj _),YM]
abbrev Em(H:Hp):List V->List (Int×V)->Prop:=Paired λx p=>∃a,x=.ref a/\H a=Ya (.tup [.int p.1,p.2])
theorem IB{j:List (Ye×Y9)}{σ:St}{H:Hp}{s:Yl}(I:aM X j σ H s):∀{xs:List V} {us:List Yd} {ps:List (Int×V)},Em H xs ps->Vals xs us->
  ∃d:List (bK×Yd),KV (dG ps) d/\d.length=us.length/\∀(i:Nat) v,us[i]?=Ya v->∃a f k x o c,v=.ref a/\d[i]?=Ya (k,x)/\(aZ X.prog X.w).is k f=true/\s.heap.get? a=Ya o/\o.cls=.type "tuple"/\o.data=.seq #[f,x] c:=by
 intro xs us ps w
 induction w generalizing us with
 |nil=>
  intro w;cases w;exact⟨[],.nil,rfl,λi v e=>by simp at e⟩
 |@cons x p xs ps h t ih=>
  intro w;cases w with|cons r q=>
  rename_i u us;obtain⟨d,l,m,y⟩:=ih q;obtain⟨a,rfl,ha⟩:=h;obtain rfl:u=YA a:=r;obtain⟨_,b,z,o,ho,A,n,hd,_⟩:[V.int p.1,p.2].length<=sizeLine/\∃b:List Yd,Vals [V.int p.1,p.2] b/\lG s.heap a b.toArray:=I.hok a _ ha;obtain⟨F,g,rfl,B,C⟩:=zM z;obtain⟨D,rfl⟩:=B;refine⟨(YD p.1,g)::d,.cons ⟨rfl,C⟩ l,congrArg (·+ 1) m,λi v e=>?_⟩;cases i with
  |zero=>
   have E:YA a=v:=YC e;subst E;exact⟨a,_,_,g,o,n,rfl,rfl,pB X.prog X.w p.1 D,ho,A,hd⟩
  |succ i=>exact y i v e
theorem zu:∀(ps a:List (Int×V)),((a++ps).map (·.1)).Nodup->u9 (dG a) (dG ps)=dG (a++ps)
 |[],a,_=>by rw[gf];rfl
 |p::ps,a,h=>by
  have e:u9 (dG a) (dG (p::ps))=u9 (gy (dG a) (YD p.1:bK) p.2) (dG ps):=rfl;have h1:(a.map (·.1)).Nodup:=by rw[Yt]at h;exact(xi.mp h).1
  have h2:p.1∉a.map (·.1):=by
   rw[Yt,Yz]at h;intro z;exact(xi.mp h).2.2 _ z _ Ys rfl
  rw[e,Mu a p.1 p.2 h1,yQ a p.1 p.2 (by
   rw[abN];intro q b;exact λz=>h2 (by rw[←of_decide_eq_true z];exact YY b)),zu ps (a++[p]) (by rw[WZ];exact h),WZ]
  rfl
theorem ES(d:X.calm=true):dh X (.type "dict") (λxs H Q=>∃(a:Ye) (ys:List V) (ps:List (Int×V)),xs=[.ref a]/\H a=Ya (.lst ys)/\Em H ys ps/\(ps.map (·.1)).Nodup/\ps.length<=1000/\∀p,H p=Yb->Q (.ref p) (upd H p (.dK (dG ps)))):=by
 intro o s σ H xs t Q I r h;obtain⟨a,ys,ps,rfl,ha,hp,nd,hl,q⟩:=h;obtain⟨u,rfl,f⟩:=d9 r;cases f;obtain⟨z,g,n,i,b,e⟩:=I.lstM ha;obtain⟨j,k,l,m⟩:=IB I hp i;refine GX.sr (knd:=aZ X.prog X.w) (I.ok.hd d) e (by rw[←b];exact z) l m λv tk kp dd=>?_;have c:KV (dG ps) (merged [] j):=by
  have:=KV.merge k (show KV (dG []) []from .nil);rw[zu ps [] (by simpa using nd)]at this;exact this
 refine⟨.ref s.heap.objs.size,_,I.laid (t':=tk) kp (Yj _) (AJ ?_ (beq_eq_false_iff_ne.mpr (cT (YE I.big))) c dd),rfl,q _ (I.hok.fresh (Yj _))⟩;rw[rS];exact pe (aJ hl)
end
section
variable{D:p5}{σ:St}{H:Hp}{Q:VK}
theorem thaw_same{d:Ye}{H A:Hp}{u:HO}(s:JH d H A)(h:H d=Ya u):aG H (upd A d u):=λb o e=>by
 by_cases z:b=d
 ·subst z;rw[h]at e;cases e;exact ai
 ·rw[ak z];exact s b o z e
theorem TB{d:Ye}{m:List (Int×V)}{k:Int}{v:V}{P:V->Prop}(hd:Rd H d (.dK (dG m)))(hk:Qm m k=Ya v)(h:P v):∃a v,V.ref d=.ref a/\iy H a (.int k) (Ya v)/\P v:=
 ⟨d,v,rfl,.inl ⟨_,YD k,hd,rfl,by rw[FQ,hk]⟩,h⟩
theorem Se{d:Ye}{kvs:List (bK×V)}{P:Ye->Prop}(hd:Rd H d (.dK kvs))(h:P d):∃a,V.ref d=.ref a/\SY H a/\P a:=⟨d,rfl,.inl ⟨_,hd⟩,h⟩
theorem SJ{d:Ye}{m:List (Int×V)}{k:Int}{P:Option V->Prop}(hd:Rd H d (.dK (dG m)))(h:P (Qm m k)):∃a o,V.ref d=.ref a/\iy H a (.int k) o/\P o:=⟨d,_,rfl,.inl ⟨_,YD k,hd,rfl,(FQ m k).symm⟩,h⟩
theorem Ow{d:Ye}{m:List (Int×V)}{k:Int}{v:V}{P:Hp->Prop}(hd:H d=Ya (.dK (dG m)))(nd:(m.map (·.1)).Nodup)(hl:m.length<sizeLine)(h:∀b,FC d H b->b d=Ya (.dK (dG (vR m k v)))->P b):∃a c,V.ref d=.ref a/\y6 H a (.int k) v c/\P c:=
 ⟨d,_,rfl,.inl ⟨_,YD k,hd,rfl,by rw[rS];exact hl,rfl⟩,h _ .upd (by rw[ai,Mu m k v nd])⟩
end
theorem MN{n h:Int}(h0:0<=n)(h1:0<=h):(!decide (V.int (Builtin.bitAnd n (2^h.toNat))=V.int 0))=n.toNat.testBit h.toNat:=by
 have a:(0:Int)<=2^h.toNat:=Fs _;have b:((2:Int)^h.toNat).toNat=2^h.toNat:=by
  have:((2:Int)^h.toNat)=((2^h.toNat:Nat):Int):=by push_cast;rfl
  rw[this,YH]
 rw[ae9 h0 a,b];cases q:n.toNat.testBit h.toNat with
 |false=>
  rw[(GB.Hm _ _).mpr q];rfl
 |true=>
  have z:¬ (n.toNat &&& 2^h.toNat=0):=λz=>by rw[(GB.Hm _ _).mp z]at q;cases q
  have c:¬ V.int ((n.toNat &&& 2^h.toNat:Nat):Int)=V.int 0:=λe=>z (by injection e with e;omega);rw[decide_eq_false c];rfl
def xn(n:Int)(i:Nat):List Int:=((Y3 i).filter λh=>n.toNat.testBit h).map (fun(h:Nat)=>(h:Int))
theorem LI(n:Int)(i:Nat):(xn n i).length<=i:=by
 unfold xn;rw[Yf];have:=YQ (λh=>n.toNat.testBit h) (Y3 i);rw[KW]at this;exact this
theorem LA{n:Int}{i:Nat}(h:n.toNat.testBit i=true):xn n (i+ 1)=xn n i++[(i:Int)]:=by
 unfold xn;rw[aaB,YS,Yt,GV,h];rfl
theorem Pb{n:Int}{i:Nat}(h:n.toNat.testBit i=false):xn n (i+ 1)=xn n i:=by
 unfold xn;rw[aaB,YS,Yt,GV,h];exact gf _
theorem Jv{n:Int}(h0:0<=n)(h1:n<9223372036854775808):WA n<=63/\xn n (WA n)=GB.hl n:=by
 have a:n.natAbs=n.toNat:=by omega
 have l:n.toNat<2^63:=by
  have:(2:Nat)^63=9223372036854775808:=by decide
  omega
 have b:WA n<=63:=ae2 (by rw[a];exact l);refine⟨b,?_⟩;unfold xn GB.hl;rw[GB.N9 b];unfold WA;by_cases z:n=0
 ·subst z;decide
 ·have c:(n==0)=false:=by simpa using z
  rw[c,a];exact Nat.lt_log2_self
theorem x4:∀{l m:List Nat},l.Pairwise (·<·)->m.Pairwise (·<·)->(∀x,x∈l↔x∈m)->l=m
 |[],[],_,_,_=>rfl
 |[],y::m,_,_,h=>absurd ((h y).mpr Ys) (by simp)
 |x::l,[],_,_,h=>absurd ((h x).mp Ys) (by simp)
 |x::l,y::m,hl,hm,h=>by
  rw[aaI]at hl hm;have e:x=y:=by
   rcases Ym.mp ((h x).mp Ys)with z|z
   ·exact z
   ·rcases Ym.mp ((h y).mpr Ys)with w|w
    ·exact w.symm
    ·have:=hm.1 x z;have:=hl.1 y w;omega
  subst e;rw[x4 hl.2 hm.2 λz=>?_];constructor
  ·intro a;rcases Ym.mp ((h z).mp (Yp _ a))with w|w
   ·subst w;exact absurd (hl.1 _ a) (Y7 _)
   ·exact w
  ·intro a;rcases Ym.mp ((h z).mpr (Yp _ a))with w|w
   ·subst w;exact absurd (hm.1 _ a) (Y7 _)
   ·exact w
theorem CG{α:Type}{P:List α->Prop}(h0:P [])(h1:∀l a,P l->P (l++[a]))(l:List α):P l:=by
 have b:∀r:List α,P r.reverse:=by
  intro r
  induction r with
  |nil=>exact h0
  |cons a r ih=>rw[adM];exact h1 _ _ ih
 have:=b l.reverse;rw[List.reverse_reverse]at this;exact this
theorem SQ:∀(l:List Nat) (b:Nat),l.Pairwise (·<·)->(∀x∈l,x<b)->(l.map λh=>2^h).sum<2^b:=by
 refine CG ?_ ?_
 ·intro b _ _;exact Nat.two_pow_pos b
 ·intro l h a b hp c;rw[abe]at hp;have h1:=a h hp.1 λx d=>hp.2.2 x d h (by simp);have h2:h<b:=c h (by simp);rw[Yt,acw];have h3:2^(h+ 1)<=2^b:=acZ (by decide) h2;rw[Nat.pow_succ]at h3;simp only[Yz,aaF,abJ,aeX];omega
theorem Oz:∀(l:List Nat),l.Pairwise (·<·)->(l.map λh=>2^h).sum=GB.Fh l:=by
 refine CG ?_ ?_
 ·intro _;rfl
 ·intro l h a hp;rw[abe]at hp;have h1:=SQ l h hp.1 λx b=>hp.2.2 x b h (by simp);have e:=a hp.1;rw[Yt,acw];unfold GB.Fh at e⊢;rw[abU,←e];simp only[Yz,aaF,abJ,aeX,Xm,List.foldl_nil];have:=Nat.two_pow_add_eq_or_of_lt h1 1;rw[Nat.mul_one]at this;rw[Nat.add_zero,Nat.add_comm,this,Nat.or_comm]
structure Hs(hs:List Int):Prop where
 up:hs.Pairwise (·<·)
 rg:∀h∈hs,0<=h/\h<63
theorem Hs.nat{hs:List Int}(c:Hs hs):∃l:List Nat,hs=l.map (fun(h:Nat)=>(h:Int))/\l.Pairwise (·<·)/\∀x∈l,x<63:=by
 refine⟨hs.map XE,?_,?_,?_⟩
 ·rw[xw]
  conv=>lhs;rw[←abx hs]
  refine WB λh d=>?_;have:=(c.rg h d).1;show h=((h.toNat:Nat):Int);omega
 ·rw[abS];refine c.up.imp_of_mem fun{a b} ha f h=>?_;have:=(c.rg a ha).1;omega
 ·intro x e;obtain⟨h,d,rfl⟩:=YL.mp e;have:=c.rg h d;omega
theorem Dj:∀l:List Nat,(l.map fun(h:Nat)=>(h:Int)).sum=((l.sum:Nat):Int)
 |[]=>rfl
 |x::l=>by rw[Yz,abJ,abJ,Dj l];omega
theorem Hs.set{hs:List Int}(c:Hs hs):0<=(hs.map λh=>1*(2:Int)^h.toNat).sum/\(hs.map λh=>1*(2:Int)^h.toNat).sum<9223372036854775808/\GB.hl (hs.map λh=>1*(2:Int)^h.toNat).sum=hs:=by
 obtain⟨l,rfl,up,rg⟩:=c.nat
 have e:((l.map fun(h:Nat)=>(h:Int)).map λh=>1*(2:Int)^h.toNat).sum=((GB.Fh l:Nat):Int):=by
  rw[←Oz l up,←Dj,xw,xw];congr 1;refine WB λh _=>?_;show 1*(2:Int)^((h:Int)).toNat=((2^h:Nat):Int);rw[YH,adS]
  push_cast
  rfl
 have lt:GB.Fh l<2^63:=GB.NV rg;have a:(2:Nat)^63=9223372036854775808:=by decide
 rw[e];refine⟨by omega,by omega,?_⟩;unfold GB.hl;rw[YH];congr 1;refine x4 (GB.jI _) up λx=>?_;rw[GB.DV,GB.Cg];constructor
 ·rintro⟨_,h⟩;exact of_decide_eq_true h
 ·intro h;exact⟨rg x h,decide_eq_true h⟩
structure FU(K:Yc)(C:Ye):Prop where
 cl:zJ K C
 n1:cC K C "learnt"
theorem HM{d:V}:([(("learnt":Yn),d)]:List (Yn×V)).lookup ("learnt":Yn)=Ya d:=by kernel_rfl
theorem JL{d:V}:([(("learnt":Yn),d)]:List (Yn×V)).lookup ("learn":Yn)=none:=by kernel_rfl
theorem KI{d:V}:([(("learnt":Yn),d)]:List (Yn×V)).lookup ("floor":Yn)=none:=by kernel_rfl
theorem J0{d:V}:([(("learnt":Yn),d)]:List (Yn×V)).lookup ("reach":Yn)=none:=by kernel_rfl
theorem NG{d:V}:([(("learnt":Yn),d)]:List (Yn×V)).lookup ("sure":Yn)=none:=by kernel_rfl
theorem LU{H:Hp}{Q:VK}{a:Ye}{kvs:List (bK×V)}(hd:Rd H a (.dK kvs))(h:∀p b,H p=Yb->aG H b->b p=Ya (.dK kvs)->Q (.ref p) b):Lq [.ref a] H Q:=⟨a,_,rfl,hd,λp hp=>h p _ hp (aD hp) ai⟩
abbrev qo(H:Hp):List (Int×V)->List (Int×List (Int×Int))->Prop:=Paired λq e=>q.1=e.1/\∃r,q.2=.ref r/\H r=Ya (.dK (dI e.2))
structure kQ(K:Yc)(mg:Yn->Option Yd)(H:Hp)(p d:Ye)(rs:List (Int×V))(tb:List (Int×List (Int×Int))):Prop where
 ob:∃C dx,mg "Known"=Ya (.ref C)/\H p=Ya (.ins C dx [("learnt",.ref d)])
 dc:H d=Ya (.dK (dG rs))
 rw:qo H rs tb
 hs:Hs (tb.map (·.1))
 td:∀e∈tb,Td e.2
 ap:∀q∈rs,q.2≠V.ref d
theorem qo.keys{H:Hp}:∀{rs:List (Int×V)} {tb:List (Int×List (Int×Int))},qo H rs tb->rs.map (·.1)=tb.map (·.1)
 |_,_,.nil=>rfl
 |_,_,.cons h t=>by rw[Yz,Yz,h.1,qo.keys t]
def tbl:List (Int×List (Int×Int))->Int->Option (List (Int×Int))
 |[],_=>Yb
 |e::tb,h=>if e.1=h then Ya e.2 else tbl tb h
theorem qo.lk{H:Hp}:∀{rs:List (Int×V)} {tb:List (Int×List (Int×Int))} (h:Int),qo H rs tb->(Qm rs h=Yb/\tbl tb h=Yb)∨∃r m,Qm rs h=Ya (.ref r)/\tbl tb h=Ya m/\H r=Ya (.dK (dI m))
 |_,_,h,.nil=>.inl ⟨rfl,rfl⟩
 |q::rs,e::tb,h,.cons ⟨e1,r,e2,e3⟩ t=>by
  unfold Qm tbl;by_cases z:e.1=h
  ·rw[if_pos (e1.trans z),if_pos z];exact .inr ⟨r,e.2,by rw[e2],rfl,e3⟩
  ·rw[if_neg (λw=>z (e1.symm.trans w)),if_neg z];exact qo.lk h t
theorem Ha:∀{tb:List (Int×List (Int×Int))} {h:Int} {m:List (Int×Int)},tbl tb h=Ya m->(h,m)∈tb
 |e::tb,h,m,q=>by
  unfold tbl at q;by_cases z:e.1=h
  ·rw[if_pos z]at q;cases q;rw[←z];exact Ys
  ·rw[if_neg z]at q;exact Yp _ (Ha q)
theorem AB:∀{tb:List (Int×List (Int×Int))} {h:Int},(tbl tb h).isSome=true↔h∈tb.map (·.1)
 |[],h=>by simp[tbl]
 |e::tb,h=>by
  unfold tbl;rw[Yz,Ym];by_cases z:e.1=h
  ·rw[if_pos z];exact⟨λ_=>.inl z.symm,λ_=>rfl⟩
  ·rw[if_neg z,AB];exact⟨.inr,λq=>q.resolve_left λw=>z w.symm⟩
def sN(tb:List (Int×List (Int×Int)))(h:Int)(m:List (Int×Int)):List (Int×List (Int×Int)):=tb.map λe=>if e.1=h then(e.1,m)else e
theorem uQ(tb:List (Int×List (Int×Int)))(h:Int)(m:List (Int×Int)):(sN tb h m).map (·.1)=tb.map (·.1):=by
 unfold sN;rw[xw];refine WB λe _=>?_;show(if e.1=h then(e.1,m)else e).1=e.1;split<;>rfl
theorem Cu(h:Int)(m:List (Int×Int))(j:Int):∀tb:List (Int×List (Int×Int)),tbl (sN tb h m) j=if j=h/\(tbl tb h).isSome then Ya m else tbl tb j
 |[]=>by simp[sN,tbl]
 |e::tb=>by
  have a:=Cu h m j tb;have b:sN (e::tb) h m=(if e.1=h then(e.1,m)else e)::sN tb h m:=rfl;rw[b];by_cases z:e.1=h
  ·rw[if_pos z];unfold tbl;rw[if_pos z];by_cases w:e.1=j
   ·rw[if_pos w,if_pos ⟨w.symm.trans z,rfl⟩]
   ·rw[if_neg w,if_neg w,a,if_neg (λq=>w (z.trans q.1.symm)),if_neg (λq=>w (z.trans q.1.symm))]
  ·rw[if_neg z];unfold tbl;rw[if_neg z];by_cases w:e.1=j
   ·rw[if_pos w,if_pos w,if_neg (λq=>z (w.trans q.1))]
   ·rw[if_neg w,if_neg w,a]
def Sk(d:Ye)(o:Y9)(kvs:List (bK×V)):It:=
 ⟨λi H=>i<kvs.length/\H d=Ya (.frz o (.dK kvs)),λi H x a=>a=H/\∃k,kvs[i]?=Ya (k,x),λi H=>kvs.length<=i/\H d=Ya (.frz o (.dK kvs))⟩
theorem Ig{P:YO}{w:YW}{K:Yc}{L:Y2}{d it:Ye}{o:Y9}{kvs:List (bK×V)}{vs:List (bK×Yd)}{ep:Nat}(g:KV kvs vs)(B:∀h:YK,h.get? d=Ya o->h.DictAt (aZ P w) d vs ep):
  Turn P w K L (Sk d o kvs) [it] it (λi h=>h.IsValIter it d i vs.length ep) where
 mem:=by simp
 obj:=λi h st b a=>by
  have e:b=it:=by simpa using a
  subst e;obtain⟨o,e,c,dd⟩:=st;exact⟨o,e,λv z=>by rw[dd]at z;cases z⟩
 keep:=λi h l st k=>let ⟨o,e,c,dd⟩:=st;⟨o,k it (by simp) o e,c,dd⟩
 item:=by
  intro X n hw p C i D s σ H E I m st q;subst n hw p;obtain⟨F,hd⟩:=q;have f:s.heap.get? d=Ya o:=(show s.heap.get? d=Ya o/\_ from I.hok d _ hd).1;have G:kvs[i]?=Ya kvs[i]:=Yk F;obtain⟨u,M,N⟩:=g.get (k:=kvs[i].1) (v:=kvs[i].2) G;obtain⟨r,t,O,x,y,A⟩:=m it (by simp);refine wpAny_pyNext_values_item st (B _ f) M λl j Q=>?_;have R:aM X D σ H {s with heap:=l}:=I.turned (t':=s.toks) (λb o a e=>(Q.2 b a).trans e) r t x y A;obtain⟨T,e,c,dd⟩:=id j;exact⟨u,rfl,Dh (s:={s with heap:=l}) e c dd (by decide) ⟨kvs[i].2,H,R,N,⟨rfl,kvs[i].1,G⟩,j,λb a=>(m b a).1⟩⟩
 done:=by
  intro X n hw p C i D s σ H E I m st q;subst n hw p;obtain⟨F,hd⟩:=q;have f:s.heap.get? d=Ya o:=(show s.heap.get? d=Ya o/\_ from I.hok d _ hd).1;obtain⟨r,t,O,x,y,A⟩:=m it (by simp);have J:kvs.length=vs.length:=KV.length g;exact wpAny_pyNext_values_end (I.ok.hd C) st (B _ f) (Xe (by omega)) λl S=>⟨rfl,I.turned (t':=s.toks) (λb o a e=>S b o a e) r t x y A⟩
 self:=λ_ _ _ _ _ st h=>ac2 st h
section
variable{X:Cx}
def Pz(td:TE):TI:=λσ H R=>td σ H λx b=>∃d a,x=.ref d/\b d=Ya (.dK a)/\∀o,R (Sk d o a) (upd b d (.frz o (.dK a)))
theorem ON{y e:Y2}{r t:Xr}{td:TE}(A:PE X e td)(f:W8 e "values" X.env (eval e X.env)=eval e X.env:=by rfl)(g:(r.endLine==t.line)=true:=by rfl):
  PI X y (.Call (.Attribute e "values" r) [] [] t) (Pz td):=by
 intro l s σ H R I h;refine XZ f g (cz (A l s σ H _ I h) λv a B=>?_);obtain⟨x,m,n,C,d,c,ex,hd,q⟩:=B;subst ex;obtain rfl:v=YA d:=C;obtain⟨z,u,k,i,dd⟩:=G6 n.hok hd;obtain⟨h1,h2⟩:=uS (T:="dict") n (x:=.ref d) rfl (.inr (.inr (.inl ⟨rfl,.inl ⟨c,hd⟩⟩)));refine⟨"dict","dict.values",WI,WX,aaK,h1,h2,WN rfl (aav ?_)⟩;refine aak WX h1 aaR (aaL _) (meets_dict_values (aZ X.prog X.w) d u) ⟨⟨k,dd⟩,?_⟩;have j:(a.heap.push {cls:=.type "dict_values",data:=.fields #[.ref d]}).DictOf (aZ X.prog X.w) d k:=dd.push _;obtain⟨o,D,E,ho,rr⟩:=id j;have w:∀h:YK,h.get? d=Ya o->h.DictAt (aZ X.prog X.w) d k E:=λh F=>⟨o,D,F,rr⟩;have G:aM X l σ m {a with heap:=a.heap.push {cls:=.type "dict_values",data:=.fields #[.ref d]}}:=n.kept (t':=a.toks) λb ob e=>Yg _ e;have J:(a.heap.push {cls:=.type "dict_values",data:=.fields #[.ref d]}).IsValuesView a.heap.objs.size d:=⟨_,Yr _ rfl,rfl,rfl⟩;show Yo _ _ (pyIter (.ref a.heap.objs.size)) _ _ _;refine wpAny_pyIter_values J (w _ ho) ?_;have p:aM X l σ (upd m d (.frz o (.dK c))) {a with heap:=a.heap.push {cls:=.type "dict_values",data:=.fields #[.ref d]}}:=
  G.write (t':=a.toks) (x:=d) (e:=d) (by rw[hd];trivial) (.inl rfl) (λ_ _ _ e=>e) ⟨o,ho⟩ ⟨ho,z,u,k,i,j⟩
 refine⟨_,[_],_,Sk d o c,upd m d (.frz o (.dK c)),rfl,p.kept (t':=a.toks) λb ob e=>Yg _ e,Ig i w,⟨_,Yr _ rfl,rfl,rfl⟩,λb K=>?_,q o⟩;have L:b=(a.heap.push {cls:=.type "dict_values",data:=.fields #[.ref d]}).objs.size:=by simpa using K
 subst L;exact p.fpOk (Yj _) (p.hok.fresh (Yj _))
end
theorem IL{d:Ye}{o:Y9}{kvs:List (bK×V)}{g:TG}{j:TT}{l:TE}{σ:St}{H:Hp}{D:Ye}{Qe:Hp->Prop}(a:Nat->St->Hp->Prop)(h0:a 0 σ H)(hl:∀i σ H,i<=kvs.length->a i σ H->H d=Ya (.frz o (.dK kvs)))
  (hs:∀i k v σ H,kvs[i]?=Ya (k,v)->a i σ H->eZ g j l D (a (i+ 1)) v σ H) (hd:∀σ H,a kvs.length σ H->Qe H):
  ∃W:Nat->Nat->St->Hp->Prop,(∃m,W 0 m σ H)/\∀i m h b,W i m h b->((Sk d o kvs).stop i b/\Qe b)∨((Sk d o kvs).go i b/\∃N:St->Hp->Prop,(∀n r,N n r->∃s,s<m/\W (i+ 1) s n r)/\
   ∀x c,(Sk d o kvs).yld i b x c->eZ g j l D N x h c):=by
 refine⟨λi m σ H=>m=kvs.length-i/\i<=kvs.length/\a i σ H,⟨kvs.length,by simp,Y6 _,h0⟩,?_⟩;rintro i m σ H ⟨rfl,t,p⟩;have q:=hl i σ H t p;by_cases f:i<kvs.length
 ·refine .inr ⟨⟨f,q⟩,a (i+ 1),λh b u=>⟨kvs.length-(i+ 1),by omega,rfl,f,u⟩,λx b y=>?_⟩;obtain⟨rfl,k,w⟩:=y;exact hs i k x σ _ w p
 ·have e:i=kvs.length:=by omega
  subst e;exact .inl ⟨⟨Yj _,q⟩,hd σ H p⟩
def VM(J:Ye->Y9->List (bK×V)->It)(x:V)(H:Hp)(R:It->Hp->Prop):Prop:=∃d a,x=.ref d/\H d=Ya (.dK a)/\∀o,R (J d o a) (upd H d (.frz o (.dK a)))
theorem Ny{td:TE}{σ:St}{H:Hp}{R:It->Hp->Prop}(h:td σ H λx a=>VM Sk x a R):Pz td σ H R:=h
theorem Ul{J:Ye->Y9->List (bK×V)->It}{H:Hp}{d:Ye}{kvs:List (bK×V)}{R:It->Hp->Prop}(hd:H d=Ya (.dK kvs))(h:∀o A,A d=Ya (.frz o (.dK kvs))->JH d H A->R (J d o kvs) A):VM J (.ref d) H R:=
 ⟨d,kvs,rfl,hd,λo=>h o _ ai λb u n e=>by rw[ak n];exact e⟩
def V5(K:Yc)(x:V)(H:Hp)(R:It->Hp->Prop):Prop:=∃a,x=.ref a/\(((∃b,bo K H a b)/\R (Ko K a) H)∨((∃b,bC K H a b)/\R (LK K a) H))
theorem Sv{K:Yc}{tl:TE}{σ:St}{H:Hp}{R:It->Hp->Prop}(h:tl σ H λx a=>V5 K x a R):Q2 K tl σ H R:=h
theorem Mr{K:Yc}{a:Ye}{xs:List V}{g:TG}{tb:TS}{D:p5}{σ:St}{H:Hp}(e:bo K H a xs∨bC K H a xs)(c:Nat->St->Hp->Prop)(h0:c 0 σ H)(hl:∀i d b,i<=xs.length->c i d b->aG H b)
  (hs:∀i x σ H,xs[i]?=Ya x->c i σ H->g x σ H λf h=>tb {D with nx:=c (i+ 1),ct:=c (i+ 1),bk:=D.nx} f h) (hd:∀σ H,c xs.length σ H->D.nx σ H):
  V5 K (.ref a) H λJ l=>∃W:Nat->Nat->St->Hp->Prop,(∃m,W 0 m σ l)/\∀i m σ H,W i m σ H->
   (J.stop i H/\D.nx σ H)∨(J.go i H/\∃N:St->Hp->Prop,(∀d b,N d b->∃k,k<m/\W (i+ 1) k d b)/\∀x b,J.yld i H x b->g x σ b λf h=>tb {D with nx:=N,ct:=N,bk:=D.nx} f h):=by
 rcases e with e|e
 ·exact⟨a,rfl,.inl ⟨⟨_,e⟩,lu c h0 (λi d b j p=>(hl i d b j p).seq e) hs hd⟩⟩
 ·exact⟨a,rfl,.inr ⟨⟨_,e⟩,Bq c h0 (λi d b j p=>Ta.same (hl i d b j p) _ _ e) hs hd⟩⟩
theorem MX{t:TS}{D:p5}{σ:St}{H:Hp}{d:Ye}{kvs:List (bK×V)}(hd:H d=Ya (.dK kvs))(h:t {D with nx:=λb a=>(∃o,a d=Ya (.frz o (.dK kvs)))/\D.nx b (upd a d (.dK kvs)),rt:=λv a=>(∃o,a d=Ya (.frz o (.dK kvs)))/\D.rt v (upd a d (.dK kvs))} σ H):Px t D σ H:=⟨d,kvs,hd,h⟩
section
variable{X:Cx}
end
section
variable{X:Cx}
def GO(v d:Ye):HO:=.ext λh=>h.IsValuesView v d
theorem E8:Vj X "dict.values" (λx vs H Q=>∃d kvs,x=.ref d/\vs=[]/\H d=Ya (.dK kvs)/\∀v,H v=Yb->Q (.ref v) (upd H v (GO v d))):=by
 intro m s σ H x n v p Q I a c h;obtain⟨d,kvs,rfl,rfl,hd,q⟩:=h;cases a;cases c;obtain⟨z,f,vs,g,dd⟩:=G6 I.hok hd;obtain⟨h1,h2⟩:=uS (T:="dict") I (x:=.ref d) rfl (.inr (.inr (.inl ⟨rfl,.inl ⟨kvs,hd⟩⟩)));refine aak WX h1 aaR (aaL _) (meets_dict_values (aZ X.prog X.w) d f) ⟨⟨vs,dd⟩,?_⟩;refine⟨.ref s.heap.objs.size,_,I.laid (o:=GO s.heap.objs.size d) (t':=s.toks) (λb ob e=>Yg _ e) (Yj _) ⟨⟨_,Yr _ rfl,rfl,rfl⟩,⟨_,Yr _ rfl⟩,λh1 h2 ⟨o,i,j,l⟩ k=>⟨o,k o i,j,l⟩⟩,rfl,q _ (I.hok.fresh (Yj _))⟩
theorem EM(C:X.calm=true):dh X (.type "list") (λxs H Q=>∃(v d:Ye) (kvs:List (bK×V)),xs=[.ref v]/\H v=Ya (GO v d)/\Rd H d (.dK kvs)/\kvs.length<=1000/\∀l,H l=Yb->Q (.ref l) (upd H l (.lst (kvs.map (·.2))))):=by
 intro K s σ H xs L Q I r h;obtain⟨v,d,kvs,rfl,D,hd,b,q⟩:=h;obtain⟨u,rfl,E⟩:=d9 r;cases E;obtain⟨z,M,n,f,dd⟩:=iB I.hok hd;obtain⟨F,t⟩:=dd.dictAt;have hl:n.length=kvs.length:=(KV.length f).symm;have w:s.heap.IsValuesView v d:=(I.hok v _ D).1;refine acd (A:=X.A) (PySem.W.kdl_values (knd:=aZ X.prog X.w) (kvs:=n) (ep:=F)) (I.ok.hd C) ⟨w,t⟩ (by rw[hl];exact pe (aJ (by omega))) λN tk g c y G a=>?_;refine⟨.ref s.heap.objs.size,_,I.laid (o:=.lst (kvs.map (·.2))) (t':=tk) y (Yj _) ⟨by rw[Yf];exact pe (aJ b),g.toList,c,rU ?_ λi x u j B=>?_,G⟩,rfl,q _ (I.hok.fresh (Yj _))⟩
 ·have e:g.toList.length=n.length:=by rw[ir];exact a.1
  rw[Yf,e,hl]
 ·rw[pk]at B;obtain⟨k,y⟩:=a.2 i u B;rw[Yv]at j;cases e:kvs[i]? with
  |none=>rw[e]at j;cases j
  |some p=>
   rw[e]at j;cases j;obtain⟨O,m,J⟩:=f.get (k:=p.1) (v:=p.2) e;rw[y]at m;cases m;exact J
theorem Uc{K:Yc}{H:Hp}{a:Ye}{kvs:List (bK×V)}{P:Prop}(hd:H a=Ya (.dK kvs))(h:P):R0 K "dict" (.ref a) H/\P:=⟨.inr (.inr (.inl ⟨rfl,.inl ⟨kvs,hd⟩⟩)),h⟩
end
section
variable{X:Cx}
def Uq:R2:=λx y H Q=>∃(a c:Ye) (m:List (Int×Int)),x=.ref a/\y=.ref c/\Rd H a (.dK (dI m))/\Rd H c (.dK [])/\Q (.bl (!m.isEmpty)) H
theorem Qx(e:X.A.units<Wy):rA X (compareOp .NotEq) Uq:=by
 intro B s σ H x y v u Q I f g h;obtain⟨a,c,m,rfl,rfl,ha,i,q⟩:=h;cases f;cases g;obtain⟨_,j,k,b,l⟩:=iB I.hok ha;obtain⟨_,n,o,d,t⟩:=iB I.hok (show Rd H c (.dK (dI []))from i);have w:k.length=m.length:=by rw[←b.length,oz]
 have A:o.length=0:=by rw[←d.length,oz];rfl
 refine aeA j n l t e (r:=true) (λz=>AI d b (λp hp=>?_)) ⟨.bl (!m.isEmpty),H,I,?_,q⟩
 ·have:m.length=0:=by omega
  rw[WY.mp this]at hp;cases hp
 ·rw[w,A];cases m<;>rfl
end
theorem FL{d:Ye}{o:Y9}{kvs:List (bK×V)}{g:TG}{n:TT}{r:TE}{σ:St}{H:Hp}{D:Ye}{Qe:Hp->Prop}(b:Nat->St->Hp->Prop)(h0:b 0 σ H)(hl:∀i σ H,i<=kvs.length->b i σ H->H d=Ya (.frz o (.dK kvs)))
  (hs:∀i k v t σ H j,kvs[i]?=Ya (k,v)->b i σ H->H t=Yb->aG H j->j t=Ya (.tup [kV k,v])->eZ g n r D (b (i+ 1)) (.ref t) σ j) (hd:∀σ H,b kvs.length σ H->Qe H):
  ∃W:Nat->Nat->St->Hp->Prop,(∃m,W 0 m σ H)/\∀i m l c,W i m l c->((SN d o kvs).stop i c/\Qe c)∨((SN d o kvs).go i c/\∃N:St->Hp->Prop,(∀s u,N s u->∃w,w<m/\W (i+ 1) w s u)/\
   ∀x f,(SN d o kvs).yld i c x f->eZ g n r D N x l f):=by
 refine⟨λi m σ H=>m=kvs.length-i/\i<=kvs.length/\b i σ H,⟨kvs.length,by simp,Y6 _,h0⟩,?_⟩;rintro i m σ H ⟨rfl,A,p⟩;have q:=hl i σ H A p;by_cases h:i<kvs.length
 ·refine .inr ⟨⟨h,q⟩,b (i+ 1),λl c B=>⟨kvs.length-(i+ 1),by omega,rfl,h,B⟩,λx c y=>?_⟩;obtain⟨k,v,a,C,z,rfl,rfl⟩:=y;exact hs i k v a σ _ _ C p z (aD z) ai
 ·have e:i=kvs.length:=by omega
  subst e;exact .inl ⟨⟨Yj _,q⟩,hd σ H p⟩
theorem Ka{td:TE}{σ:St}{H:Hp}{R:It->Hp->Prop}(h:td σ H λx a=>VM SN x a R):LY td σ H R:=h
theorem Ia{d:V}:([(("learnt":Yn),d)]:List (Yn×V)).lookup ("listed":Yn)=none:=by kernel_rfl
theorem Km{d:V}:([(("learnt":Yn),d)]:List (Yn×V)).lookup ("merge":Yn)=none:=by kernel_rfl
theorem Vn{H:Hp}{Q:VK}{a c:Ye}{m:List (Int×Int)}(ha:Rd H a (.dK (dI m)))(b:Rd H c (.dK []))(h:Q (.bl (!m.isEmpty)) H):Uq (.ref a) (.ref c) H Q:=⟨a,c,m,rfl,rfl,ha,b,h⟩
end L2
namespace GX
open PySem
section
variable{prog:YO}{w:YW}{A:nh}{E:Yd->Yl->Prop}{s:Yl}{K:Type}[DecidableEq K]{knd:abu prog w K}
end
end GX
namespace L2
open PySem PySem.Spec PyProof.Rows
section
variable{X:Cx}
end
end L2
namespace GX
open PySem PyProof.Rows
end GX
namespace L2
open PySem PySem.Spec PyProof.Rows
theorem dD{α β:Type}{F:α->β->Prop}:∀{l:List α} {m:List β} {i:Nat} {a:α},Paired F l m->l[i]?=Ya a->∃b,m[i]?=Ya b/\F a b
 |_,_,_,_,.nil,e=>by simp at e
 |_,_,0,_,.cons h _,e=>by simp at e;subst e;exact⟨_,rfl,h⟩
 |_,_,i+ 1,x,.cons _ t,e=>by
  obtain⟨b,h1,h2⟩:=dD (i:=i) t (by simpa using e);exact⟨b,by simpa using h1,h2⟩
section
variable{X:Cx}
end
end L2
namespace HT
open PySem PyProof.Rows
section
open PySem.SeqAt
open PySem.AutoSeq1 (wpAny_loadPart')
open PySem.MeetsSeq PySem.MeetsSeq2 PySem.MeetsSeq3
end
section
variable{prog:YO}{w:YW}{A:nh}{E:Yd->Yl->Prop}{s:Yl}
end
end HT
namespace L2
open PySem PySem.Spec PyProof.Rows
section
variable{X:Cx}
end
section
variable{me hd ba ye vo re ag v:V}
end
end L2
namespace GX
open PySem PyProof.Rows
variable{prog:YO}{w:YW}{A:nh}{n:Nat}{b:Ye}
section
variable{R:aaj->Yl->Prop}{I d:Ye}{fp wr:List Ye}{P:Nat->Yd->Prop}{St:Nat->YK->Prop}{K:Type}[DecidableEq K]{knd:abu prog w K}
def iW(b:List (List K×Ye×Yd)):List (List K×Ye×Yd):=b.foldl (λa p=>storedH a p.1 p.2.1 p.2.2) []
theorem Bh(a:List (List K×Ye×Yd))(p:List K×Ye×Yd):iW (a++[p])=storedH (iW a) p.1 p.2.1 p.2.2:=by
 unfold iW;rw[abU];rfl
theorem C6{xs:List (List K×Ye×Yd)}{k:List K}{v:Yd}{x:List K×Ye×Yd}(h:x∈storedH xs k b v):(∃y∈xs,y.1=x.1/\y.2.1=x.2.1)∨x=(k,b,v):=by
 unfold storedH at h;by_cases z:(atKey xs k).isSome=true
 ·rw[if_pos z]at h;obtain⟨y,a,e⟩:=YL.mp h;refine .inl ⟨y,a,?_⟩;rw[←e];unfold putAt;split<;>exact⟨rfl,rfl⟩
 ·rw[if_neg z]at h;rcases YG.mp h with q|q
  ·exact .inl ⟨x,q,rfl,rfl⟩
  ·exact .inr (Yh.mp q)
theorem Dm(xs:List (List K×Ye×Yd))(k:List K)(b:Ye)(v:Yd):(storedH xs k b v).length<=xs.length+ 1:=by
 unfold storedH;split
 ·rw[Yf];omega
 ·rw[Yq];exact Yj _
theorem ou{G:List K->Ye->Prop}:∀(b a:List (List K×Ye×Yd)),(∀x∈a,G x.1 x.2.1)->(∀p∈b,G p.1 p.2.1)->(∀x∈b.foldl (λa p=>storedH a p.1 p.2.1 p.2.2) a,G x.1 x.2.1)/\(b.foldl (λa p=>storedH a p.1 p.2.1 p.2.2) a).length<=a.length+ b.length
 |[],a,ha,_=>⟨ha,Yj _⟩
 |p::b,a,ha,h=>by
  have hp:=h p Ys;have:=ou (G:=G) b (storedH a p.1 p.2.1 p.2.2) (λx c=>by
   rcases C6 c with⟨y,d,f,g⟩|e
   ·have:=ha y d;rw[f,g]at this;exact this
   ·rw[e];exact hp) (λq i=>h q (Yp _ i))
  refine⟨this.1,?_⟩;have l:=Dm a p.1 p.2.1 p.2.2;have j:=this.2;simp only[Xm,cw];omega
theorem Cy{h h':YK}{k:List K}(x:IsTupleKey knd h k b)(e:∀o,h.get? b=Ya o->h'.get? b=Ya o):IsTupleKey knd h' k b:=by
 obtain⟨o,a,n,ho,r⟩:=x;exact⟨o,a,n,e o ho,r⟩
def DT(knd:abu prog w K)(h:YK)(d:Ye)(xs:List (List K×Ye×Yd)):Prop:=∃o a b,h.get? d=Ya o/\o.ExactDict/\o.data=.dict a b/\a.toList=xs.map (entryOfKey (tupleKind knd))/\(xs.map (·.1)).Nodup
theorem HB(W:acu prog w A.in1 I fp wr n P St)(nd:d∉fp)(h₀:YK)(f:List (List K×Ye×Yd))(hn:f.length=n)(hz:n<=sizeLine)(T:(tupleKind knd).room A.in1)
  (O:∀p∈f,IsTupleKey knd h₀ p.1 p.2.1/\p.2.1≠d/\p.2.1∉wr)
  (U:∀i v,P i v->∃a k b x o c,v=.ref a/\f[i]?=Ya (k,b,x)/\h₀.get? a=Ya o/\o.cls=.type "tuple"/\o.data=.seq #[.ref b,x] c/\a≠d/\a∉wr):
  ∀(k i:Nat) (s:Yl) (t:aay),n=i+ k->St i s.heap->(∀b o,b∉wr->b≠d->h₀.get? b=Ya o->s.heap.get? b=Ya o)->DT knd s.heap d (iW (f.take i))->
  (∀h' tk,(∀b o,b∉wr->b≠d->h₀.get? b=Ya o->h'.get? b=Ya o)->DT knd h' d (iW f)->R (.ok (.ret .none)) {s with heap:=h',toks:=tk})->
  sq (model prog w) A (.builtin "dict.update.loop" ⟨[.ref d,.ref I,.int i t,.none],[]⟩) R s:=by
 have V:d∉wr:=λz=>nd (W.sub _ z);have l:∀(h:YK) (j:Nat),(∀b o,b∉wr->b≠d->h₀.get? b=Ya o->h.get? b=Ya o)->∀x∈iW (f.take j),IsTupleKey knd h x.1 x.2.1:=λh j kp=>(ou (G:=λk b=>IsTupleKey knd h k b) (f.take j) [] (λx y=>(nomatch y)) (λp hp=>by
  obtain⟨C,E,F⟩:=O p (aar hp);exact Cy C λo e=>kp _ o F E e)).1
 intro k i s t X st kp dd fin;refine Lb (D:=λi h=>(∀b o,b∉wr->b≠d->h₀.get? b=Ya o->h.get? b=Ya o)/\DT knd h d (iW (f.take i))) W nd ?_ ?_ k i s t X st ⟨kp,dd⟩ λh tk q=>fin h tk q.1 ?_
 ·rintro i h h' ⟨kp,od,m,u,ho,r⟩ q;exact⟨λb o B g e=>q b o B (kp b o B g e),od,m,u,q d od V ho,r⟩
 ·rintro i v s pv ⟨kp,od,m,u,ho,H,J,L,M⟩;obtain⟨a,k,b,x,o,c,rfl,y,ha,Y,hd,Z,N⟩:=U i v pv;obtain⟨C,E,F⟩:=O _ (Yy y);have len:=(ou (G:=λ_ _=>True) (f.take i) [] (λ_ _=>trivial) λ_ _=>trivial).2;refine⟨a,o,.ref b,x,c,rfl,kp a o N Z ha,Y,hd,λQ q=>wpAny_dictSet_heap (knd:=tupleKind knd) T (Cy C λo e=>kp _ o F E e) ⟨od,m,u,ho,H,J,L,l s.heap i kp,M⟩ (λh2 d2 S=>q h2 ⟨λb o B g e=>(S.2 b g).trans (kp b o B g e),?_⟩ S.2 _) (cb len (by rw[Y8,W0];omega))⟩;obtain⟨od,m,u,ho,H,J,L,_,M⟩:=d2;rw[acS,y,Option.toList_some,Bh];exact⟨od,m,u,ho,H,J,L,M⟩
 ·have z:=q.2;rwa [←hn,YM]at z
end
section
variable{E:Yd->Yl->Prop}{s:Yl}{K:Type}[DecidableEq K]{knd:abu prog w K}
theorem za{l:Ye}{vs:List Yd}{j:List (List K×Ye×Yd)}{Q:Yd->Yl->Prop}(L:A.handled=Yb)(O:(tupleKind knd).room A.in1.in1)(hl:s.heap.get? l=Ya {cls:=.type "list",dict:=Yb,data:=.seq vs.toArray n,slots:=#[]})(hz:vs.length<=sizeLine)(t:j.length=vs.length)(P:∀p∈j,IsTupleKey knd s.heap p.1 p.2.1)(R:∀(i:Nat) v,vs[i]?=Ya v->∃a k b x o c,v=.ref a/\j[i]?=Ya (k,b,x)/\s.heap.get? a=Ya o/\o.cls=.type "tuple"/\o.data=.seq #[.ref b,x] c)(h:∀h' tk,(∀b o,s.heap.get? b=Ya o->h'.get? b=Ya o)->DT knd h' s.heap.objs.size (iW j)->Q (.ref s.heap.objs.size) {s with heap:=h',toks:=tk}):
  Yo (model prog w) A (call (.type "dict") [.ref l]) Q E s:=by
 have f:(HI s.heap).get? l=Ya {cls:=.type "list",dict:=Yb,data:=.seq vs.toArray n,slots:=#[]}:=Yg _ hl;refine wR (T:="list") ⟨_,f,rfl⟩ (by decide) (Gi L f λh1 Dd D=>⟨rfl,?_⟩);have u:=D l _ f;have F:l<h1.objs.size:=Yu u;have ld:l<s.heap.objs.size:=Yu hl;have M:h1.IsList l vs.toArray:=⟨_,u,rfl,n,rfl⟩;have N:DT knd h1 s.heap.objs.size []:=by
  obtain⟨od,B,C,ho,S,U,V,_,X⟩:=Heap.DictOfH.new (knd:=tupleKind knd) s.heap;exact⟨od,B,C,D _ _ ho,S,U,V,X⟩
 have y:s.heap.objs.size<h1.objs.size:=by
  obtain⟨od,B,C,ho,r⟩:=N;exact Yu ho
 have Y:∀{b:Ye},b<h1.objs.size->b≠h1.objs.size:=λz=>YE z;have G:∀{b:Ye},b<s.heap.objs.size->b∉[h1.objs.size]:=fun{b} Z z=>by
  have g:b=h1.objs.size:=by simpa using z
  exact absurd (ab1 Z y) (by rw[g];exact Y7 _)
 refine wpAny_pyIter_list (s:={s with heap:=h1,toks:=Dd}) M ?_;have W:=abc (prog:=prog) (w:=w) (A:=A.in1.in1) L h1.objs.size l (Y F) vs.toArray;refine HB (A:=A.in1) (knd:=knd) W (d:=s.heap.objs.size) ?_ s.heap j (by rw[t,Yw]) (by rw[Yw];exact hz) O (λp hp=>?_) (λi v hv=>?_) vs.toArray.size 0 _ 0 (by omega)
  ⟨⟨_,Yr _ rfl,rfl,rfl⟩,M.push _⟩ (λb o _ nb e=>Yg _ (D b o (Yg _ e))) ?_ λh2 H k2 d2=>?_
 ·intro z;have g:s.heap.objs.size=h1.objs.size∨s.heap.objs.size=l:=by simpa using z
  rcases g with g|g
  ·exact absurd y (by rw[g];exact Y7 _)
  ·exact absurd ld (by rw[g];exact Y7 _)
 ·have q:=P p hp;obtain⟨o,I,m,ho,r⟩:=id q;exact⟨q,YE (Yu ho),G (Yu ho)⟩
 ·obtain⟨a,k,b,x,o,c,e1,e2,J,e5,e6⟩:=R i v (by simpa using hv);exact⟨a,k,b,x,o,c,e1,e2,J,e5,e6,YE (Yu J),G (Yu J)⟩
 ·obtain⟨od,B,C,ho,r⟩:=N;exact⟨od,B,C,Yg _ ho,r⟩
 ·exact⟨rfl,h h2 H (λb o e=>k2 b o (G (Yu e)) (YE (Yu e)) e) d2⟩
end
end GX
namespace L2
open PySem PySem.Spec PyProof.Rows
variable{X:Cx}{Za:List (Ye×Y9)}{σ:St}{H:Hp}{s:Yl}{l f a:Ye}{xs:List V}{its vs:List Yd}{ks:List (List Int)}{k n:Nat}{fd:Yx}{ps:List Yn}{sp:Sp}{Q E:Yd->Yl->Prop}{A:nh}{te td:TE}{prog:YO}{w:YW}{P:ab6->Yl->Prop}{p:Array Nat}
abbrev Cd(H:Hp):List V->List (List bK×V)->Prop:=Paired λx q=>∃a b,x=.ref a/\H a=Ya (.tup [.ref b,q.2])/\H b=Ya (.tup (q.1.map kV))
def i7(ps:List (List bK×V)):List (List bK×V):=ps.foldl (λa p=>gy a p.1 p.2) []
section
theorem HC(I:aM X Za σ H s):∀{xs:List V} {us:List Yd} {ps:List (List bK×V)},Cd H xs ps->Vals xs us->
  ∃d:List (List bK×Ye×Yd),Paired (fun(p:List bK×V) (q:List bK×Ye×Yd)=>p.1=q.1/\H q.2.1=Ya (.tup (p.1.map kV))/\RelV p.2 q.2.2) ps d/\d.length=us.length/\∀(i:Nat) v,us[i]?=Ya v->∃a k b x o c,v=.ref a/\d[i]?=Ya (k,b,x)/\s.heap.get? a=Ya o/\o.cls=.type "tuple"/\o.data=.seq #[.ref b,x] c:=by
 intro xs us ps w
 induction w generalizing us with
 |nil=>
  intro w;cases w;exact⟨[],.nil,rfl,λi v e=>by simp at e⟩
 |@cons x p xs ps h t ih=>
  intro w;cases w with|cons r q=>
  rename_i u us;obtain⟨d,g,j,l⟩:=ih q;obtain⟨a,b,rfl,ha,m⟩:=h;obtain rfl:u=YA a:=r;obtain⟨_,its,y,o,ho,z,n,hd,_⟩:[V.ref b,p.2].length<=sizeLine/\∃its:List Yd,Vals [V.ref b,p.2] its/\lG s.heap a its.toArray:=I.hok a _ ha;obtain⟨A,f,rfl,B,C⟩:=zM y;obtain rfl:A=YA b:=B;refine⟨(p.1,b,f)::d,.cons ⟨rfl,m,C⟩ g,congrArg (·+ 1) j,λi v e=>?_⟩;cases i with
  |zero=>
   have D:YA a=v:=YC e;subst D;exact⟨a,p.1,b,f,o,n,rfl,rfl,ho,z,hd⟩
  |succ i=>exact l i v e
theorem Pd:∀{ps:List (List bK×V)} {b:List (List bK×Ye×Yd)},Paired (fun(p:List bK×V) (q:List bK×Ye×Yd)=>p.1=q.1/\H q.2.1=Ya (.tup (p.1.map kV))/\RelV p.2 q.2.2) ps b->∀{a:List (List bK×V)} {xs:List (List bK×Ye×Yd)},KT H a xs->
  KT H (ps.foldl (λa p=>gy a p.1 p.2) a) (b.foldl (λa p=>storedH a p.1 p.2.1 p.2.2) xs):=by
 intro ps b w
 induction w with
 |nil=>exact λh=>h
 |@cons p q ps b w t ih=>
  obtain⟨c,d,e⟩:=w;intro a xs h;rw[Xm,Xm];refine ih ?_;rw[←c];exact h.put p.1 d e
theorem EC(ps:List (List bK×V)):∀a:List (List bK×V),(ps.foldl (λa p=>gy a p.1 p.2) a).length<=a.length+ ps.length:=by
 induction ps with
 |nil=>intro a;exact Yj _
 |cons p ps ih=>
  intro a;have h1:=ih (gy a p.1 p.2);have h2:=oa a p.1 p.2;simp only[Xm,cw];omega
theorem vk(k:X.calm=true)(v:X.A.units+ 2<Wy):dh X (.type "dict") (λxs H Q=>∃(a:Ye) (ys:List V) (ps:List (List bK×V)),xs=[.ref a]/\H a=Ya (.lst ys)/\Cd H ys ps/\ps.length<=1000/\∀p,H p=Yb->Q (.ref p) (upd H p (.dT (i7 ps)))):=by
 intro w s σ H xs O Q I r h;obtain⟨a,ys,ps,rfl,ha,hp,hl,q⟩:=h;obtain⟨u,rfl,y⟩:=d9 r;cases y;obtain⟨z,A,n,B,d,e⟩:=I.lstM ha;obtain⟨g,i,C,D⟩:=HC I hp B;have E:∀p∈g,IsTupleKey (aZ X.prog X.w) s.heap p.1 p.2.1:=by
  have all:∀{l:List (List bK×V)} {m:List (List bK×Ye×Yd)},Paired (fun(p:List bK×V) (q:List bK×Ye×Yd)=>p.1=q.1/\H q.2.1=Ya (.tup (p.1.map kV))/\RelV p.2 q.2.2) l m->∀x∈m,IsTupleKey (aZ X.prog X.w) s.heap x.1 x.2.1:=by
   intro l m q
   induction q with
   |nil=>intro x f;exact nomatch f
   |@cons a b as bs h t ih=>
    intro x f;rcases Ym.mp f with z|z
    ·rw[z,←h.1];exact key_of I.hok h.2.1
    ·exact ih x z
  exact all i
 refine GX.za (knd:=aZ X.prog X.w) (I.ok.hd k) ?_ e (by rw[←d];exact z) C E D λF tk kp dd=>?_
 ·exact v
 have P:aM X w σ H {s with heap:=F,toks:=tk}:=I.kept kp;obtain⟨o,G,J,ho,K,L,M,N⟩:=dd;refine⟨.ref s.heap.objs.size,_,I.laid (o:=.dT (i7 ps)) (t':=tk) kp (Yj _) ⟨?_,beq_eq_false_iff_ne.mpr (cT (YE I.big)),GX.iW g,?_,o,G,J,ho,K,L,M,N⟩,rfl,q _ (I.hok.fresh (Yj _))⟩
 ·have:=EC ps [];rw[W0]at this;exact pe (aJ (by unfold i7;omega))
 ·refine(Pd i .nil).keeps λc R j=>?_;rw[ak (ay j (I.hok.fresh (Yj _)))];exact j
end
abbrev Cx.one(X:Cx):Cx:={X with A:=X.A.in1,xe:=λ_ _=>False}
section
theorem aM.one(I:aM X Za σ H s):aM X.one Za σ H s:=
 ⟨⟨I.ok.mod,I.ok.kind,I.ok.glob,I.ok.blt,I.ok.above,I.ok.inj,I.ok.has,I.ok.cab,I.ok.hd,I.ok.frames,I.ok.stk,I.ok.exf,I.ok.bs,I.ok.bsz,I.ok.noex,I.ok.exfs,I.ok.funs,I.ok.frf⟩,I.os,I.bare,I.base,I.loc,I.cell,I.free,I.freeC,I.pin,I.hok,I.len⟩
theorem aM.back(ok:X.Ok)(I:aM X.one Za σ H s):aM X Za σ H s:=
 ⟨ok,I.os,I.bare,I.base,I.loc,I.cell,I.free,I.freeC,I.pin,I.hok,I.len⟩
end
theorem Gh:∀a:List Int,HT.d6 a a=false
 |[]=>rfl
 |x::a=>by rw[HT.lV,if_pos rfl];exact Gh a
theorem CI:∀{a b:List Int},HT.d6 a b=true->HT.d6 b a=false
 |[],[],h=>by cases h
 |[],_::_,_=>rfl
 |_::_,[],h=>by cases h
 |x::a,y::b,h=>by
  rw[HT.lV]at h⊢;by_cases z:x=y
  ·rw[if_pos z]at h;rw[if_pos z.symm];exact CI h
  ·rw[if_neg z]at h;rw[if_neg (λw=>z w.symm)];have h:=of_decide_eq_true h;exact decide_eq_false (by omega)
theorem Gy:∀{a b c:List Int},HT.d6 a b=true->HT.d6 c b=false->HT.d6 a c=true
 |[],[],_,h,_=>by cases h
 |_::_,[],_,h,_=>by cases h
 |[],_::_,[],_,h=>by cases h
 |[],_::_,_::_,_,_=>rfl
 |x::a,y::b,[],h,h2=>by cases h2
 |x::a,y::b,z::c,h,h2=>by
  rw[HT.lV]at h h2⊢;by_cases e:x=y
  ·rw[if_pos e]at h;by_cases d:z=y
   ·rw[if_pos d]at h2;rw[if_pos (e.trans d.symm)];exact Gy h h2
   ·rw[if_neg d]at h2;have h2:=of_decide_eq_false h2;rw[if_neg (λw=>d (w.symm.trans e))];exact decide_eq_true (by omega)
  ·rw[if_neg e]at h;have h:=of_decide_eq_true h;by_cases d:z=y
   ·rw[if_neg (λw=>e (w.trans d))];exact decide_eq_true (by omega)
   ·rw[if_neg d]at h2;have h2:=of_decide_eq_false h2;rw[if_neg (by omega)];exact decide_eq_true (by omega)
section
theorem Qw(a v d:Yd):argsOk "min" ⟨[a],[(xu "key",v),(xu "default",d)]⟩:=by unfold argsOk;kernel_rfl
theorem QA(d:Yd)(hh:X.A.handled=Yb)(hu:X.A.units+ 2<Wy)(F:aF X.prog X.w X.K X.mg X.base bx k f fd ps sp)(hr:cR k X.A.in1)(B:Binds X.K fd ps [])(M:aM X Za σ H s)(rv:Vals xs its)(lk:xs.length=ks.length)(lst:∀s g,aM X Za σ g s->aG H g->s.heap.IsList l its.toArray)(KY:∀(i:Nat) x k S (Q':VK),xs[i]?=Ya x->ks[i]?=Ya k->aG H S->(∀C t,aG S C->bC X.K C t (k.map V.int)->Q' (.ref t) C)->sp [x] S Q' E0)(hD:xs=[]->∀s',aM X Za σ H s'->Q d s')(hR:∀(i:Nat) v T s' g,its[i]?=Ya v->ks[i]?=Ya T->(∀(j':Nat) D,ks[j']?=Ya D->HT.d6 D T=false/\(j'<i->HT.d6 T D=true))->aM X Za σ g s'->aG H g->Q v s'):
  Yo (model X.prog X.w) X.A (call (.builtin "min") [.ref l] [(xu "key",.ref f),(xu "default",d)]) Q E s:=by
 have lx:=rv.length;have fp:∀x g,x=s.heap.objs.size∨x=s.heap.objs.size+ 1->g x=Yb->tR X Za g x:=λx g w n=>M.fpOk (by rcases w with rfl|rfl<;>omega) n;refine GX.zC GX.zw GX.B5 acA XC (ko:=Ya (.ref f)) (d:=Ya d) (vs:=its) hh rfl (Qw _ _ _) (lst s H M (.refl _)) (bt:=λi j=>HT.d6 (ks.getD i []) (ks.getD j []))
  (G:=λL s'=>∃g,aM X Za σ g s'/\(aG H g/\(L=[]->g=H))/\(∀x,x=s.heap.objs.size∨x=s.heap.objs.size+ 1->g x=Yb)/\∀p∈L,∃t k,p.2=.ref t/\ks[p.1]?=Ya k/\bC X.K g t (k.map V.int))
  ⟨λi=>Gh _,λi j=>CI,λa b c=>Gy,?_,?_,?_,?_,?_,?_⟩ ?_ ?_ ?_
 ·exact λp q L s' ⟨g,a,b,c,e⟩=>⟨g,a,⟨b.1,λz=>nomatch z⟩,c,λq U=>e q (Yp _ U)⟩
 ·exact λp L s' ⟨g,a,b,c,e⟩=>⟨g,a,⟨b.1,λz=>nomatch z⟩,c,λq U=>e q (Yh.mp U▸Ys)⟩
 ·rintro x L s' h tk w ⟨g,a,b,c,e⟩ kp;obtain⟨f0,f1,f2,f3,f4,f5⟩:=fp x g w (c x w);exact⟨g,a.turned (it:=x) kp f0 f1 f3 f4 f5,b,c,e⟩
 ·exact λL s' ⟨g,a,b,_⟩=>lst s' g a b.1
 ·rintro L s' j v a c m ⟨g,I,⟨N,_⟩,nn,J⟩ O hS hI;obtain⟨oI,gI,cI,dI⟩:=id hI;have w:j<xs.length:=by have:=(Yi.mp O).1;omega
  obtain⟨v',W,rx⟩:=rv.get (Yk w);cases O.symm.trans W;have hk:ks[j]?=Ya (ks[j]'(lk▸w)):=Yk _;have Y:∀b∈[s.heap.objs.size+ 1,s.heap.objs.size],b=s.heap.objs.size∨b=s.heap.objs.size+ 1:=λb B=>by simp at B;exact B.symm
  have IP:=I.pinned (fp:=[s.heap.objs.size+ 1,s.heap.objs.size]) (λb B=>fp b g (Y b B) (nn b (Y b B))) λb B=>by
   rcases Y b B with rfl|rfl
   ·exact⟨oI,gI,λz e=>by rw[dI]at e;cases e⟩
   ·exact⟨_,hS,λz e=>nomatch e⟩
  refine wpAny_mono (rN (X:=X.one) (vs:=[xs[j]]) (us:=[v]) (Q:=λz C=>∃t,z=.ref t/\aG g C/\bC X.K C t ((ks[j]'(lk▸w)).map V.int)) (E:=E0) (Zl:=[]) (ds:=[]) F hr B .nil (λ_ _ _ _ _ _ _ q=>q.elim) IP.one (.cons rx .nil) (by
   rw[gf];exact KY j _ _ g _ (Yk w) hk N λC t P h4=>⟨t,rfl,P,h4⟩)) ?_ λ_ _ q=>q.elim
  rintro u s2 ⟨z,C,R,rz,t,rfl,P,ht⟩;cases rz;have R:=aM.back M.ok R;have at_:∀b o,b∈[s.heap.objs.size+ 1,s.heap.objs.size]->s'.heap.get? b=Ya o->s2.heap.get? b=Ya o/\C b=none:=λb o B e=>
   let r:=R.pin (b,o) (YF _ (YF _ (hG B e)))
   ⟨r.1,r.2.1⟩
  have aS:=at_ _ _ (by simp) hS;have aI:=at_ _ _ (by simp) gI;refine⟨⟨C,R.unpinned,⟨N.trans P,λz=>nomatch z⟩,λx w=>?_,λp hp=>?_⟩,aS.1,oI,aI.1,cI,dI⟩
  ·rcases w with rfl|rfl
   ·exact aI.2
   ·exact aS.2
  ·rcases Ym.mp hp with rfl|hp
   ·exact⟨t,_,rfl,hk,ht⟩
   ·obtain⟨t',D,K,Z,e3⟩:=J p hp;exact⟨t',D,K,Z,Ta.same P _ _ e3⟩
 ·rintro i j y y' s' ⟨g,I,_,nn,J⟩;obtain⟨t1,k1,rfl,K,h1⟩:=J (j,y) (by simp);obtain⟨t2,k2,rfl,Z,h2⟩:=J (i,y') (by simp);obtain⟨ia,ra,pa,_⟩:=I.tuple h1;obtain⟨ib,rb,pb,_⟩:=I.tuple h2;refine HT.Fd (A:=X.A.in1) pa pb (ji ra) (ji rb) (by show X.A.units+ 1<Wy;omega) ⟨?_,rfl⟩;simp[YX,K,Z]
 ·exact λh kp=>⟨H,M.kept (t':=s.toks) kp,⟨.refl _,λ_=>rfl⟩,λx w=>M.hok.fresh (by rcases w with rfl|rfl<;>omega),by simp⟩
 ·exact λe=>⟨d,rfl,λs' ⟨g,a,b,_⟩=>hD (Wz (by rw[lx,e];rfl)) s' (b.2 rfl▸a)⟩
 ·rintro i v y s' O ft ⟨g,I,⟨N,_⟩,nn,J⟩;obtain⟨t,D,_,K,_⟩:=J (i,y) (by simp);refine hR i v D s' g O K (λj k2 hj=>?_) I N;have b:=ft j (by have:=(Yi.mp hj).1;omega);simpa [YX,K,hj]using b
end
theorem cR.one(r:cR (k+ 1) A):cR k A.in1:=⟨r.hd,by have:=r.dp;show A.depth+ 3*k+ 5<abq;omega,by have:=r.un;show A.units+ 1+ 16*k+ 200<Wy;omega⟩
def RV(K:Yc)(sp:Sp)(x y:V)(b:Hp)(Q:VK):Prop:=∃(l:Ye) (a:List V) (c:List (List Int)),x=.ref l/\bo K b l a/\a.length=c.length/\(∀x∈a,∃p,x=V.ref p)/\
 (∀(i:Nat) (x:V) (k:List Int) (d:Hp) (h:VK),a[i]?=Ya x->c[i]?=Ya k->aG b d->(∀e t,aG d e->bC K e t (k.map V.int)->h (.ref t) e)->sp [x] d h E0)/\(a=[]->Q y b)/\
 ∀(i:Nat) (v:V) (f:List Int) (j:Hp),a[i]?=Ya v->c[i]?=Ya f->(∀(m:Nat) g,c[m]?=Ya g->HT.d6 g f=false/\(m<i->HT.d6 f g=true))->aG b j->Q v j
def Qa(K:Yc)(sp:Sp)(a td:TE):TE:=λσ H Q=>a σ H λx b=>td σ b λy c=>RV K sp x y c Q
theorem HA:∀{xs:List V} {a b:List Yd},Vals xs a->Vals xs b->(∀x∈xs,∃p,x=V.ref p)->a=b:=by
 intro xs a b w
 induction w generalizing b with
 |nil=>
  intro w _;cases w;rfl
 |cons r1 t1 ih=>
  intro w h;cases w with|cons r2 t2=>
  obtain⟨p,rfl⟩:=h _ Ys;rw[ih t2 λy c=>h y (Yp _ c)];cases r1;cases r2;rfl
section
theorem Ie{K:Yc}{e dflt:Y2}{p U pos V W:Xr}{d:Yn}(Y:X.K=K)(Z:X.calm=true)(hu:X.A.units+ 2<Wy)(ha:PA X [e] (yn te Bd))(hd:PE X dflt td)(hg:Gl X "min")(hm:X.mg "min"=Yb)(G:aF X.prog X.w X.K X.mg X.base bx k f fd ps sp)(n:X.mg d=Ya (.ref f))(o:Binds X.K fd ps [])(r:Gl X d)(hr:cR (k+ 1) X.A)(t:(d==("__debug__":Yn))=false:=by decide)(h1:backTo pos (starEach [e] X.env)=(false,eval e X.env)::backTo pos (starEach [] X.env):=by rfl)(h2:(backTo pos (starEach [e] X.env)).any (·.1)=false:=by rfl):
  PE X (.Call (.Name "min" p) [e] [⟨Ya "key",.Name d U,V⟩,⟨Ya "default",dflt,W⟩] pos) (Qa K sp te td):=by
 subst Y;intro M s σ H Q I h;refine WT (pR I hg hm aam ?_);refine abi ?_ h1 h2;refine cz (ha pos M s σ H (λg z=>match g with|[x]=>td σ z λy j=>RV X.K sp x y j Q|_=>False) I h) λus s1 A=>?_;obtain⟨g,z,N,r1,O⟩:=A;obtain⟨x,rfl⟩:∃x,g=[x]:=by
  match g,O with
  |[x],_=>exact⟨x,rfl⟩
 obtain⟨u,rfl,rx⟩:=d9 r1;refine aa4 (my N r n ?_ t);refine aa4 (cz (hd M s1 σ z _ N O) λw s2 A=>?_);obtain⟨y,j,B,ry,l,P,ks,ex,hl,lk,C,KY,q0,q⟩:=A;subst ex;cases rx;refine ac3 ?_;obtain⟨ab,m,pl,hz⟩:=B.list hl;have lx:=m.length;show Yo _ _ (call (.builtin "min") [YA l] [(xu "key",.ref f),(xu "default",w)]) _ _ _;refine QA (H:=j) w (B.ok.hd Z) hu G (cR.one hr) o B m lk (λs' D a E=>?_) KY (λe s' a=>⟨y,j,a,ry,q0 e⟩) (λi v kb s' D R F b a E=>?_)
 ·obtain⟨S,J,L,_⟩:=a.list (E.seq hl);rw[HA m J C];exact L.isList
 ·have T:i<P.length:=by rw[lx];exact(Yi.mp R).1
  obtain⟨u',c,ru⟩:=m.get (Yk T);rw[R]at c;cases c;exact⟨P[i],D,a,ru,q i _ kb D (Yk T) F b E⟩
end
theorem RS{K:Yc}{Q:VK}(h:te σ H λx a=>td σ a λy b=>RV K sp x y b Q):Qa K sp te td σ H Q:=h
section
theorem Ii{a:List (Yn×Yd)}(hl:s.heap.IsList l vs.toArray)(h64:vs.length<64)(i:argsOk "sorted" ⟨[.ref l],a⟩)(j:∀D,argsOk "list.sort" ⟨[D],a⟩)(h:∀h1:YK,GX.sE s.heap h1->h1.get? (s.heap.objs.size+ 1)=Ya (seqObj "list" vs.toArray 0)->Yo (model prog w) A.in1.in1 (vc.«list.sort» ⟨[.ref (s.heap.objs.size+ 1)],a⟩) (λf d=>f=.done (.ret .none)/\Q (.ref (s.heap.objs.size+ 1)) d) E {s with heap:=h1}):
  Yo (model prog w) A (call (.builtin "sorted") [.ref l] a) Q E s:=by
 have z:vs.length<=sizeLine:=by rw[WU];omega
 refine GX.uR i (collect_list hl (wpAny_bind (wpAny_newList ?_ z)) z);have g:GX.sE s.heap ((s.heap.push (seqObj "list" #[] 0)).update s.heap.objs.size (WC (·++vs.toArray))):=λb o q=>(oh _ _ (XA (Yu q))).trans (Yg _ q);have sz:((s.heap.push (seqObj "list" #[] 0)).update s.heap.objs.size (WC (·++vs.toArray))).objs.size=s.heap.objs.size+ 1:=(Heap.size_after_update ..).trans (WV ..);generalize (s.heap.push (seqObj "list" #[] 0)).update s.heap.objs.size (WC (·++vs.toArray))=h0 at g sz⊢;have c:(h0.push (seqObj "list" vs.toArray 0)).get? (s.heap.objs.size+ 1)=Ya (seqObj "list" vs.toArray 0):=adK sz.symm rfl;have:=h _ (λb o q=>Yg _ (g b o q)) c;show Yo _ _ (holding [.ref h0.objs.size] (call (.builtin "list.sort") [.ref h0.objs.size] a) >>= λ_=>ret (.ref h0.objs.size)) _ _ {s with heap:=h0.push (seqObj "list" vs.toArray 0)};rw[sz];refine wpAny_bind (wpAny_holding (wpAny_call_entry_kw aez ⟨_,c,rfl⟩ ael (wpAny_mono this (λf d q=>?_) λ_ _ e=>e) (j _)));exact⟨_,q.1,wpAny_pure ⟨_,rfl,q.2⟩⟩
theorem Og{k:Array Yd->Nat->Yd->abL ab6}(ho:s.heap.get? a=Ya (seqObj "list" vs.toArray n))(h64:vs.length<64)(h:∀(h2:YK) (e:Nat),(∀b o,b≠a->s.heap.get? b=Ya o->h2.get? b=Ya o)->h2.get? a=Ya (seqObj "list" #[] e)->Yo (model prog w) A (k vs.toArray e (.ref h2.objs.size)) P E {s with heap:=h2.push (seqObj "list" #[] 0)}):
  Yo (model prog w) A (afa (.ref a) >>= λits=>acn (.ref a) (λ_=>#[]) >>= λ_=>seqEpoch a >>= λe=>newTuple its.toList >>= λt=>newList [] >>= λks=>holding [t,ks] (k its e ks)) P E s:=by
 have z:vs.toArray.size<=sizeLine:=by rw[Yw,WU];omega
 obtain⟨e,c⟩:∃e,(s.heap.update a (WC λ_=>(#[]:Array Yd))).get? a=Ya (seqObj "list" #[] e):=⟨_,aeo ho λ_=>#[]⟩;refine wpAny_bind (listItems_at ho rfl (wpAny_bind (listUpdate_at ho rfl (wpAny_bind (seqEpoch_at c rfl (wpAny_bind (wpAny_newTuple (wpAny_bind (wpAny_newList (wpAny_holding (h _ e (λb o d q=>?_) (Yg _ c))) (Y6 _))) ?_)))) z (Y6 _))))
 ·exact Yg _ ((oh _ _ (cT d)).trans q)
 ·simpa using z
theorem FK{e:Nat}{out:Array Yd}{tl:Nat->abL ab6}(ho:s.heap.get? a=Ya (seqObj "list" #[] e))(hz:out.size<=sizeLine)(h:∀(h1:YK) (c:Nat),(∀b o,b≠a->s.heap.get? b=Ya o->h1.get? b=Ya o)->h1.get? a=Ya (seqObj "list" out c)->Yo (model prog w) A (tl e) P E {s with heap:=h1}):
  Yo (model prog w) A (seqEpoch a >>= λx=>acn (.ref a) (λ_=>out) >>= λ_=>tl x) P E s:=
 wpAny_bind (seqEpoch_at ho rfl (wpAny_bind (listUpdate_at ho rfl (h _ _ (λb o d q=>(oh _ _ (cT d)).trans q) (aeo ho λ_=>out)) (Y6 _) (aah hz))))
end
def Lv{α:Type}(n:Nat)(P:α->Prop):W3 α->Prop
 | .ret a=>P a
 | .ask i j k=>i<n/\j<n/\∀b,Lv n P (k b)
theorem qe{α β:Type}{n:Nat}{P:α->Prop}{c:β->Prop}{f:α->W3 β}(d:∀a,P a->Lv n c (f a)):∀t:W3 α,Lv n P t->Lv n c (t.bind f)
 | .ret a,h=>d a h
 | .ask i j k,h=>⟨h.1,h.2.1,λb=>qe d (k b) (h.2.2 b)⟩
def lM(n:Nat)(p:Array Nat):Prop:=p.toList.Perm (Y3 n)
theorem c6(h:lM n p)(hn:0<n)(i:Nat):p.getD i 0<n:=by
 by_cases z:i<p.size
 ·have e:p.getD i 0=p[i]:=by simp[afl,z]
  rw[e];have:p[i]∈p.toList:=Array.getElem_mem_toList z;exact WG.mp (h.mem_iff.mp this)
 ·have e:p.getD i 0=0:=by simp[afl,z]
  rw[e];exact hn
theorem kM(h:lM n p)(i j:Nat):lM n (Xo p i j):=(abK.mp (mirror_perm p i j _)).trans h
theorem K0(h:lM n p)(i j:Nat):lM n (bubble p i j):=(abK.mp (bubble_perm p i j)).trans h
section
variable(hn:0<n)
include hn
theorem ET{p:Array Nat}(h:lM n p):∀f m:Nat,Lv n (λ_=>True) (aep p f m)
 |0,m=>trivial
 |f+ 1,m=>by
  refine⟨c6 h hn _,c6 h hn _,λb=>?_⟩;cases b
  ·exact ET h f (m+ 1)
  ·exact trivial
theorem wJ:∀(f:Nat) {p:Array Nat} (m q:Nat),lM n p->Lv n (λr=>lM n r.1) (ad3 f p m q)
 |0,p,m,q,h=>h
 |f+ 1,p,m,q,h=>by
  refine⟨c6 h hn _,c6 h hn _,λb=>?_⟩;cases b
  ·refine⟨c6 h hn _,c6 h hn _,λd=>?_⟩;cases d
   ·exact wJ f (m+ 1) (q+ 1) h
   ·exact h
  ·show Lv n _ (if q>0 then _ else _);by_cases z:q>0
   ·rw[if_pos z];exact wJ f (m+ 1) 0 (kM h _ _)
   ·rw[if_neg z];exact wJ f (m+ 1) 0 h
theorem Ef(h:lM n p)(m r:Nat):Lv n (λr=>lM n r.2) (adN m r p):=by
 refine qe (P:=λ_=>True) (λa _=>?_) _ (ET hn (kM h _ _) _ _);exact kM h _ _
theorem vn(h:lM n p)(m r:Nat):Lv n (λr=>lM n r.2) (ac4 m r p):=by
 refine qe (P:=λr=>lM n r.1) (λa ha=>?_) _ (wJ hn _ _ _ h);by_cases z:a.2.2>0
 ·rw[if_pos z];exact Ef hn (kM ha _ _) _ _
 ·rw[if_neg z];exact Ef hn ha _ _
theorem J2(h:lM n p)(r:Nat):Lv n (λr=>lM n r.2) (adO r p):=by
 refine qe (P:=λ_=>True) (λa _=>?_) _ (ET hn h _ _);by_cases z:(a==r)=true
 ·rw[if_pos z];exact h
 ·rw[if_neg z];by_cases y:a>1
  ·rw[if_pos y];refine⟨c6 h hn _,c6 h hn _,λb=>?_⟩;cases b
   ·exact vn hn (kM h _ _) _ _
   ·exact h
  ·rw[if_neg y];exact vn hn h _ _
theorem yP{p:Array Nat}(h:lM n p)(k:Nat):∀f l r:Nat,Lv n (λ_=>True) (adP p k f l r)
 |0,l,r=>trivial
 |f+ 1,l,r=>by
  show Lv n _ (if l≥r then _ else _);by_cases z:l≥r
  ·rw[if_pos z];exact trivial
  ·rw[if_neg z];refine⟨c6 h hn _,c6 h hn _,λb=>?_⟩;cases b
   ·exact yP h k f _ _
   ·exact yP h k f _ _
theorem KN:∀(f:Nat) {p:Array Nat} (k:Nat),lM n p->Lv n (lM n) (aeq f p k)
 |0,p,k,h=>h
 |f+ 1,p,k,h=>qe (P:=λ_=>True) (λa _=>KN f (k+ 1) (K0 h _ _)) _ (yP hn h k _ _ _)
theorem Oi:Lv n (lM n) (ace n):=by
 refine qe (P:=λr=>lM n r.2) (λa ha=>?_) _ (J2 hn (abt _) n);by_cases z:a.1<n
 ·rw[if_pos z];exact KN hn _ _ ha
 ·rw[if_neg z];exact ha
end
theorem R5(h:lM vs.length p):(p.toList.map λi=>vs.getD i WL).Perm vs:=by
 have e:(Y3 vs.length).map (λi=>vs.getD i WL)=vs:=by
  refine ab9 (by simp) λi h1 h2=>?_;simp at h1⊢;simp[h1]
 have:=h.map λi=>vs.getD i WL;rw[e]at this;exact this
section
def VL(h:YK)(v:Yd):Prop:=∃a o b n f ns,v=.ref a/\h.get? a=Ya o/\o.cls=.type "tuple"/\o.data=.seq b n/\IntsAre b.toList (f::ns)
theorem Dv{h:YK}:∀{vs:List Yd},(∀v∈vs,VL h v)->∃fs:List Yd,PySem.W.KatTups h vs fs/\(∀v∈fs,∃n t,v=Xz n t)/\fs.length=vs.length
 |[],_=>⟨[],PySem.W.KatTups.nil,by simp,rfl⟩
 |v::vs,hv=>by
  obtain⟨fs,h1,h2,h3⟩:=Dv (vs:=vs) λv b=>hv v (Yp _ b);obtain⟨a,o,c,n,f,ns,rfl,e,g,i,d⟩:=hv v Ys;obtain⟨w,hw,tk,j⟩:∃w,c[0]?=Ya w/\∃tk,w=Xz f tk:=by
   rw[←pk];generalize c.toList=l at d⊢;cases d with
   |cons _ t r=>exact⟨_,rfl,_,rfl⟩
  refine⟨w::fs,PySem.W.KatTups.cons e g i hw h1,λu k=>?_,by rw[cw,cw,h3]⟩;rcases Ym.mp k with z|z
  ·rw[z,j];exact⟨_,_,rfl⟩
  ·exact h2 u z
end
section
end
section
variable{H0:Hp}{h':YK}
theorem aM.adopt{it:Ye}{o:HO}{t':Nat}(I:aM X Za σ H s)(k:∀b o,b≠it->s.heap.get? b=Ya o->h'.get? b=Ya o)(h:tR X Za H it)
  (new:bZ X.prog X.w (upd H it o) h' it o):aM X Za σ (upd H it o) {s with heap:=h',toks:=t'}:=by
 obtain⟨i,g,y,j,l,p⟩:=h;have a:∀b u,H b=Ya u->b≠it:=λb u e z=>by rw[z,i]at e;cases e
 refine I.step (g':=s.gens) (d':=s.drawn) (ch:=[it]) (λb f=>?_) (λb o _ _ d e _=>k b o (λz=>d (by simp[z])) e) (λb o _ _ d e _=>⟨o.slots,k b o (λz=>d (by simp[z])) e⟩) (λb ob d e n=>by rw[ak (λz=>d (by simp[z]))];exact n)
  (λb o d e=>⟨o,k b o (λz=>d (by simp[z])) e⟩) (λb t e=>by rw[ak (a b _ e)];exact e) (λb o u e=>by rw[ak (a b _ e)];exact e) (λb ps e=>⟨#[],by rw[ak (a b _ e),e];simp⟩) (λm hm=>?_) (λb u e=>?_) I.bare
 ·have e:b=it:=by simpa using f
  subst e;exact⟨j,g,l,p⟩
 ·obtain⟨ob,w,x,ho,r⟩:=hm;exact⟨ob,w,x,k _ ob (cT g) ho,r⟩
 ·by_cases f:b=it
  ·subst f;rw[ai]at e;cases e;exact new
  ·rw[ak f]at e;refine(I.hok b u e).stay (λc v d q=>k c v ?_ q) (λc q=>by rw[ak (a c _ q)];exact q) λc t q=>by rw[ak (a c _ q)];exact q
   rcases d with z|z
   ·rw[z];exact a b u e
   ·exact a c _ z
end
theorem cR.two(r:cR (k+ 1) A):cR k A.in1.in1:=⟨r.hd,by have:=r.dp;show A.depth+ 3*k+ 5<abq;omega,by have:=r.un;show A.units+ 1+ 1+ 16*k+ 200<Wy;omega⟩
theorem L8{x:V}{v:Yd}:Vals xs its->RelV x v->Vals (xs++[x]) (its++[v]):=λh r=>h.append (.cons r .nil)
section
variable{D:Ye}
end
section
end
section
end
section
end
section
variable{K:Yc}
end
end L2
namespace GX
open PySem PySem.Spec PyProof.Rows
variable{prog:YO}{w:YW}{A:nh}{s:Yl}{E:Yd->Yl->Prop}{it d:Ye}{h:YK}{es:Array gm}{ep i:Nat}{Q:Option Yd->Yl->Prop}
section
variable{l:Ye}
end
abbrev jN(es:Array gm)(ep:Nat):Y9:={cls:=.type "dict",data:=.dict es ep}
abbrev ER(d:Ye)(i n ep:Nat):Y9:={cls:=.type "dict_valueiterator",data:=.fields #[.ref d,.int i 0,.int n 0,.int ep 0]}
theorem MD(it d:Ye)(i ep:Nat)(es:Array gm)(e:gm)(a:es[i]?=Ya e):
  Meets (vc.«dict_valueiterator.__next__» ⟨[.ref it],[]⟩) (λ_ R s=>s.heap.get? it=Ya (ER d i es.size ep)/\s.heap.get? d=Ya (jN es ep)/\
   ∀g,g.get? it=Ya (ER d (i+ 1) es.size ep)->Wt it s.heap g->R (.ok (.ret e.val)) {s with heap:=g}):=
 .of_wp λprog w A R s ⟨h1,h2,q⟩=>by
  obtain⟨h,g,b,tk,os⟩:=s;have c:rl {heap:=h,gens:=g,drawn:=b,toks:=tk,os:=os} (.ref it) "dict_valueiterator":=⟨_,h1,rfl⟩
  wp_walk
  rw[if_neg (by omega),YH,a]
  wp_walk
  have ow:WW ((Manifest.find? "dict_valueiterator").elim "dict_valueiterator" λx=>x.tpName)=false:=by decide +kernel
  refine⟨_,rfl,q _ ?_ (Wv ..)⟩;rw[Ww _ h1 rfl,ow];simp[aaX,rawInt];intro x a hm;exfalso
  revert x a hm
  decide +kernel
theorem NN(d:Ye)(es:Array gm)(ep:Nat)(hd:(d==RW)=false):
  Meets (vc.«dict.values» ⟨[.ref d],[]⟩) (λ_ R s=>s.heap.get? d=Ya (jN es ep)/\R (.ok (.ret (.ref s.heap.objs.size))) {s with heap:=s.heap.push {cls:=.type "dict_values",data:=.fields #[.ref d]}}):=
 .of_wp λprog w A R s ⟨h1,q⟩=>by
  obtain⟨h,g,a,tk,os⟩:=s;have b:rl {heap:=h,gens:=g,drawn:=a,toks:=tk,os:=os} (.ref d) "dict":=⟨_,h1,rfl⟩
  wp_walk
  exact⟨_,rfl,q⟩
theorem Oy(it d:Ye)(i ep:Nat)(es:Array gm)(a:es.size<=i):
  Meets (vc.«dict_valueiterator.__next__» ⟨[.ref it],[]⟩) (λA R s=>A.handled=Yb/\s.heap.get? it=Ya (ER d i es.size ep)/\s.heap.get? d=Ya (jN es ep)/\
   ∀g e,aaU it s.heap g->rl {s with heap:=g} (.ref e) "StopIteration"->R (.error (.ref e)) {s with heap:=g}):=
 .of_wp λprog w A R s ⟨h0,h1,h2,q⟩=>by
  obtain⟨h,g,c,tk,os⟩:=s;have k:rl {heap:=h,gens:=g,drawn:=c,toks:=tk,os:=os} (.ref it) "dict_valueiterator":=⟨_,h1,rfl⟩;have f:A.in1.handled=none:=h0
  wp_walk
  rw[if_neg (by omega),YH,WO a]
  wp_walk
  simp only[ad1]
  wp_walk
  exact q _ _ (λb o j e=>Yg _ (Yg _ (((Wv ..).2 b j).trans e))) ⟨_,Yr _ rfl,rfl⟩
theorem Jj(v d:Ye)(ep:Nat)(es:Array gm)(dd:Option Ye)(a:Array (Option Yd)):
  Meets (vc.«dict_values.__iter__» ⟨[.ref v],[]⟩) (λA R s=>s.heap.get? v=Ya {cls:=.type "dict_values",dict:=dd,data:=.fields #[.ref d],slots:=a}/\s.heap.get? d=Ya (jN es ep)/\
   R (.ok (.ret (.ref s.heap.objs.size))) {s with heap:=s.heap.push (ER d 0 es.size ep)}):=
 .of_wp λprog w A R s ⟨h1,h2,q⟩=>by
  obtain⟨h,g,b,tk,os⟩:=s;have c:rl {heap:=h,gens:=g,drawn:=b,toks:=tk,os:=os} (.ref v) "dict_values":=⟨_,h1,rfl⟩
  wp_walk
  have ow:WW "dict_valueiterator"=false:=by decide +kernel
  rw[ow];exact⟨_,rfl,q⟩
def gJ(h:YK)(d:Ye)(es:Array gm)(ep:Nat):Prop:=h.get? d=Ya (jN es ep)
def yT(h:YK)(it d:Ye)(i n ep:Nat):Prop:=h.get? it=Ya (ER d i n ep)
theorem gJ.of{o:Y9}(e:h.get? d=Ya o)(x:o.ExactDict)(dt:o.data=.dict es ep):gJ h d es ep:=by
 obtain⟨c,b,a,f⟩:=o;obtain⟨rfl,rfl,rfl⟩:=x;cases dt;exact e
theorem gJ.at{g:YK}(x:gJ h d es ep)(k:∀o,h.get? d=Ya o->g.get? d=Ya o):gJ g d es ep:=k _ x
theorem gJ.lt(x:gJ h d es ep):d<h.objs.size:=Yu x
theorem yT.is{n:Nat}(x:yT h it d i n ep):h.IsValIter it d i n ep:=⟨_,x,rfl,rfl⟩
section
variable{v:Ye}
theorem FJ{Q:Yd->Yl->Prop}(a:(d==RW)=false)(rd:gJ s.heap d es ep)
  (q:Q (.ref s.heap.objs.size) {s with heap:=s.heap.push {cls:=.type "dict_values",data:=.fields #[.ref d]}}):Yo (model prog w) A (call (.builtin "dict.values") [.ref d]) Q E s:=
 aaP WX ⟨_,rd,rfl⟩ aaR (aaL _) (NN d es ep a) ⟨rd,q⟩
theorem KZ{Q:Yd->Yl->Prop}(a:s.heap.IsValuesView v d)(rd:gJ s.heap d es ep)
  (q:Q (.ref s.heap.objs.size) {s with heap:=s.heap.push (ER d 0 es.size ep)}):Yo (model prog w) A (pyIter (.ref v)) Q E s:=by
 obtain⟨⟨c,b,f,g⟩,e,rfl,rfl⟩:=id a;apply aag a.typeIs aco;apply aaP aco a.typeIs F.entry_dict_values_iter (F.args_dict_values_iter_1 _) (Jj v d ep es b g);exact⟨e,rd,"dict_valueiterator",_,⟨_,Yr _ rfl,rfl⟩,xy.lookup,q⟩
theorem L9{R:aaj->Yl->Prop}{S:nh->(aaj->Yl->Prop)->Yl->Prop}(a:s.TypeIs (.ref it) "dict_valueiterator")(m:Meets (vc.«dict_valueiterator.__next__» ⟨[.ref it],[]⟩) S)(h:S A R s):
  sq (model prog w) A (.call (.builtin "dict_valueiterator.__next__") ⟨[.ref it],[]⟩) R s:=
 codeAny_call_builtin xy.plain F.entry_dict_valueiterator_next (xy.check _ _ _ _ _ _ _ _ a (F.args_dict_valueiterator_next_1 _) (m prog w A R s h))
theorem JM{e:gm}(c:yT s.heap it d i es.size ep)(rd:gJ s.heap d es ep)(f:es[i]?=Ya e)(h:∀g,yT g it d (i+ 1) es.size ep->Wt it s.heap g->Q (Ya e.val) {s with heap:=g}):Yo (model prog w) A (pyNext (.ref it)) Q E s:=by
 have j:s.TypeIs (.ref it) "dict_valueiterator":=⟨_,c,rfl⟩;have k:=xy.lookup;have l:=xy.bind (.ref it);unfold pyNext
 repeat' first|assumption|wp_step
 exact L9 j (MD it d i ep es e f) ⟨c,rd,λg a b=>wpAny_pure (wpAny_pure (h g a b))⟩
theorem NY(f:A.handled=Yb)(c:yT s.heap it d i es.size ep)(rd:gJ s.heap d es ep)(h:es.size<=i)(fin:∀g,aaU it s.heap g->Q Yb {s with heap:=g}):Yo (model prog w) A (pyNext (.ref it)) Q E s:=by
 have j:s.TypeIs (.ref it) "dict_valueiterator":=⟨_,c,rfl⟩;have l:=xy.lookup;have m:=xy.bind (.ref it);have k:aeJ (.type "StopIteration") (.type "StopIteration")=pure true:=by rw[aal];kernel_rfl
 unfold pyNext
 repeat' first|assumption|wp_step
 refine L9 j (Oy it d i ep es h) ⟨f,c,rd,λg e a b=>?_⟩;have n:=fin g a
 repeat' first|assumption|wp_step
end
theorem IT(l:A.handled=Yb)(nd:d≠it):
  acu prog w A it [it,d] [it] es.size (λi x=>∃y:gm,es[i]?=Ya y/\x=y.val) (λi h=>yT h it d i es.size ep/\gJ h d es ep):=by
 constructor
 case sub=>intro b f;simp at f;simp[f]
 case frame=>exact λi h g x k=>⟨k it (by simp) _ x.1,k d (by simp) _ x.2⟩
 case self=>exact λi s Q E x q=>ac2 x.1.is q
 case done=>exact λs Q E x q=>NY l x.1 x.2 (Yj _) λg k=>q g s.toks λb o c e=>k b o (by simpa using c) e
 case item=>
  intro i s Q E j x q;exact JM x.1 x.2 (YI j) λg a k=>q _ g s.toks ⟨_,YI j,rfl⟩ ⟨a,(k.2 d nd).trans x.2⟩ λb o c e=>(k.2 b (by simpa using c)).trans e
section
variable{K:Type}[DecidableEq K]{knd:HeapKind prog w K}{a:Ye}{xs:List (K×Ye×Yd)}{k:K}{j:Nat}{p:Ye×Yd}
end
end GX
namespace L2
open PySem PySem.Spec PyProof.Rows
variable{X:Cx}{P:YO}{w:YW}{d D f a C:Ye}{H H':Hp}{h h' base B:YK}{kvs:List (List bK×V)}{n k m:Nat}{b:Nat->Nat->Bool}{s s':Yl}{p:Array Nat}{xs vs Zw:List V}{its us:List Yd}{ks:List (List Int)}{A:nh}{E:Yd->Yl->Prop}{Q:Bool->Yl->Prop}{Za:List (Ye×Y9)}{σ:St}{fd:Yx}{ps N:List Yn}{sp:Sp}{e:Y2}{te:TE}{pos:Xr}{t:TS}{CX:LV}{mg:Yn->Option Yd}{Zb:Yn}{scope:X3}{cd:Yd}{cl:List (Yn×Ye)}{outer:List aad}{ix:List Nat}{Zc:String}
section
variable{tg:Y2}
end
theorem R7{r:Ye}{es:Array gm}{ep:Nat}:
  PySem.W.KdlSrc P w "dict_values" r d es.size (λi x=>∃y:gm,es[i]?=Ya y/\x=y.val) (λh=>h.IsValuesView r d/\GX.gJ h d es ep):=by
 constructor
 case iter=>
  intro A s a ⟨b,rd⟩;refine⟨GX.ER d 0 es.size ep,λi h=>GX.yT h s.heap.objs.size d i es.size ep/\GX.gJ h d es ep,λE Q q=>GX.KZ b rd q,GX.IT a (YE rd.lt),Yr _ rfl,rd.at λo e=>Yg _ e⟩
 case hint=>exact λA E s Q x q=>PySem.W.kdl_hint_values x.1.typeIs q
 case keep=>
  intro h g ⟨⟨o,e,c,dt⟩,rd⟩ k;exact⟨⟨o,k r (YB rfl) o e,c,dt⟩,rd.at (k d (abB rfl))⟩
 case there=>
  intro h ⟨⟨o,e,_⟩,rd⟩;exact And.intro (Yu e) rd.lt
 case type=>exact λs x=>x.1.typeIs
 case notList=>rfl
 case notTuple=>rfl
theorem Mj(ok:lO P w H h)(e:Rd H d (.dT kvs)):
  (d==RW)=false/\∃(es:Array gm) (ep:Nat),GX.gJ h d es ep/\es.size=kvs.length/\∀(i:Nat) (k:List bK) (v:V),kvs[i]?=Ya (k,v)->∃y:gm,es[i]?=Ya y/\RelV v y.val:=by
 obtain⟨_,b,j,a,o,es,ep,h1,h2,h3,h4,_⟩:=qF ok e;refine⟨b,es,ep,.of h1 h2 h3,?_,λi k v c=>?_⟩
 ·rw[←ir,h4,Yf];exact(Y0 a).symm
 ·obtain⟨q,f,_,_,g⟩:=dD a c;refine⟨entryOfKey (tupleKind (aZ P w)) q,?_,g⟩;rw[←pk,h4,Yv,f];rfl
section
theorem J8:Vj X "dict.values" (λx vs H Q=>∃d kvs,x=.ref d/\vs=[]/\H d=Ya (.dT kvs)/\∀v,H v=Yb->Q (.ref v) (upd H v (GO v d))):=by
 intro l s σ H x m v n Q I a c h;obtain⟨d,kvs,rfl,rfl,hd,q⟩:=h;cases a;cases c;obtain⟨f,p,r,rd,_⟩:=Mj I.hok (.inl hd);refine GX.FJ f rd ?_;exact⟨.ref s.heap.objs.size,_,I.laid (o:=GO s.heap.objs.size d) (t':=s.toks) (λb ob e=>Yg _ e) (Yj _) ⟨⟨_,Yr _ rfl,rfl,rfl⟩,⟨_,Yr _ rfl⟩,λh1 h2 ⟨o,g,i,j⟩ k=>⟨o,k o g,i,j⟩⟩,rfl,q _ (I.hok.fresh (Yj _))⟩
theorem Ee(w:X.calm=true):dh X (.type "list") (λxs H Q=>∃(v d:Ye) (kvs:List (List bK×V)),xs=[.ref v]/\H v=Ya (GO v d)/\Rd H d (.dT kvs)/\kvs.length<=1000/\∀l,H l=Yb->Q (.ref l) (upd H l (.lst (kvs.map (·.2))))):=by
 intro J s σ H xs K Q I r h;obtain⟨v,d,kvs,rfl,z,hd,b,q⟩:=h;obtain⟨u,rfl,B⟩:=d9 r;cases B;obtain⟨L,n,C,rd,sz,k⟩:=Mj I.hok hd;have m:s.heap.IsValuesView v d:=(I.hok v _ z).1;refine acd (A:=X.A) (R7 (es:=n) (ep:=C)) (I.ok.hd w) ⟨m,rd⟩ (by rw[sz];exact pe (aJ (by omega))) λM tk f c D E a=>?_;refine⟨.ref s.heap.objs.size,_,I.laid (o:=.lst (kvs.map (·.2))) (t':=tk) D (Yj _) ⟨by rw[Yf];exact pe (aJ b),f.toList,c,rU ?_ λi x u g t=>?_,E⟩,rfl,q _ (I.hok.fresh (Yj _))⟩
 ·have e:f.toList.length=n.size:=by rw[ir];exact a.1
  rw[Yf,e,sz]
 ·rw[pk]at t;obtain⟨y,F,rfl⟩:=a.2 i u t;rw[Yv]at g;cases e:kvs[i]? with
  |none=>rw[e]at g;cases g
  |some p=>
   rw[e]at g;cases g;obtain⟨N,j,G⟩:=k i p.1 p.2 e;rw[F]at j;cases j;exact G
end
section
end
section
end
def Lo{α:Type}(n:Nat)(b:Nat->Nat->Bool)(P:α->Prop):W3 α->Prop
 | .ret a=>P a
 | .ask i j k=>i<n/\j<n/\Lo n b P (k (b i j))
theorem qc{α β:Type}{n:Nat}{b:Nat->Nat->Bool}{P:α->Prop}{c:β->Prop}{f:α->W3 β}(d:∀a,P a->Lo n b c (f a)):∀t:W3 α,Lo n b P t->Lo n b c (t.bind f)
 | .ret a,h=>d a h
 | .ask i j k,h=>⟨h.1,h.2.1,qc d (k (b i j)) h.2.2⟩
theorem Qk{α:Type}{n:Nat}{b:Nat->Nat->Bool}{P:α->Prop}{cmp:Nat->Nat->(Bool->Yl->Prop)->Yl->Prop}{G:α->Yl->Prop}{s:Yl}(c:∀i j C,i<n->j<n->C (b i j) s->cmp i j C s)(d:∀a,P a->G a s):∀t:W3 α,Lo n b P t->t.kasWp cmp G s
 | .ret a,h=>d a h
 | .ask i j k,h=>c i j _ h.1 h.2.1 (Qk c d (k (b i j)) h.2.2)
theorem u7{α:Type}{n:Nat}{b:Nat->Nat->Bool}{P c:α->Prop}(hp:∀a,P a->c a):∀t:W3 α,Lo n b P t->Lo n b c t
 | .ret a,h=>hp a h
 | .ask i j k,h=>⟨h.1,h.2.1,u7 hp (k (b i j)) h.2.2⟩
theorem sD(h:lM n p):p.size=n:=by
 have:=h.length_eq;rw[KW,ir]at this;exact this
theorem tS{i j:Nat}(a:j<=p.size)(k:Nat):(Xo p i j).getD k 0=if i<=k/\k<j then p.getD (i+ j-1-k) 0 else p.getD k 0:=by
 rw[YJ,YJ,YJ];unfold Xo;rw[getElem?_mirror_all a];split<;>rfl
theorem G3{l:Nat}(hk:k<p.size)(hl:l<=k)(i:Nat):(bubble p k (k-l)).getD i 0=if i=l then p.getD k 0 else if l<i/\i<=k then p.getD (i-1) 0 else p.getD i 0:=by
 rw[YJ,YJ,YJ,YJ,getElem?_bubble hk _ (by omega),show k-(k-l)=l by omega];split
 ·rfl
 ·split<;>rfl
section
variable(ky:Nat->Int)
abbrev bk(i j:Nat):Bool:=decide (ky i<ky j)
def Up(p:Array Nat)(m:Nat):Prop:=∀i j,i<=j->j<m->ky (p.getD i 0)<=ky (p.getD j 0)
def Dn(p:Array Nat)(m:Nat):Prop:=∀i j,i<=j->j<m->ky (p.getD j 0)<=ky (p.getD i 0)
variable{ky}(hn:0<n)
theorem Sx(h1:1<=m)(h:Up ky p m)(e:ky (p.getD (m-1) 0)<=ky (p.getD m 0)):Up ky p (m+ 1):=λi j a b=>by
 by_cases z:j<m
 ·exact h i j a z
 ·obtain rfl:j=m:=by omega
  by_cases w:i=j
  ·rw[w];exact Xi _
  ·exact adt (h i (j-1) (by omega) (by omega)) e
theorem xS(h1:1<=m)(h:Dn ky p m)(e:ky (p.getD m 0)<=ky (p.getD (m-1) 0)):Dn ky p (m+ 1):=λi j a b=>by
 by_cases z:j<m
 ·exact h i j a z
 ·obtain rfl:j=m:=by omega
  by_cases w:i=j
  ·rw[w];exact Xi _
  ·exact adt e (h i (j-1) (by omega) (by omega))
include hn
theorem FT{p:Array Nat}(h:lM n p):∀f m:Nat,1<=m->Up ky p m->Lo n (bk ky) (λr=>m<=r/\r<=m+ f/\Up ky p r/\(r<m+ f->ky (p.getD r 0)<ky (p.getD (r-1) 0))) (aep p f m)
 |0,m,h1,u=>⟨Yj _,Yj _,u,λz=>absurd z (Y7 _)⟩
 |f+ 1,m,h1,u=>by
  refine⟨c6 h hn _,c6 h hn _,?_⟩;by_cases c:ky (p.getD m 0)<ky (p.getD (m-1) 0)
  ·rw[show bk ky (p.getD m 0) (p.getD (m-1) 0)=true from decide_eq_true c];exact⟨Yj _,by omega,u,λ_=>c⟩
  ·rw[show bk ky (p.getD m 0) (p.getD (m-1) 0)=false from decide_eq_false c];have:=FT h f (m+ 1) (by omega) (Sx h1 u (by omega));rw[show m+ 1+ f=m+ (f+ 1) by omega]at this;refine(u7 ?_ _ this);exact λr a=>⟨by omega,a.2.1,a.2.2⟩
theorem wA:∀(f:Nat) {p:Array Nat} (m q:Nat),lM n p->m+ f<=n->1<=m->Dn ky p m->q+ 1<=m->(∀i,m-(q+ 1)<=i->i<m->ky (p.getD i 0)=ky (p.getD (m-1) 0))->
  Lo n (bk ky) (λr=>lM n r.1/\Dn ky r.1 r.2.1/\1<=r.2.1/\r.2.1<=m+ f/\r.2.2+ 1<=r.2.1/\∀i,r.2.1-(r.2.2+ 1)<=i->i<r.2.1->ky (r.1.getD i 0)=ky (r.1.getD (r.2.1-1) 0)) (ad3 f p m q)
 |0,p,m,q,h,hm,h1,d,hq,e=>⟨h,d,h1,Yj _,hq,e⟩
 |f+ 1,p,m,q,h,hm,h1,d,hq,e=>by
  have hs:=sD h;refine⟨c6 h hn _,c6 h hn _,?_⟩;by_cases c:ky (p.getD m 0)<ky (p.getD (m-1) 0)
  ·rw[show bk ky (p.getD m 0) (p.getD (m-1) 0)=true from decide_eq_true c];show Lo n _ _ (if q>0 then _ else _);by_cases z:q>0
   ·rw[if_pos z];have u:∀k,ky ((Xo p (m-(q+ 1)) m).getD k 0)=ky (p.getD k 0):=λk=>by
     rw[tS (by omega)];split
     ·rename_i w;rw[e _ (by omega) (by omega),e k (by omega) (by omega)]
     ·rfl
    have:=wA f (p:=Xo p (m-(q+ 1)) m) (m+ 1) 0 (kM h _ _) (by omega) (by omega) (xS h1 (λi j a b=>by rw[u,u];exact d i j a b) (by rw[u,u];omega)) (by omega) λi a b=>by
     obtain rfl:i=m:=by omega
     rfl
    refine u7 (λr g=>?_) _ this;obtain⟨l,o,s,v,t⟩:=g;exact⟨l,o,s,by omega,t⟩
   ·rw[if_neg z];have:=wA f (p:=p) (m+ 1) 0 h (by omega) (by omega) (xS h1 d (by omega)) (by omega) λi a b=>by
     obtain rfl:i=m:=by omega
     rfl
    refine u7 (λr g=>?_) _ this;obtain⟨l,o,s,v,t⟩:=g;exact⟨l,o,s,by omega,t⟩
  ·rw[show bk ky (p.getD m 0) (p.getD (m-1) 0)=false from decide_eq_false c];refine⟨c6 h hn _,c6 h hn _,?_⟩;by_cases x:ky (p.getD (m-1) 0)<ky (p.getD m 0)
   ·rw[show bk ky (p.getD (m-1) 0) (p.getD m 0)=true from decide_eq_true x];exact⟨h,d,h1,by show m<=m+ (f+ 1);omega,hq,e⟩
   ·rw[show bk ky (p.getD (m-1) 0) (p.getD m 0)=false from decide_eq_false x];have:=wA f (p:=p) (m+ 1) (q+ 1) h (by omega) (by omega) (xS h1 d (by omega)) (by omega) λi a b=>by
     rw[show m+ 1-1=m by omega];by_cases w:i=m
     ·rw[w]
     ·rw[e i (by omega) (by omega)];omega
    refine u7 (λr g=>?_) _ this;obtain⟨l,o,s,v,t⟩:=g;exact⟨l,o,s,by omega,t⟩
abbrev VO(ky:Nat->Int)(n:Nat)(r:Nat×Array Nat):Prop:=lM n r.2/\Up ky r.2 r.1/\1<=r.1/\r.1<=n
theorem BU(h:lM n p)(h1:1<=m)(hm:m<=n)(d:Dn ky p m):Lo n (bk ky) (VO ky n) (adN m n p):=by
 have hs:=sD h;have u:Up ky (Xo p 0 m) m:=λi j b c=>by
  rw[tS (by omega),tS (by omega),if_pos ⟨by omega,by omega⟩,if_pos ⟨by omega,c⟩];exact d _ _ (by omega) (by omega)
 refine qc (λa ha=>?_) _ (FT hn (kM h 0 m) (n-m) m h1 u);exact⟨kM h 0 m,ha.2.2.1,by have:=ha.1;omega,by have:=ha.2.1;omega⟩
theorem vg(h:lM n p)(h1:1<=m)(hm:m+ 1<=n)(d:Dn ky p (m+ 1)):Lo n (bk ky) (VO ky n) (ac4 m n p):=by
 have hd:=wA hn (n-(m+ 1)) (m+ 1) 0 h (by omega) (by omega) d (by omega) λi a b=>by
  obtain rfl:i=m:=by omega
  rfl
 refine qc (λa ha=>?_) _ hd;obtain⟨c,f,g,r,s,l⟩:=ha;have hs:=sD c;by_cases z:a.2.2>0
 ·rw[if_pos z];refine BU hn (kM c _ _) g (by omega) λi j e q=>?_;have o:∀k,ky ((Xo a.1 (a.2.1-(a.2.2+ 1)) a.2.1).getD k 0)=ky (a.1.getD k 0):=λk=>by
   rw[tS (by omega)];split
   ·rename_i w;rw[l _ (by omega) (by omega),l k (by omega) (by omega)]
   ·rfl
  rw[o,o];exact f i j e q
 ·rw[if_neg z];exact BU hn c g (by omega) f
theorem K9(h:lM n p):Lo n (bk ky) (VO ky n) (adO n p):=by
 have hs:=sD h;refine qc (λa ha=>?_) _ (FT hn h (n-1) 1 (Yj _) λi j a b=>by
  obtain rfl:i=j:=by omega
  exact Xi _)
 obtain⟨d,s,e,q⟩:=ha;by_cases z:(a==n)=true
 ·rw[if_pos z];exact⟨h,e,d,by omega⟩
 ·rw[if_neg z];have z:a≠n:=λw=>z (by rw[w];exact beq_self_eq_true n);have c:=q (by omega);by_cases y:a>1
  ·rw[if_pos y];refine⟨c6 h hn _,c6 h hn _,?_⟩;by_cases m:ky (p.getD 0 0)<ky (p.getD (a-1) 0)
   ·rw[show bk ky (p.getD 0 0) (p.getD (a-1) 0)=true from decide_eq_true m];exact⟨h,e,d,by omega⟩
   ·rw[show bk ky (p.getD 0 0) (p.getD (a-1) 0)=false from decide_eq_false m];have f:∀k,k<a->ky (p.getD k 0)=ky (p.getD (a-1) 0):=λk r=>by
     have t:=e 0 k (by omega) r;have u:=e k (a-1) (by omega) (by omega);omega
    have g:∀k,ky ((Xo p 0 a).getD k 0)=ky (p.getD k 0):=λk=>by
     rw[tS (by omega)];split
     ·rename_i w;rw[f _ (by omega),f k (by omega)]
     ·rfl
    refine vg hn (kM h 0 a) d (by omega) (xS d (λi j l o=>?_) (by rw[g,g];omega));rw[g,g,f i (by omega),f j o];exact Xi _
  ·rw[if_neg y];obtain rfl:a=1:=by omega
   refine vg hn h (Yj _) (by omega) (xS (Yj _) (λi j l o=>?_) (by omega));obtain rfl:i=j:=by omega
   exact Xi _
theorem yI{p:Array Nat}(h:lM n p){k:Nat}(u:Up ky p k):∀f l r:Nat,l<=r->r<=k->r-l<=f->(∀i,i<l->ky (p.getD i 0)<=ky (p.getD k 0))->(∀i,r<=i->i<k->ky (p.getD k 0)<ky (p.getD i 0))->
  Lo n (bk ky) (λx=>x<=k/\(∀i,i<x->ky (p.getD i 0)<=ky (p.getD k 0))/\∀i,x<=i->i<k->ky (p.getD k 0)<ky (p.getD i 0)) (adP p k f l r)
 |0,l,r,h1,h2,h3,a,b=>⟨by omega,a,λi e d=>b i (by omega) d⟩
 |f+ 1,l,r,h1,h2,h3,a,b=>by
  show Lo n _ _ (if l≥r then _ else _);by_cases z:l≥r
  ·rw[if_pos z];exact⟨by omega,a,λi e d=>b i (by omega) d⟩
  ·rw[if_neg z];refine⟨c6 h hn _,c6 h hn _,?_⟩;by_cases c:ky (p.getD k 0)<ky (p.getD ((l+ r) / 2) 0)
   ·rw[show bk ky (p.getD k 0) (p.getD ((l+ r) / 2) 0)=true from decide_eq_true c];exact yI h u f l ((l+ r) / 2) (by omega) (by omega) (by omega) a λi e d=>by
     have:=u ((l+ r) / 2) i e d;omega
   ·rw[show bk ky (p.getD k 0) (p.getD ((l+ r) / 2) 0)=false from decide_eq_false c];exact yI h u f ((l+ r) / 2+ 1) r (by omega) h2 (by omega) (λi e=>by
     have:=u i ((l+ r) / 2) (by omega) (by omega);omega) b
theorem Mp:∀(f:Nat) {p:Array Nat} (k:Nat),lM n p->k+ f=n->Up ky p k->Lo n (bk ky) (λp=>lM n p/\Up ky p n) (aeq f p k)
 |0,p,k,h,e,u=>by
  obtain rfl:k=n:=by omega
  exact⟨h,u⟩
 |f+ 1,p,k,h,e,u=>by
  have hs:=sD h;refine qc (λl hl=>?_) _ (yI hn h u k 0 k (Y6 _) (Yj _) (by omega) (λi r=>absurd r (abg _)) λi a b=>by omega);obtain⟨g,s,t⟩:=hl;refine Mp f (k+ 1) (K0 h _ _) (by omega) λi j d v=>?_;rw[G3 (by omega) g,G3 (by omega) g];by_cases m:i=l
  ·rw[if_pos m];by_cases c:j=l
   ·rw[if_pos c];exact Xi _
   ·rw[if_neg c,if_pos ⟨by omega,by omega⟩];exact aeW (t _ (by omega) (by omega))
  ·rw[if_neg m];by_cases o:l<i/\i<=k
   ·rw[if_pos o,if_neg (by omega),if_pos ⟨by omega,by omega⟩];exact u _ _ (by omega) (by omega)
   ·rw[if_neg o];by_cases c:j=l
    ·rw[if_pos c];exact s i (by omega)
    ·rw[if_neg c];by_cases q:l<j/\j<=k
     ·rw[if_pos q];exact u _ _ (by omega) (by omega)
     ·rw[if_neg q];exact u _ _ d (by omega)
theorem Np:Lo n (bk ky) (λp=>lM n p/\Up ky p n) (ace n):=by
 refine qc (λa ha=>?_) _ (K9 hn (p:=Xn (Y3 n)) (abt _));obtain⟨c,b,d,e⟩:=ha;by_cases z:a.1<n
 ·rw[if_pos z];rw[show max a.1 1=a.1 by omega];exact Mp hn _ _ c (by omega) b
 ·rw[if_neg z];rw[show a.1=n by omega]at b;exact⟨c,b⟩
end
theorem KJ{α:Type}{n:Nat}{P c:α->Prop}(hp:∀a,P a->c a):∀t:W3 α,Lv n P t->Lv n c t
 | .ret a,h=>hp a h
 | .ask i j k,h=>⟨h.1,h.2.1,λb=>KJ hp (k b) (h.2.2 b)⟩
def VX(f:Bool):List Int->List Int->Bool
 |x::r,y::q=>if x=y then VX f r q else decide (x<y)
 |_,_=>f
def Tc(a b:List Int):Bool:=VX (decide (a.length<b.length)) a b
theorem rm{α:Type}(l:List α)(d:α):((Xn (Y3 l.length)).toList.map λi=>l.getD i d)=l:=by
 refine ab9 (by simp) λi h1 h2=>?_;simp at h1⊢;simp[h1]
theorem JZ(h:Vals xs its)(hp:lM its.length p):(p.toList.map λi=>xs.getD i V.non).Perm xs/\Vals (p.toList.map λi=>xs.getD i V.non) (p.toList.map λi=>its.getD i WL):=by
 have c:=h.length;constructor
 ·have:=hp.map λi=>xs.getD i V.non;rw[←c]at this;have e:=rm xs V.non;rw[show(Xn (Y3 xs.length)).toList=Y3 xs.length from rfl]at e;rw[e]at this;exact this
 ·have a:∀i∈p.toList,i<its.length:=λi b=>WG.mp (hp.mem_iff.mp b);generalize p.toList=l at a
  induction l with
  |nil=>exact .nil
  |cons i l ih=>
   have b:=a i Ys;refine .cons ?_ (ih λj d=>a j (Yp _ d));obtain⟨u,f,r⟩:=h.get (Yk (show i<xs.length by omega));show RelV (xs.getD i V.non) (its.getD i WL);rw[YX,YX,Yk (show i<xs.length by omega),f];exact r
def F1(ks:List (List Int))(n:Nat)(p:Array Nat):Prop:=(∃g:Nat->Int,∀i j,i<n->j<n->Tc (ks.getD i []) (ks.getD j [])=decide (g i<g j))->∀i j,i<=j->j<n->Tc (ks.getD (p.getD j 0) []) (ks.getD (p.getD i 0) [])=false
def AU(ks:List (List Int))(xs a:List V):Prop:=∃p:Array Nat,lM xs.length p/\a=(p.toList.map λi=>xs.getD i V.non)/\F1 ks xs.length p
theorem HN(h:n<2):F1 ks n (Xn (Y3 n)):=by
 rintro⟨g,a⟩ i j b c;obtain rfl:i=j:=by omega
 have pg:=c6 (p:=Xn (Y3 n)) (abt _) (by omega) i;rw[a _ _ pg pg];exact decide_eq_false (Int.lt_irrefl _)
theorem M6{α:Type}{n:Nat}{b:Nat->Nat->Bool}{P:α->Prop}:∀t:W3 α,Lv n P t->Lo n b P t
 | .ret a,h=>h
 | .ask i j k,h=>⟨h.1,h.2.1,M6 (k (b i j)) (h.2.2 _)⟩
theorem Hr{α:Type}{n:Nat}{b c:Nat->Nat->Bool}(e:∀i j,i<n->j<n->b i j=c i j){P:α->Prop}:∀t:W3 α,Lo n b P t->Lo n c P t
 | .ret a,h=>h
 | .ask i j k,h=>⟨h.1,h.2.1,by rw[←e i j h.1 h.2.1];exact Hr e (k (b i j)) h.2.2⟩
theorem QP(hn:0<n):Lo n (λi j=>Tc (ks.getD i []) (ks.getD j [])) (λp=>lM n p/\F1 ks n p) (ace n):=by
 by_cases a:∃g:Nat->Int,∀i j,i<n->j<n->Tc (ks.getD i []) (ks.getD j [])=decide (g i<g j)
 ·obtain⟨g,a⟩:=a;refine Hr (λi j d b=>(a i j d b).symm) _ (u7 (λp hp=>⟨hp.1,λ_ i j c b=>?_⟩) _ (Np (ky:=g) hn));rw[a _ _ (c6 hp.1 hn _) (c6 hp.1 hn _)];have:=hp.2 i j c b;exact decide_eq_false (by omega)
 ·exact M6 _ (KJ (λp hp=>⟨hp,λz=>absurd z a⟩) _ (Oi hn))
def Tn(h:YK)(v:Yd)(k:List Int):Prop:=k≠[]/\∃a o b n,v=.ref a/\h.get? a=Ya o/\o.cls=.type "tuple"/\o.data=.seq b n/\IntsAre b.toList k
theorem Tn.tpI{v:Yd}{k:List Int}(x:Tn h v k):VL h v:=by
 obtain⟨b,a,o,c,n,d,e,g,i,j⟩:=x;cases k with
 |nil=>exact absurd rfl b
 |cons f ns=>exact⟨a,o,c,n,f,ns,d,e,g,i,j⟩
theorem yu:∀{vs:List Yd} {ns:List Int},IntsAre vs ns->vs.length=ns.length
 |_,_,.nil=>rfl
 |_,_,.cons _ _ r=>congrArg (·+ 1) (yu r)
section
variable{prog:YO}
theorem OL{a b:Int}{t u:aay}{c:Bool}(h:Q (decide (a<b)) s):Yo (model prog w) A (oneLt' c (.int a t) (.int b u)) Q E s:=by
 cases c with
 |true=>exact oneLt_int h
 |false=>exact PySem.W.kat_one _ _ (lt_int h)
theorem Gx{Q:Bool->Yl->Prop}{b fin:Bool}:∀{xs ys:List Yd} {ns a:List Int} (i:Nat),IntsAre xs ns->IntsAre ys a->Q (VX fin ns a) s->PySem.W.KatLex prog w A b fin Q (xs.zip ys) i s
 |_,_,_,_,i,.nil,_,h=>aer h
 |_,_,_,_,i,.cons _ _ _,.nil,h=>aer h
 |_,_,_,_,i,.cons x t r,.cons y u q,h=>by
  refine PySem.W.kat_cons (wpAny_eqBool_int ?_);refine PySem.W.kat_go (λz=>PySem.W.kat_yes (Gx (i+ 1) r q ?_)) λz=>PySem.W.kat_no (OL ?_)
  ·have h:Q (if x=y then _ else _) s:=h;rw[if_pos (by simpa using z)]at h;exact h
  ·have h:Q (if x=y then _ else _) s:=h;rw[if_neg (by simpa using z)]at h;exact h
theorem NX{x y:Yd}{k l:List Int}{b:Bool}(g:Tn s.heap x k)(i:Tn s.heap y l)(h:Q (Tc k l) s):Yo (model prog w) A (keyLt' (afm b) x y) Q E s:=by
 obtain⟨_,a,o,t,n,rfl,j,u,m,c⟩:=g;obtain⟨_,v,z,p,B,rfl,q,C,r,d⟩:=i;refine PySem.W.kat_lt j m q r (Gx 0 c d ?_);have e:=yu c;have f:=yu d;rw[ir]at e f;rw[e,f];exact h
end
theorem AU.perm{a:List V}(h:AU ks xs a):a.Perm xs:=by
 obtain⟨p,hp,rfl,_⟩:=h;have:=hp.map λi=>xs.getD i V.non;have e:=rm xs V.non;rw[show(Xn (Y3 xs.length)).toList=Y3 xs.length from rfl]at e;rw[e]at this;exact this
section
theorem IC{P:ab6->Yl->Prop}(F:aF X.prog X.w X.K X.mg X.base bx k f fd ps sp)(hr:cR k X.A.in1.in1)(Z:Binds X.K fd ps [])(IV:aM X Za σ H s)(fD:tR X Za H D)(hD:s.heap.get? D=Ya (seqObj "list" its.toArray n))(rv:Vals xs its)(h64:xs.length<64)(lk:xs.length=ks.length)(kn:∀k∈ks,k≠[])(KY:∀(i:Nat) x k H3 (Q':VK),xs[i]?=Ya x->ks[i]?=Ya k->aG H H3->(∀g t,aG H3 g->bC X.K g t (k.map V.int)->Q' (.ref t) g)->sp [x] H3 Q' E0)(hR:∀ws H' s',AU ks xs ws->aG H H'->H' D=Yb->aM X Za σ (upd H' D (.lst ws)) s'->P (.done (.ret .none)) s'):
  Yo (model X.prog X.w) X.A.in1.in1 (ksk_tree D (.ref f) false) P E s:=by
 have lv:=rv.length;unfold ksk_tree;refine Og (k:=λits e ks=>ksk_rest D (.ref f) false its e ks) hD (by omega) λh2 e1 k2 ab=>?_;obtain⟨f0,f1,f2,f3,f4,f5⟩:=id fD;have I2:aM X Za σ H {s with heap:=h2}:=IV.turned (t':=s.toks) (it:=D) k2 f0 f1 f3 f4 f5;have l:h2.objs.size≠D:=XA (Yu ab);have I:H h2.objs.size=none:=aM.fresh I2;have I3:aM X Za σ (upd H h2.objs.size (.lst [])) {s with heap:=h2.push (seqObj "list" #[] 0)}:=aM.lnew (s:={s with heap:=h2}) (its:=[]) (t':=s.toks) I2 .nil (Y6 _);have ac:(h2.push (seqObj "list" #[] 0)).get? D=Ya (seqObj "list" #[] e1):=Yg _ ab;generalize h2.push (seqObj "list" #[] 0)=h3 at I3 ac⊢;generalize h2.objs.size=kS at I3 l I⊢;unfold ksk_rest;refine wpAny_bind (wpAny_rule ?_);rw[List.forIn_toArray];refine wpAny_bind (ksk_fold (λi s'=>∃H' a,aM X Za σ H' s'/\aG H H'/\H' D=Yb/\s'.heap.get? D=Ya (seqObj "list" #[] e1)/\H' kS=Ya (.lst ((a:List Ye).map V.ref))/\a.length=i/\∀(j:Nat) t,a[j]?=Ya t->∃k,ks[j]?=Ya k/\bC X.K H' t (k.map V.int)) its 0 _ ⟨_,[],I3,aD I,by rw[ak l.symm];exact f0,ac,ai,rfl,λj t h=>by simp at h⟩ ?_ ?_)
 ·rintro j x s' hx ⟨H',a,I',sm,J,gD,hK,lt,ht⟩;rw[adq]at lt;have hj:=(Yi.mp hx).1;have ad:xs[j]?=Ya xs[j]:=Yk (by omega);obtain⟨u',m,rx⟩:=rv.get ad;rw[hx]at m;cases m;have ae:ks[j]?=Ya ks[j]:=Yk (by omega);have am:tR X Za H' D:=⟨J,f1,f2,f3,f4,f5⟩;have IP:aM X (Za++uq [D] s'.heap) σ H' s':=I'.pinned (fp:=[D]) (λb Z=>by rw[Yh.mp Z];exact am) (λb Z=>by rw[Yh.mp Z];exact⟨_,gD,λv z=>nomatch z⟩);have Zj:=rN (X:=X.one.one) (vs:=[xs[j]]) (us:=[x]) (Q:=λz g=>∃t,z=.ref t/\aG H' g/\bC X.K g t (ks[j].map V.int)) (E:=E0) (Zl:=[]) (ds:=[]) F hr Z .nil (λ_ _ _ _ _ _ _ q=>q.elim) IP.one.one (.cons rx .nil) (by
   rw[gf];exact KY j _ _ H' _ ad ae sm λg t s4 h4=>⟨t,rfl,s4,h4⟩)
  refine wpAny_bind (wpAny_attempt (wpAny_mono Zj (λu s2 q=>?_) λ_ _ q=>q.elim));obtain⟨z,g,I4,rz,U,rfl,s4,an⟩:=q;cases rz;have I4:=aM.back IP.ok (aM.back IP.one.ok I4);have pD:=I4.pin (D,seqObj "list" #[] e1) (YF _ (YF _ (hG (by simp) gD)));have I5:=I4.unpinned;have K:=s4 _ _ hK;obtain⟨_,d,nk,rk,M,W⟩:=I5.lstM K;rw[Yf]at M;dsimp only;refine wpAny_bind (listUpdate_at W rfl ?_ (by rw[Yw,WU];omega) (by rw[Array.size_push,Yw,WU];omega));have I6:aM X Za σ (upd g kS (.lst ((a++[U]).map V.ref))) {s2 with heap:=s2.heap.update kS (WC (·.push (.ref U)))}:=I5.lset (t':=s2.toks) (its':=d++[.ref U]) K W (by simp) (by rw[Yt];exact L8 rk rfl) (by rw[Yf,Yq,YV,WU];omega);have nt:∀t N,bC X.K g t N->bC X.K (upd g kS (.lst ((a++[U]).map V.ref))) t N:=λt N h=>by
   rcases h with(h|⟨z,h⟩)|h
   ·exact .inl (.inl (by rw[ak (λz=>by rw[z,K]at h;cases h)];exact h))
   ·exact .inl (.inr ⟨z,by rw[ak (λz=>by rw[z,K]at h;cases h)];exact h⟩)
   ·exact .inr h
  refine wpAny_pure ⟨rfl,_,a++[U],I6,λb o e=>?_,?_,?_,ai,by rw[Yq,lt];simp,λj' t r=>?_⟩
  ·rw[ak (ay e I)];exact s4 _ _ (sm _ _ e)
  ·rw[ak l.symm];exact pD.2.1
  ·exact((Wv s2.heap kS (WC (·.push (.ref U)))).2 D l.symm).trans pD.1
  ·by_cases w:j'<a.length
   ·rw[Xf w]at r;obtain⟨k',L,O⟩:=ht j' t r;exact⟨k',L,nt _ _ (Ta.same s4 _ _ O)⟩
   ·have:j'=j:=by
     have:=(Yi.mp r).1;rw[Yq,YV]at this;omega
    subst this;rw[W9 (by omega),lt,acf]at r;cases r;exact⟨_,ae,nt _ _ an⟩
 rintro s' ⟨H',a,I',sm,J,gD,hK,lt,ht⟩;rw[adq]at lt;obtain⟨_,d,nk,rk,M,W⟩:=I'.lstM hK;rw[Yf]at M;refine wpAny_bind (listItems_at W rfl ?_);have R:∀i,i<d.length->Tn s'.heap (d.getD i .none) (ks.getD i []):=λi S=>by
  have Y:d[i]?=Ya d[i]:=Yk S;have ag:a[i]?=Ya a[i]:=Yk (by omega);obtain⟨k',L,O⟩:=ht i _ ag;obtain⟨u',m,ru⟩:=rk.get (show(a.map V.ref)[i]?=Ya (.ref a[i]) by rw[Yv,ag];rfl);rw[Y]at m;cases m;rw[YX,YX,Y,L];show Tn s'.heap d[i] k';rw[show d[i]=YA a[i]from ru];obtain⟨ia,ra,pa,_⟩:=I'.tuple O;obtain⟨o,ho,hc,n',hd⟩:=id pa;exact⟨kn k' (Yy L),_,o,_,n',rfl,ho,hc,hd,ji ra⟩
 have hT:∀v∈d,VL s'.heap v:=λv hv=>by
  obtain⟨i,Y⟩:=YR hv;have S:=(Yi.mp Y).1;have:=R i S;rw[YX,Y]at this;exact this.tpI
 have y:D≠kS:=l.symm;have fin:∀st:SortSt,failedOf st=Yb->(∃p,lM its.length p/\F1 ks its.length p/\(arrOf st).map (·.2)=Xn (p.toList.map λi=>its.getD i WL))->Yo (model X.prog X.w) X.A.in1.in1 (ksk_tail D false e1 (.ref kS) st) P E s':=by
  rintro st hf ⟨p,hp,od,eo⟩;obtain⟨wp,wv⟩:=JZ rv hp;have po:=R5 hp;generalize eo2:(p.toList.map λi=>its.getD i WL)=out at eo wv po;generalize ew:(p.toList.map λi=>xs.getD i V.non)=ws at wp wv;have ap:AU ks xs ws:=⟨p,by rw[lv];exact hp,ew.symm,by rw[lv];exact od⟩;unfold ksk_tail
  try dsimp only
  rw[eo];refine wpAny_bind (listUpdate_at W rfl ?_ (by rw[Yw,WU];omega) (Y6 _));have I6:aM X Za σ (upd H' kS (.lst [])) {s' with heap:=s'.heap.update kS (WC λ_=>(#[]:Array Yd))}:=I'.lset (t':=s'.toks) (its':=[]) (ys:=[]) hK W (by simp) .nil (Y6 _);have ah:(s'.heap.update kS (WC λ_=>(#[]:Array Yd))).get? D=Ya (seqObj "list" #[] e1):=((Wv s'.heap kS (WC λ_=>(#[]:Array Yd))).2 D y).trans gD;generalize s'.heap.update kS (WC λ_=>(#[]:Array Yd))=h6 at I6 ah⊢;refine wpAny_bind (wpAny_letGo ?_);refine FK (s:={s' with heap:=h6}) (out:=out.toArray) ah (by rw[Yw,po.length_eq,WU];omega) λh7 c k7 g7=>?_;rw[hf]
  wp_walk
  refine hR ws (upd H' kS (.lst [])) _ ap (λb o e=>?_) (by rw[ak y];exact J) ?_
  ·rw[ak (ay e I)];exact sm _ _ e
  ·exact aM.adopt (s:={s' with heap:=h6}) (t':=s'.toks) I6 k7 ⟨by rw[ak y];exact J,f1,f2,f3,f4,f5⟩ ⟨by rw[wp.length_eq,WU];omega,out,c,wv,g7⟩
 unfold ksk_end
 try dsimp only
 simp only[aaH,if_false];by_cases h2:its.toArray.size<2
 ·rw[if_pos h2,if_pos h2];refine wpAny_bind (wpAny_pure ?_);rw[StateT.run_pure];refine wpAny_bind (wpAny_pure ?_);refine fin _ rfl ⟨Xn (Y3 its.length),abt _,HN (by simpa using h2),?_⟩;rw[show((Xn (Y3 its.length)).toList.map λi=>its.getD i WL)=its from rm its _];show(d.toArray.zip its.toArray).map (·.2)=its.toArray;apply Array.toList_inj.mp;simp;exact List.map_snd_zip (by omega)
 ·rw[if_neg h2,if_neg h2];have aq:2<=its.length:=by simpa using h2
  obtain⟨fs,ar,ki,kl⟩:=Dv hT;refine wpAny_bind (PySem.W.kat_kind (T:=W6 "int") ar (by omega) (λv hv=>?_) (by decide) ?_)
  ·obtain⟨n',t',rfl⟩:=ki v hv;exact afe rfl
  have al:d.length=its.length:=by omega
  refine wpAny_bind (wpAny_mono (PySem.W.kat_run (ks:=d) (vs:=its) (Q:=λA B=>B=s'/\failedOf A=Yb/\∃p,(lM its.length p/\F1 ks its.length p)/\arrOf A=p.map (PySem.W.kas_item (d.toArray.zip its.toArray)))
   (G:=λp B=>B=s'/\lM its.length p/\F1 ks its.length p) al aq (by omega) (λp A B _ a2 a3 a4=>⟨a4.1,a3,p,a4.2,a2⟩) ?_) ?_ λ_ _ e=>e)
  ·refine Qk (n:=its.length) (b:=λi j=>Tc (ks.getD i []) (ks.getD j [])) (P:=λp=>lM its.length p/\F1 ks its.length p) (λi j C Y hj hC=>?_) (λp hp=>⟨rfl,hp⟩) _ (QP (by omega));unfold PySem.W.kas_ask;exact NX (R i (by omega)) (R j (by omega)) hC
  rintro⟨⟨⟩,A⟩ B ⟨rfl,hf,p,hp,as⟩;exact fin A hf ⟨p,hp.1,hp.2,PySem.W.kat_snds al as⟩
theorem Ma{l:Ye}{Q:Yd->Yl->Prop}(F:aF X.prog X.w X.K X.mg X.base bx k f fd ps sp)(m:cR k X.A.in1.in1)(n:Binds X.K fd ps [])(c:aM X Za σ H s)(hl:s.heap.IsList l its.toArray)(h:Vals xs its)(h64:xs.length<64)(lk:xs.length=ks.length)(kn:∀k∈ks,k≠[])(o:∀(i:Nat) x k d (j:VK),xs[i]?=Ya x->ks[i]?=Ya k->aG H d->(∀e t,aG d e->bC X.K e t (k.map V.int)->j (.ref t) e)->sp [x] d j E0)(p:∀D b H' s',H D=Yb->AU ks xs b->aG H H'->H' D=Yb->aM X Za σ (upd H' D (.lst b)) s'->Q (.ref D) s'):
  Yo (model X.prog X.w) X.A (call (.builtin "sorted") [.ref l] [(xu "key",.ref f)]) Q E s:=by
 have y:=h.length;refine Ii hl (by omega) (ksk_s1 _ _) (λ_=>ksk_l1 _ _) λh1 q r=>?_;have a:H (s.heap.objs.size+ 1)=none:=c.hok.fresh (Xh _);rw[ksk_t1];exact IC F m n (c.kept (t':=s.toks) q) (c.fpOk (Xh _) a) r h h64 lk kn o λb H' s' u v g w=>⟨rfl,p _ b H' s' a u v g w⟩
end
def JS(K:Yc)(sp:Sp)(x:V)(b:Hp)(Q:VK):Prop:=∃(l:Ye) (a:List V) (c:List (List Int)),x=.ref l/\bo K b l a/\a.length<64/\a.length=c.length/\(∀k∈c,k≠[])/\
 (∀(i:Nat) (x:V) (k:List Int) (d:Hp) (h:VK),a[i]?=Ya x->c[i]?=Ya k->aG b d->(∀e t,aG d e->bC K e t (k.map V.int)->h (.ref t) e)->sp [x] d h E0)/\
 ∀(D:Ye) (f:List V) (g:Hp),b D=Yb->f.Perm a->AU c a f->aG b g->g D=Ya (.lst f)->Q (.ref D) g
def KR(K:Yc)(sp:Sp)(a:TE):TE:=λσ H Q=>a σ H λx b=>JS K sp x b Q
section
theorem BJ{K:Yc}{p t v:Xr}{a:Yn}(w:X.K=K)(ha:PA X [e] (yn te Bd))(y:Gl X "sorted")(hm:X.mg "sorted"=Yb)(G:aF X.prog X.w X.K X.mg X.base bx k f fd ps sp)(c:X.mg a=Ya (.ref f))(d:Binds X.K fd ps [])(g:Gl X a)(z:cR (k+ 1) X.A)(i:(a==("__debug__":Yn))=false:=by decide)(h1:backTo pos (starEach [e] X.env)=(false,eval e X.env)::backTo pos (starEach [] X.env):=by rfl)(h2:(backTo pos (starEach [e] X.env)).any (·.1)=false:=by rfl):
  PE X (.Call (.Name "sorted" p) [e] [⟨Ya "key",.Name a t,v⟩] pos) (KR K sp te):=by
 subst w;intro A s σ H Q I h;refine WT (pR I y hm XU ?_);refine abi ?_ h1 h2;refine cz (ha pos A s σ H (λb j=>match b with|[x]=>JS X.K sp x j Q|_=>False) I h) λS T B=>?_;obtain⟨b,j,m,C,o⟩:=B;obtain⟨x,rfl⟩:∃x,b=[x]:=by
  match b,o with
  |[x],_=>exact⟨x,rfl⟩
 obtain⟨u,rfl,E⟩:=d9 C;obtain⟨l,U,V,ex,hl,h64,lk,kn,F,q⟩:=o;subst ex;cases E;refine aa4 (my m g c ?_ i);refine ac3 ?_;obtain⟨J,L,M,W⟩:=m.list hl;show Yo _ _ (call (.builtin "sorted") [YA l] [(xu "key",.ref f)]) _ _ _;refine Ma (H:=j) G (cR.two z) d m M.isList L h64 lk kn F λD N Y s' O r P n R=>?_;exact⟨.ref D,_,R,rfl,q D N _ O r.perm r (P.trans (aD n)) ai⟩
end
theorem OZ{K:Yc}{Q:VK}(h:te σ H λx a=>JS K sp x a Q):KR K sp te σ H Q:=h
section
theorem aM.thawT{o:Y9}(I:aM X Za σ H s)(h:H a=Ya (.frz o (.dT kvs)))(n1:∀xs,X.H₀ a≠Ya (.tup xs))(n2:∀o u,X.H₀ a≠Ya (.frz o u))(n3:∀ps,X.H₀ a≠Ya (.tbl ps)):aM X Za σ (upd H a (.dT kvs)) s:=by
 have ne:∀b,H b=Yb->b≠a:=λb q z=>by rw[z,h]at q;cases q
 have b:=I.base;refine⟨I.ok,I.os,I.bare,⟨b.keep,b.slot,λc g e n x=>?_,b.there,λc xs e=>?_,λc g u e=>?_,λc ps e=>?_⟩,I.loc,I.cell,by rw[ak (ne _ I.free)];exact I.free,λx c z=>by rw[ak (ne _ (I.freeC x c z))];exact I.freeC x c z,
  λp hp=>let ⟨p1,p2,p3⟩:=I.pin p hp;⟨p1,by rw[ak (ne _ p2)];exact p2,p3⟩,λc u e=>?_,I.len⟩
 ·have q:=b.free c g e n x;rw[ak (ne _ q)];exact q
 ·have f:c≠a:=λz=>n1 _ (z▸e);rw[ak f];exact b.tups c xs e
 ·have f:c≠a:=λz=>n2 _ _ (z▸e);rw[ak f];exact b.frzs c g u e
 ·have f:c≠a:=λz=>n3 _ (z▸e);rw[ak f];exact b.tbls c ps e
 ·by_cases i:c=a
  ·subst i;rw[ai]at e;cases e;obtain⟨z,y,xs,j,k⟩:=(show bZ X.prog X.w H s.heap c (.dT kvs)from(I.hok c _ h).2);exact⟨z,y,xs,KT.keeps j λd l q=>by rw[ak (λz=>by rw[z,h]at q;cases q)];exact q,k⟩
  ·rw[ak i]at e;refine(I.hok c u e).stay (λ_ _ _ q=>q) (λd q=>?_) λd xs q=>?_
   ·rw[ak (λz=>by rw[z,h]at q;cases q)];exact q
   ·rw[ak (λz=>by rw[z,h]at q;cases q)];exact q
def Lp(t:TS):TS:=λD σ H=>∃a b,H a=Ya (.dT b)/\t {D with nx:=λd c=>(∃o,c a=Ya (.frz o (.dT b)))/\D.nx d (upd c a (.dT b)),rt:=λv c=>(∃o,c a=Ya (.frz o (.dT b)))/\D.rt v (upd c a (.dT b))} σ H
theorem MV{st:YT}(h:PS X st t):PS X st (Lp t):=by
 intro g s σ H D I hw;obtain⟨a,i,ha,j⟩:=hw;have n1:∀b,X.H₀ a≠Ya (.tup b):=λb e=>by have:=I.base.tups a b e;rw[ha]at this;cases this
 have n2:∀o u,X.H₀ a≠Ya (.frz o u):=λo u e=>by have:=I.base.frzs a o u e;rw[ha]at this;cases this
 have n3:∀ps,X.H₀ a≠Ya (.tbl ps):=λps e=>by obtain⟨m,q⟩:=I.base.tbls a ps e;rw[ha]at q;cases q
 refine cz (h g s σ H _ I j) λf l q=>?_;cases f with
 |next=>
  obtain⟨c,k,d,⟨o,e⟩,n⟩:=q;exact⟨c,_,d.thawT e n1 n2 n3,n⟩
 |brk=>exact q
 |cont=>exact q
 |ret u=>
  obtain⟨v,c,k,d,r,⟨o,e⟩,n⟩:=q;exact⟨v,c,_,d.thawT e n1 n2 n3,r,n⟩
end
theorem OO{D:p5}(hd:H d=Ya (.dT kvs))(h:t {D with nx:=λa H'=>(∃o,H' d=Ya (.frz o (.dT kvs)))/\D.nx a (upd H' d (.dT kvs)),rt:=λv H'=>(∃o,H' d=Ya (.frz o (.dT kvs)))/\D.rt v (upd H' d (.dT kvs))} σ H):Lp t D σ H:=⟨d,kvs,hd,h⟩
section
variable{cs fs:List Ye}
end
section
variable{K:Yc}{E:XK}
end
section
end
section
end
section
variable{K:Yc}
end
section
end
section
variable{K:Yc}
end
section
end
section
variable{me hd ba ye vo re ag:V}
end
section
variable{m:Yn}{Ze:Xr}{o:Y2}{es:List Y2}{ta:TE}{t:TA}
end
section
variable{Q:VK}
end
section
end
section
variable{K:Yc}{E:XK}
end
section
variable{K:Yc}
end
section
variable{K:Yc}
end
def BB(P:YO)(w:YW):LV:=λouter H s E e s'=>∃(c C:Ye) (d:Yd) (B:YK) (a:Hp),e=.ref c/\s'.os=s.os/\aat s'.gens/\Un (lL outer) [] H a s.heap s'.heap/\lO P w a s'.heap/\
 adu B outer c (.ref C) d s'.heap/\(∀b o,s'.heap.get? b=Ya o->b∉lL outer->((∃f,s.heap.get? b=Ya f)∨∃u,a b=Ya u)->B.get? b=Ya o)/\a c=Yb/\E (.ref c) (Ya C) a
theorem bZ.at{o:HO}(x:bZ P w H h a o):∃ob,h.get? a=Ya ob:=by
 cases o with
 |lst xs=>obtain⟨_,_,_,_,e⟩:=x;exact⟨_,e⟩
 |tup xs=>obtain⟨_,_,_,ob,e,_⟩:=x;exact⟨_,e⟩
 |dK kvs=>obtain⟨_,_,_,_,o,_,_,e,_⟩:=x;exact⟨_,e⟩
 |dT kvs=>obtain⟨_,_,_,_,o,_,_,e,_⟩:=x;exact⟨_,e⟩
 |set S n=>obtain⟨o,_,_,_,e,_⟩:=x;exact⟨_,e⟩
 |ins C dx fs=>obtain⟨_,_,_,e,_⟩:=x;exact⟨_,e⟩
 |own _=>exact x
 |xd fs=>obtain⟨_,⟨o,_,_,e,_⟩,_⟩:=x;exact⟨_,e⟩
 |rng lo hi=>obtain⟨_,_,_,e⟩:=x;exact⟨_,e⟩
 |frz o u=>exact⟨_,x.1⟩
 |tbl ps=>exact⟨_,x⟩
 |met f x'=>exact⟨_,x⟩
 |ext φ=>exact x.2.1
theorem Cn{H:Hp}{J:Yl}(I:aM X Za σ H J)(y:X.ex=[])(U:X.prog=P)(hw:X.w=w)(un:Un (lL X.stack) [] H H' J.heap s'.heap)(hok:lO P w H' s'.heap)(K:∀b o,s'.heap.get? b=Ya o->b∉lL X.stack->((∃i,X.s₀.heap.get? b=Ya i)∨∃u,H' b=Ya u)->B.get? b=Ya o)(st:B.StaysIn h')(up:s'.heap.UpToSlots h')(l:X.stack=X.env::X.outer):
  Un (lL X.outer) [] X.H₀ H' X.s₀.heap h'/\lO P w H' h'/\∀b o,h'.get? b=Ya o->b∉lL X.outer->((∃i,X.s₀.heap.get? b=Ya i)∨∃u,H' b=Ya u)->B.get? b=Ya o:=by
 have base:=I.base;rw[y]at base;have m:∀b,b∈lL X.stack->H' b=none:=λb f=>by
  obtain⟨_,o,ho,_⟩:=I.stack.mem f;exact un.free b o ho (I.stkFree b f) (by simp)
 have p:∀b,b∈lL X.outer->b∈lL X.stack:=λb f=>by
  rw[l];unfold lL;rw[aau];cases X.env.frame with
  |none=>exact f
  |some _=>exact Yp _ f
 have lo:∀b o,X.s₀.heap.get? b=Ya o->b∉lL X.outer->b∉lL X.stack:=λb o e n z=>by
  rcases Ym.mp (I.stkSub b z)with q|q
  ·rw[q]at e;exact absurd (Yu e) (aen.mpr I.ok.above)
  ·exact n q
 have g:∀b o,s'.heap.get? b=Ya o->b∈lL X.stack->∃s,h'.get? b=Ya {o with slots:=s}:=λb o e f=>by
  obtain⟨_,j,A,O⟩:=I.stack.mem f;obtain⟨s,d⟩:=un.slot b j A (I.stkFree b f) f (by simp);rw[e]at d;cases d;exact up b _ e O
 have c:∀b o,s'.heap.get? b=Ya o->b∉lL X.stack->((∃i,X.s₀.heap.get? b=Ya i)∨∃u,H' b=Ya u)->h'.get? b=Ya o:=λb o e n r=>st b o (K b o e n r);refine⟨⟨λb o e n h _=>?_,λb o e n h _=>?_,λb o e n _=>?_,λb o e _=>?_,λb L e=>un.tups b L (base.tups b L e),λb o u e=>un.frzs b o u (base.frzs b o u e),λb ps e=>?_⟩,λa u e=>?_,λb o e h r=>?_⟩
 ·have d:=base.keep b o e n h (by simp);have ns:=lo b o e h;exact c b o (un.keep b o d (base.free b o e n (by simp)) ns (by simp)) ns (.inl ⟨o,e⟩)
 ·obtain⟨s,d⟩:=base.slot b o e n h (by simp);obtain⟨Q,k⟩:=un.slot b _ d (base.free b o e n (by simp)) (p b h) (by simp);obtain⟨C,D⟩:=g b _ k (p b h);exact⟨C,D⟩
 ·obtain⟨j,d⟩:=base.there b o e (by simp);exact un.free b j d (base.free b o e n (by simp)) (by simp)
 ·obtain⟨j,d⟩:=base.there b o e (by simp);obtain⟨E,k⟩:=un.there b j d (by simp);by_cases h:b∈lL X.stack
  ·obtain⟨s,D⟩:=g b E k h;exact⟨_,D⟩
  ·exact⟨E,c b E k h (.inl ⟨o,e⟩)⟩
 ·obtain⟨R,d⟩:=base.tbls b ps e;obtain⟨S,k⟩:=un.tbls b _ d;exact⟨R++S,by rw[k,adi]⟩
 ·refine(hok a u e).stay (λb o f q=>?_) (λ_ q=>q) λ_ _ q=>q;have tr:∃v,H' b=Ya v:=by
   rcases f with z|z
   ·exact⟨u,z▸e⟩
   ·exact⟨_,z⟩
  refine c b o q (λz=>?_) (.inr tr);obtain⟨v,M⟩:=tr;rw[m b z]at M;cases M
 ·have F:∃t,s'.heap.get? b=Ya t:=by
   rcases r with⟨i,G⟩|⟨u,x⟩
   ·obtain⟨j,d⟩:=base.there b i G (by simp);exact un.there b j d (by simp)
   ·exact(hok b u x).at
  obtain⟨t,T⟩:=F;have ns:b∉lL X.stack:=λz=>by
   rcases r with⟨i,G⟩|⟨u,x⟩
   ·exact lo b i G h z
   ·rw[m b z]at x;cases x
  have N:=K b t T ns r;rw[st b t N]at e;cases e;exact N
section
variable{K:Yc}{E:XK}
theorem UX:rV (BB P w) (nX (BB P w) P w K mg base N Zb scope f cd A outer s H E) E:=by
 intro v σ x y e s' I h;obtain⟨c,C,d,B,g,rfl,os,i,un,hok,j,k,hn,q⟩:=h;refine wpAny_leaves_onW I.ok.frames rfl j λD a up=>?_;obtain⟨l,m,p⟩:=Cn I rfl rfl rfl un hok (λb o e n r=>k b o e n (r.imp (fun⟨t,u⟩=>I.base.there b t u (by intro z;cases z)) id)) a.1 up rfl;exact⟨c,C,d,B,g,rfl,os.trans I.os,i,l,m,a,p,hn,q⟩
def yW(K:Yc)(C N:Ye)(up:List Yd)(c:String):Prop:=∃d e bs a sn sub ab b dd f g h i j,K.lookup C=Ya (excClassObj d e C N bs up a sn sub ab b dd f g h i j c)
theorem yW.mk{K:Yc}{N:Ye}{up:List Yd}{c d bs a sn sub ab b dd e f g i j}(h:K.lookup C=Ya (excClassObj c d C N bs up a sn sub ab b dd e f g i j Zc)):yW K C N up Zc:=⟨_,_,_,_,_,_,_,_,_,_,_,_,_,_,h⟩
def LN(K:Yc)(C D:Ye):Prop:=∃N up a,yW K C N up a/\up.contains (.type "BaseException")=true/\(YA C::up).contains (.ref D)=true
end
def Wg(a C:Ye):YK->Prop:=λh=>∃o,h.get? a=Ya o/\o.cls=.ref C
abbrev xO(a C:Ye):HO:=.ext (Wg a C)
section
variable{h2:YK}{ea:Ye}{a0:Yd}
theorem DS(I:aM X Za σ H s)(os:s'.os=s.os)(L:aat s'.gens)(un:Un (lL X.stack) [] H H' s.heap s'.heap)(hok:lO X.prog X.w H' s'.heap)(D:adu B X.stack ea (.ref C) a0 s'.heap)
  (E:∀b o,s'.heap.get? b=Ya o->b∉lL X.stack->((∃p,s.heap.get? b=Ya p)∨∃u,H' b=Ya u)->B.get? b=Ya o) (hn:H' ea=Yb) (j:adu B X.stack ea (.ref C) a0 h2) (up:s'.heap.UpToSlots h2):
  aM X Za σ (upd H' ea (xO ea C)) {s' with heap:=h2}:=by
 have st:=j.1;have t:∀b,b∈lL X.stack->H' b=none:=λb h=>by
  obtain⟨_,o,ho,_⟩:=I.stack.mem h;exact un.free b o ho (I.stkFree b h) (by simp)
 have d:∀b o,s'.heap.get? b=Ya o->b∈lL X.stack->(∀F,o.data≠.fields F)/\∃m,h2.get? b=Ya {o with slots:=m}:=λb o e h=>by
  obtain⟨_,i,x,G⟩:=I.stack.mem h;obtain⟨m,c⟩:=un.slot b i x (I.stkFree b h) h (by simp);rw[e]at c;cases c;exact⟨G,up b _ e G⟩
 have f:∀b o,s'.heap.get? b=Ya o->b∉lL X.stack->((∃p,s.heap.get? b=Ya p)∨∃u,H' b=Ya u)->h2.get? b=Ya o:=λb o e n r=>st b o (E b o e n r);have ne:∀b o,s.heap.get? b=Ya o->b≠ea:=λb o e z=>by
  subst z;obtain⟨i,c⟩:=un.there b o e (by simp);obtain⟨R,F,l,_,M,_⟩:=D.first;rw[c]at l;cases l;by_cases g:b∈lL X.stack
  ·exact(d b _ c g).1 _ M
  ·have:=E b _ c g (.inl ⟨o,e⟩);rw[D.2.1]at this;cases this
 have neT:∀{b u},H' b=Ya u->b≠ea:=λe z=>by rw[z,hn]at e;cases e
 refine I.call' (s':={s' with heap:=h2}) (ch:=[]) os ⟨λb o e n g _=>?_,λb o e n g _=>?_,λb o e n _=>?_,λb o e _=>?_,λb J e=>?_,λb o u e=>?_,λb ps e=>?_⟩ (λa u e=>?_) L (λb z=>absurd z (by simp))
 ·exact f b o (un.keep b o e n g (by simp)) g (.inl ⟨o,e⟩)
 ·obtain⟨m,c⟩:=un.slot b o e n g (by simp);obtain⟨_,y,A⟩:=d b _ c g;exact⟨y,A⟩
 ·rw[ak (ne b o e)];exact un.free b o e n (by simp)
 ·obtain⟨i,c⟩:=un.there b o e (by simp);by_cases g:b∈lL X.stack
  ·obtain⟨_,m,A⟩:=d b i c g;exact⟨_,A⟩
  ·exact⟨i,f b i c g (.inl ⟨o,e⟩)⟩
 ·have c:=un.tups b J e;rw[ak (neT c)];exact c
 ·have c:=un.frzs b o u e;rw[ak (neT c)];exact c
 ·obtain⟨N,c⟩:=un.tbls b ps e;exact⟨N,by rw[ak (neT c)];exact c⟩
 ·by_cases z:a=ea
  ·subst z;rw[ai]at e;cases e;obtain⟨ob,l,O⟩:=j.there;exact⟨⟨ob,l,O⟩,⟨ob,l⟩,λh3 h4 ⟨o,P,Q⟩ k=>⟨o,k o P,Q⟩⟩
  ·rw[ak z]at e;refine(hok a u e).stay (λb o h q=>?_) (λb q=>by rw[ak (neT q)];exact q) λb J q=>by rw[ak (neT q)];exact q
   have tr:∃v,H' b=Ya v:=by
    rcases h with w|w
    ·exact⟨u,w▸e⟩
    ·exact⟨_,w⟩
   refine f b o q (λz=>?_) (.inr tr);obtain⟨v,K⟩:=tr;rw[t b z]at K;cases K
end
abbrev Cx.hnd(X:Cx)(e:Yd):Cx:={X with A:=X.A.mark (Ya e),calm:=false,xe:=λ_ _=>False}
theorem aM.hnd(I:aM X Za σ H s)(e:Yd):aM (X.hnd e) Za σ H s:=
 ⟨⟨I.ok.mod,I.ok.kind,I.ok.glob,I.ok.blt,I.ok.above,I.ok.inj,I.ok.has,I.ok.cab,(λz=>nomatch z),I.ok.frames,I.ok.stk,I.ok.exf,I.ok.bs,I.ok.bsz,I.ok.noex,I.ok.exfs,I.ok.funs,I.ok.frf⟩,I.os,I.bare,I.base,I.loc,I.cell,I.free,I.freeC,I.pin,I.hok,I.len⟩
theorem aM.unhnd{e:Yd}(ok:X.Ok)(I:aM (X.hnd e) Za σ H s):aM X Za σ H s:=
 ⟨ok,I.os,I.bare,I.base,I.loc,I.cell,I.free,I.freeC,I.pin,I.hok,I.len⟩
section
end
section
variable{M:aeP}
theorem Im{g:Array aeS}{d:aec}{t:Nat}{os:OsState}{N y:Ye}{z q m B:Yn}{bs v n c:List Yd}{i f:Bool}{sn o:List Yn}{sub j:List Yd}{ab p:Bool}{r k:Option Bool}{dd s:Option Ye}{F G H I J K L O P R:Option Yd}{a:String}{e:Ye}{w:Y9}{b:Bool}(S:h.get? C=Ya (excClassObj z q C N bs v i sn sub ab r dd F G H I J Zc))(x:h.get? D=Ya (excClassObj m B D y n c f o j p k s K L O P R a))(T:h.get? e=Ya w)(l:w.cls=.ref C)(u:c.contains (.type "BaseException")=true)(U:(YA C::v).contains (.ref D)=b)(V:Q b ⟨h,g,d,t,os⟩):Yo M A (excMatches (.ref e) (.ref D)) Q E ⟨h,g,d,t,os⟩:=by
 have W:(YA D::c).contains (.type "BaseException")=true:=by rw[adv,u,aeY]
 have X:=tc_notTuple;unfold excMatches
 repeat(first
  |(with_reducible refine abn x ?_;rw[W])
  |(with_reducible refine abn S ?_;rw[U])
  |(with_reducible refine aai T ?_;rw[l])
  |with_reducible refine aai x ?_
  |wp_step)
 cases b<;>(wp_walk;exact V)
end
abbrev Cx.tr(X:Cx)(a:List (Ye×Y9))(b:St->XK):Cx:={X with pn:=X.pn++a,xe:=λe s'=>∃σ H s,aM X a σ H s/\BB X.prog X.w X.stack H s (b σ) e s'}
section
variable{Zo:List (Ye×Y9)}{EE:St->XK}
theorem aM.tr(I:aM X Za σ H s)(a:St->XK):aM (X.tr Za a) [] σ H s:=
 ⟨⟨I.ok.mod,I.ok.kind,I.ok.glob,I.ok.blt,I.ok.above,I.ok.inj,I.ok.has,I.ok.cab,I.ok.hd,I.ok.frames,I.ok.stk,I.ok.exf,I.ok.bs,I.ok.bsz,I.ok.noex,I.ok.exfs,I.ok.funs,I.ok.frf⟩,I.os,I.bare,I.base,I.loc,I.cell,I.free,I.freeC,by rw[gf];exact I.pin,I.hok,I.len⟩
theorem aM.untr(I:aM (X.tr Za EE) Zo σ H s):aM X Za σ H s:=
 ⟨⟨I.ok.mod,I.ok.kind,I.ok.glob,I.ok.blt,I.ok.above,I.ok.inj,I.ok.has,I.ok.cab,I.ok.hd,I.ok.frames,I.ok.stk,I.ok.exf,I.ok.bs,I.ok.bsz,I.ok.noex,I.ok.exfs,I.ok.funs,I.ok.frf⟩,I.os,I.bare,I.base,I.loc,I.cell,I.free,I.freeC,λp hp=>I.pin p (Y1 _ hp),I.hok,I.len⟩
theorem SP.untr{D:p5}{f:Flow}(h:SP (X.tr Za EE) Zo D f s'):SP X Za D f s':=by
 cases f with
 |next=>obtain⟨a,b,I,q⟩:=h;exact⟨a,b,I.untr,q⟩
 |brk=>obtain⟨a,b,I,q⟩:=h;exact⟨a,b,I.untr,q⟩
 |cont=>obtain⟨a,b,I,q⟩:=h;exact⟨a,b,I.untr,q⟩
 |ret u=>obtain⟨v,a,b,I,r,q⟩:=h;exact⟨v,a,b,I.untr,r,q⟩
end
end L2
namespace L2
open PySem PySem.Spec PyProof.Rows PySem.W
section
variable{prog:YO}{w:YW}{A:nh}{E:Yd->Yl->Prop}{K:Yc}{x C:Ye}
def T7(h:YK)(x C:Ye):Prop:=∃o,h.get? x=Ya o/\o.cls=.ref C
theorem T7.type{M:aeP}{h:YK}(I:T7 h x C):Looks M h (typeOf (.ref x)) (.ref C):=by
 obtain⟨o,e,c⟩:=I;exact c▸(Looks.ld e).andThen .now
end
end L2
namespace L2
open PySem PySem.Spec PyProof.Rows
variable{x:Yn}{f:Ye}{fd:Yx}{ps:List Yn}{k:Nat}{sp:Sp}{X:Cx}
section
variable{P:YO}{w:YW}{K:Yc}{mg:Yn->Option Yd}{base:YK}
theorem bH.okX{c:Yn}{st:YT}{N:List Yn}(F:bH K x c st f fd)(S:aE N ps (ao st))(len:∀vs H Q E,sp vs H Q E->vs.length=ps.length)(b:∀(a:Yd) (A:nh) (outer:List aad) (s:Yl) (H:Hp) (vs:List V) (Q:VK) (E:XK),cR k (A.deeper (envOfC c (ao st) s.heap.objs.size f a))->sp vs H Q E->
   ∃t,BA (nX (BB P w) P w K mg base N c (ao st) f a A outer s H E) (dN st) t/\t {nx:=λ_ g=>Q .non g,rt:=Q} (start N vs) H):aF P w K mg base (BB P w) (k+ 1) f fd ps sp:=by
 obtain⟨l,od,kV,h,m,n,a,ct,i,rfl,lk,d⟩:=F.ex;exact JJ lk d S len λA outer s H vs Q E j e=>b a A outer s H vs Q E j e
end
section
variable{e:Y2}{es:List Y2}{t:TA}{p pos:Xr}
end
section
variable{D:p5}{σ:St}{H:Hp}{Q:VK}
end
section
variable{tg:Y2}
end
end L2
namespace L2
open PySem PySem.Spec PyProof.Rows PySem.W
variable{prog P:YO}{w:YW}{A:nh}{E:Yd->Yl->Prop}{x C d dx e f a:Ye}{name:Yn}{v:Yd}{s:Yl}{mA:Yn->Option Yd}{ns:List Yn}{tk:aay}{up Zx:List Yd}{R:aaj->Yl->Prop}{Q:Unit->Yl->Prop}{H:Hp}{h:YK}{fs:List (Yn×V)}{X:Cx}{Za:List (Ye×Y9)}{σ:St}{pos:Xr}{B Zc Zm:String}
section
variable{K:Yc}
theorem Hj{Q:ab6->Yl->Prop}(N:s.heap.Ns1 d mA)(hw:aby mA ns)(hz:ns.length<=sizeLine)(h:∀h',h'.Ns1 d (λy=>if y=name then Ya v else mA y)->Wt d s.heap h'->Q (.done (.ret .none)) {s with heap:=h',toks:=s.toks+ 1}):
  Yo (model prog w) A (Builtin.ObjectAttr.storeInDict d (.str name tk) name v) Q E s:=by
 refine wpAny_bind (wpAny_pure (wpAny_bind (wpAny_nsSet1 N λh' a c=>?_)));obtain⟨o,e,f,ho,hd,b⟩:=a.count (Within.cons name v hw);rw[cw]at b;exact wpAny_bind (wpAny_lookBehind ho (by rw[hd];exact adU (cb b (Xb hz))) (wpAny_pure (h _ a c)))
def Vt(up:List Yd):Prop:=∃cs:List Ye,up=cs.map YA++[.type "ValueError",.type "Exception",.type "BaseException",.type "object"]
theorem Vt.pass(u:Vt up)(self:Yd):refuseLoop self "__setattr__" up=pure ():=by
 obtain⟨cs,rfl⟩:=u
 induction cs with
 |nil=>exact PySem.F.store_ValueError.passes self
 |cons c cs ih=>exact(refuseLoop_ref _ _ _ _).trans ih
structure M8(K:Yc)(C:Ye):Prop where
 sa:YZ K (.ref C) "__setattr__"=Ya (Ya (.builtin "object.__setattr__"))
 hm:abD K C (.type "object")=Ya true
 cl:∃cd up,ac5 K C=Ya cd/\cd.hasDict=true/\cd.mro=.ref C::up/\Vt up
theorem GG{b:ClassData}(F:M8 K C)(X:K.In s.heap)(I:T7 s.heap x C)(c:ac5 K C=Ya b)(hm:b.mro=.ref C::up)(u:Vt up)(hn:YZ K (.ref C) name=Ya Yb)(h:Yo (model prog w) A.in1 (Builtin.ObjectAttr.storeInOwnDict (.ref x) (.ref C) (.str name tk) name v false)
   (λfin s'=>match fin with| .done f=>R (.ok f) s'| .again c'=>c'.quiet=true/\sq (model prog w) A c' R s') (λe s'=>R (.error e) s') s):
  sq (model prog w) A (.call (.builtin "object.__setattr__") ⟨[.ref x,.str name tk,v],[]⟩) R s:=by
 have a:=PySem.F.store_object;have T:=I.type (M:=model prog w);refine codeAny_call_builtin a.slot.plain a.entry (@check_slot (model prog w) _ _ s "object.__setattr__" "object" "__setattr__" (.ref x) [.str name tk,v] [] _ a.kind a.split (T.andThen (looks_mroIn X F.hm)) (a.args (.ref x) (.str name tk) v) ?_);have M1:Looks (model prog w) s.heap (mroOf (.ref C)) (.ref C::up):=hm▸(looks_clsIn X c).andThen .now;rw[osa_eq,refuse_eq];refine wpAny_bind (wpAny_bind (T.here (wpAny_bind (M1.here ?_))));rw[refuseLoop_ref,u.pass];exact wpAny_pure (wpAny_bind (T.here (wpAny_bind ((looks_findIn X hn).here (wpAny_bind (wpAny_pure h))))))
end
section
variable{K:Yc}{vs:Array Yd}{sl:Array (Option Yd)}
theorem OP(F:M8 K C)(X:K.In s.heap)(a:s.heap.get? x=Ya ⟨.ref C,Yb,.fields vs,sl⟩)(hn:YZ K (.ref C) name=Ya Yb)(h:∀h',h'.get? x=Ya ⟨.ref C,Ya s.heap.objs.size,.fields vs,sl⟩->h'.Ns1 s.heap.objs.size (λy=>if y=name then Ya v else Yb)->(∀b o,b≠x->s.heap.get? b=Ya o->h'.get? b=Ya o)->Q () {s with heap:=h',toks:=s.toks+ 2}):
  Yo (model prog w) A (setAttr (.ref x) name v) Q E s:=by
 obtain⟨q,up,f,hd,hm,u⟩:=F.cl;obtain⟨hp,g,d,t,os⟩:=s;have J:InstAt hp x ⟨.ref C,Yb,.fields vs,sl⟩ C none:=⟨a,rfl,rfl,W7⟩;have j:T7 hp x C:=⟨_,a,rfl⟩;refine abP X J F.sa (GG (s:=⟨hp,g,d,t+ 1,os⟩) F X j f hm u hn ?_);refine wpAny_bind (wpAny_pure (wpAny_bind (wpAny_bind (wpAny_loadPart a (wpAny_bind (abz (s:=⟨hp,g,d,t+ 1,os⟩) (abl X f) ?_))))));rw[hd];have lt:x<hp.objs.size:=Yu a;have ne:x≠hp.objs.size:=YE lt;have c:(hp.push emptyDict).get? x=Ya ⟨.ref C,Yb,.fields vs,sl⟩:=Yg _ a;refine wpAny_bind (wpAny_alloc (wpAny_bind (wpAny_update c (wpAny_pure ?_))));have k:=Ww (λo:Y9=>{o with dict:=Ya hp.objs.size}) c rfl;have l:=(adg (hp.push emptyDict) hp.objs.size x (λo:Y9=>{o with dict:=Ya hp.objs.size}) (cT ne)).trans (Yr hp rfl);refine Hj (s:=⟨(hp.push emptyDict).update x λo=>{o with dict:=Ya hp.objs.size},g,d,t+ 1,os⟩) (mA:=λ_=>Yb) (ns:=[]) (Heap.Ns1.of_empty ⟨emptyDict,#[],_,l,rfl,(λe m=>absurd m (by simp)),λ_=>rfl⟩) (λy z=>absurd rfl z) (Y6 _) λh' n i=>?_;refine h h' ((i.2 x ne).trans k) n λb o p e=>?_;exact(i.2 b (YE (Yu e))).trans ((adg _ _ _ _ p).trans (Yg _ e))
theorem Ov(F:M8 K C)(X:K.In s.heap)(b:s.heap.get? x=Ya ⟨.ref C,Ya dx,.fields vs,sl⟩)(N:s.heap.Ns1 dx mA)(hw:aby mA ns)(hz:ns.length<=sizeLine)(hn:YZ K (.ref C) name=Ya Yb)(h:∀h',h'.Ns1 dx (λy=>if y=name then Ya v else mA y)->Wt dx s.heap h'->Q () {s with heap:=h',toks:=s.toks+ 2}):
  Yo (model prog w) A (setAttr (.ref x) name v) Q E s:=by
 obtain⟨j,up,c,hd,hm,u⟩:=F.cl;obtain⟨hp,g,d,t,os⟩:=s;obtain⟨od,k,l,ho,r⟩:=id N;have J:InstAt hp x ⟨.ref C,Ya dx,.fields vs,sl⟩ C (Ya od):=⟨b,rfl,rfl,ho⟩;have e:T7 hp x C:=⟨_,b,rfl⟩;refine abP X J F.sa (GG (s:=⟨hp,g,d,t+ 1,os⟩) F X e c hm u hn ?_);refine wpAny_bind (wpAny_pure (wpAny_bind (wpAny_bind (wpAny_loadPart b (wpAny_bind (abz (s:=⟨hp,g,d,t+ 1,os⟩) (abl X c) ?_))))));rw[hd];refine wpAny_pure (a:=Ya dx) ?_;exact Hj (s:=⟨hp,g,d,t+ 1,os⟩) N hw hz λh' f i=>h h' f i
end
def Tf(e C:Ye)(od:Option Ye):YK->Prop:=λh=>∃a b c,h.get? e=Ya ⟨.ref C,od,.fields a,b⟩/\a[0]?=Ya c/\a[1]?=Ya .none
abbrev xM(e C:Ye)(od:Option Ye):HO:=.ext (Tf e C od)
def Ve(d:Ye)(fs:List (Yn×V)):YK->Prop:=λh=>∃a,h.Ns1 d a/\(∀f,ku (fs.lookup f) (a f))/\aby a (fs.map (·.1))
abbrev xN(d:Ye)(fs:List (Yn×V)):HO:=.ext (Ve d fs)
theorem Tf.ok{od:Option Ye}(x:Tf e C od h):bZ P w H h e (xM e C od):=by
 obtain⟨a,b,c,g,r⟩:=id x;exact⟨x,⟨_,g⟩,λh1 h2 ⟨a,b,c,g,r⟩ k=>⟨a,b,c,k _ g,r⟩⟩
theorem Ve.ok(x:Ve d fs h):bZ P w H h d (xN d fs):=by
 obtain⟨mA,n,_⟩:=id x;obtain⟨o,_,_,g,_⟩:=id n;exact⟨x,⟨o,g⟩,λh1 h2 ⟨mA,n,r⟩ k=>⟨mA,n.at k,r⟩⟩
section
variable{f:Yn}{y:V}{u:Yd}
theorem aM.both{h':YK}{t':Nat}{φ a d:YK->Prop}(I:aM X Za σ H s)(f:H e=Ya (.ext φ))(k:∀b o,b≠e->s.heap.get? b=Ya o->h'.get? b=Ya o)(hp:s.heap.objs.size<=dx)(ne:dx≠e)
  (n1:bZ X.prog X.w (upd (upd H dx (.ext a)) e (.ext d)) h' e (.ext d)) (n2:bZ X.prog X.w (upd (upd H dx (.ext a)) e (.ext d)) h' dx (.ext a)):aM X Za σ (upd (upd H dx (.ext a)) e (.ext d)) {s with heap:=h',toks:=t'}:=by
 have j:H dx=none:=I.hok.fresh hp;have go:∀{b o},H b=Ya o->(∀φ,o≠.ext φ)->upd (upd H dx (.ext a)) e (.ext d) b=Ya o:=fun{b o} q n=>by
  rw[ak (λz=>by rw[z,f]at q;cases q;exact n _ rfl),ak (λz=>by rw[z,j]at q;cases q)];exact q
 have nn:∀{b},H b=Yb->b≠e:=fun{b} q z=>by rw[z,f]at q;cases q
 obtain⟨l,m⟩:∃o,h'.get? e=Ya o:=n1.2.1;refine I.un ⟨λb o q n _ _=>k b o (nn n) q,λb o q n _ _=>⟨o.slots,k b o (nn n) q⟩,λb o q n _=>?_,λb o q _=>?_,λb p q=>go q (by intro _ z;cases z),λb o u q=>go q (by intro _ z;cases z),λb ps q=>⟨#[],by rw[adw];exact go q (by intro _ z;cases z)⟩⟩ λb u q=>?_
 ·rw[ak (nn n),ak (YE (YU (Yu q) hp))];exact n
 ·by_cases z:b=e
  ·exact⟨l,z▸m⟩
  ·exact⟨o,k b o z q⟩
 ·by_cases z:b=e
  ·subst z;rw[ai]at q;cases q;exact n1
  ·rw[ak z]at q;by_cases h:b=dx
   ·subst h;rw[ai]at q;cases q;exact n2
   ·rw[ak h]at q;refine(I.hok b u q).stay (λc o t g=>k c o (λi=>?_) g) (λc r=>go r (by intro _ z;cases z)) λc p r=>go r (by intro _ z;cases z);rcases t with w|w
    ·exact z (w▸i)
    ·rw[i,f]at w;cases w
theorem T6(I:aM X Za σ H s)(a:H e=Ya (xM e C Yb))(F:M8 X.K C)(hn:YZ X.K (.ref C) f=Ya Yb)(b:RelV y u)(h:∀s' dx,H dx=Yb->dx≠e->aM X Za σ (upd (upd H dx (xN dx [(f,y)])) e (xM e C (Ya dx))) s'->Q () s'):Yo (model X.prog X.w) A (setAttr (.ref e) f u) Q E s:=by
 obtain⟨c,d,i,g,j,l⟩:=(I.hok e _ a).1;have ne:s.heap.objs.size≠e:=XA (Yu g);refine OP F I.kIn g hn λp m n k=>h _ s.heap.objs.size (I.hok.fresh (Yj _)) ne ?_;refine I.both a k (Yj _) ne (Tf.ok ⟨c,d,i,m,j,l⟩) (Ve.ok ⟨_,n,λg=>?_,λg o=>?_⟩)
 ·by_cases z:g=f
  ·rw[if_pos z,z];simp only[XN,beq_self_eq_true];exact b
  ·rw[if_neg z];simp only[XN,beq_eq_false_iff_ne.mpr z];trivial
 ·by_cases z:g=f
  ·rw[z];exact Ys
  ·exact absurd (if_neg z) o
theorem UH(I:aM X Za σ H s)(j:H e=Ya (xM e C (Ya dx)))(hd:H dx=Ya (xN dx fs))(F:M8 X.K C)(hn:YZ X.K (.ref C) f=Ya Yb)(hl:fs.length<1000)(k:RelV y u)(h:∀s',aM X Za σ (upd H dx (xN dx (dB f y fs))) s'->Q () s'):Yo (model X.prog X.w) A (setAttr (.ref e) f u) Q E s:=by
 obtain⟨t,v,w,g,B,D⟩:=(I.hok e _ j).1;obtain⟨c,N,r,d⟩:=(I.hok dx _ hd).1;refine Ov F I.kIn g N d (by rw[Yf,WU];omega) hn λl i m=>h _ ?_;have a:∃o,l.get? dx=Ya o:=let ⟨o,_,_,e',_⟩:=i;⟨o,e'⟩;refine I.write (x:=dx) (e:=dx) (by rw[hd];exact W7) (.inl rfl) (λb q n z=>(m.2 b n).trans z) a (Ve.ok ⟨_,i,λg=>?_,λg p=>?_⟩)
 ·show ku ((dB f y fs).lookup g) (if g=f then Ya u else c g);rw[pj];by_cases q:g=f
  ·rw[if_pos q,if_pos q];exact k
  ·rw[if_neg q,if_neg q];exact r g
 ·by_cases q:g=f
  ·rw[q];exact(lH f y fs).1
  ·refine(lH f y fs).2 g (d g λz=>p ?_);show(if g=f then Ya u else c g)=Yb;rw[if_neg q];exact z
def Qj(K:Yc)(ta tv:TE)(f:Yn):TS:=λD σ H=>tv σ H λy c=>ta σ c λx b=>∃e C,x=.ref e/\M8 K C/\YZ K (.ref C) f=Ya Yb/\
 ((b e=Ya (xM e C Yb)/\∀a,b a=Yb->a≠e->D.nx σ (upd (upd b a (xN a [(f,y)])) e (xM e C (Ya a))))∨
 ∃a fs,b e=Ya (xM e C (Ya a))/\b a=Ya (xN a fs)/\fs.length<1000/\D.nx σ (upd b a (xN a (dB f y fs))))
theorem Hd{K:Yc}{o b:Y2}{ta tv:TE}{d:Xr}(m:X.K=K)(ha:PE X o ta)(p:PE X b tv)(hs:aa1 b (Ya (.Attribute o f d)) pos.line X.env=pure false):PS X (.Assign [.Attribute o f d] b pos) (Qj K ta tv f):=by
 subst m;intro i s σ H D I h;refine aa6 (cz (p i s σ H _ I h) λu r ⟨y,t,v,j,q⟩=>cz (ha i r σ t _ v q) λw G z=>?_) hs;obtain⟨x,J,k,A,e,C,ex,F,n,a⟩:=z;subst ex;obtain rfl:w=YA e:=A;rcases a with⟨g,a⟩|⟨dx,fs,g,B,l,a⟩
 ·exact T6 k g F n j λE dx n1 n2 c=>⟨σ,_,c,a dx n1 n2⟩
 ·exact UH k g B F n l j λE c=>⟨σ,_,c,a⟩
end
section
variable{K:Yc}{fI:Ye}{g:Array aeS}{d:aec}{t:Nat}{os:OsState}
structure UK(K:Yc)(C fI:Ye)(Zx:List Yd)(Zc:String):Prop where
 cl:∃N up,yW K C N up Zc/\afb K Zx up=true
 init:YZ K (.ref C) "__init__"=Ya (Ya (.ref fI))
 fn:adn K (.ref fI)=Ya (.type "function")
 self:abD K C (.ref C)=Ya true
 kp:Xl K (.ref C)=true
theorem OM{a:List Yd}(F:adx B Zc Zm Zx)(Z:UK K C fI Zx Zc)(X:K.In h)(hl:a.length<=sizeLine)(m:∀h' e,h.objs.size<=e->(∀b o,h.get? b=Ya o->h'.get? b=Ya o)->Tf e C Yb h'->
   sq (model prog w) (A.under (.builtin "type.__call__" ⟨.ref C::a,[]⟩)) (.call (.ref fI) ⟨.ref e::a,[]⟩) (adV e R) ⟨h',g,d,t,os⟩):
  sq (model prog w) A (.call (.ref C) ⟨a,[]⟩) R ⟨h,g,d,t,os⟩:=by
 obtain⟨N,up,⟨p,s,bs,k,sn,sub,ab,n,dd,u,x,y,D,E,lk⟩,tl⟩:=Z.cl;have c:=X C _ lk;have T:=tail_of_in X tl;have ty:(⟨h,g,d,t,os⟩:Yl).TypeIs (.ref C) "type":=⟨_,c,rfl⟩;have c1:=tc_lookup;have G:=tc_bind (.ref C);refine codeAny_of_tree (show Yo _ _ (callAny (.ref C) _) _ _ _ from ?_)
 repeat(any_goals(first|assumption|wp_step|(with_reducible refine aai c ?_)))
 refine⟨rfl,codeAny_call_builtin_at (abC _ (by decide +kernel)) entry_typeCall (wpAny_check_type_call_sub c ?_)⟩
 repeat(first|wp_step|(with_reducible refine aai c ?_)|(with_reducible refine wpAny_madeBy_exc c ?_))
 refine codeAny_call_builtin_code (abC _ F.quiet) (wpAny_check_new_subT F T c (codeAny_exc_new_subT F T c ?_ hl));have kp:∀b o,h.get? b=Ya o->((h.push {cls:=.type "tuple",data:=.seq a.toArray}).push {cls:=.ref C,data:=.fields #[.ref h.objs.size,.none,.none,.none,.bool false,.none]}).get? b=Ya o:=λb o q=>Yg _ (Yg _ q);have j:((h.push {cls:=.type "tuple",data:=.seq a.toArray}).push {cls:=.ref C,data:=.fields #[.ref h.objs.size,.none,.none,.none,.bool false,.none]}).get? (h.objs.size+ 1)=Ya {cls:=.ref C,data:=.fields #[.ref h.objs.size,.none,.none,.none,.bool false,.none]}:=by heap_get
 have l:=m _ _ (Xh _) kp ⟨_,_,_,j,rfl,rfl⟩;have i:K.In ((h.push {cls:=.type "tuple",data:=.seq a.toArray}).push {cls:=.ref C,data:=.fields #[.ref h.objs.size,.none,.none,.none,.bool false,.none]}):=λb o q=>kp b o (X b o q);show Yo _ _ _ _ _ ⟨(h.push {cls:=.type "tuple",data:=.seq a.toArray}).push {cls:=.ref C,data:=.fields #[.ref h.objs.size,.none,.none,.none,.bool false,.none]},g,d,t,os⟩;generalize (h.push {cls:=.type "tuple",data:=.seq a.toArray}).push {cls:=.ref C,data:=.fields #[.ref h.objs.size,.none,.none,.none,.bool false,.none]}=h2 at kp j l i⊢;have H:Looks (model prog w) h2 (typeOf (.ref (h.objs.size+ 1))) (.ref C):=(Looks.ld j).andThen .now;have I:=looks_mroIn (M:=model prog w) i Z.self;have J:=looks_findIn (M:=model prog w) i Z.init;have L:=bind_fn (M:=model prog w) i (.ref (h.objs.size+ 1)) Z.fn;unfold isInstance callSpecial? specialOf
 repeat(first|with_reducible refine aa9 ?_|lk)
 refine codeAny_mono l λr s' z=>?_;cases r with
 |error e=>exact z
 |ok f=>
  cases f with
  |ret v=>
   obtain⟨rfl,z⟩:=z;exact wpAny_pure (wpAny_pure z)
  |next=>exact z.elim
  |brk=>exact z.elim
  |cont=>exact z.elim
end
def K2(C:Ye)(sp:Sp)(t:TA):TE:=λσ H Q=>t σ H λb c=>b.length<=sizeLine/\∀a,c a=Yb->sp (.ref a::b) (upd c a (xM a C Yb)) (λv d=>v=.non/\Q (.ref a) d) E0
section
variable{k:Nat}{fd:Yx}{ps:List Yn}{sp:Sp}
theorem IG{Q:VK}{us:List Yd}{vs:List V}(l:adx B Zc Zm Zx)(Z:UK X.K C f Zx Zc)(F:aF X.prog X.w X.K X.mg X.base bx k f fd ps sp)(m:cR (k+ 1) X.A)(n:Binds X.K fd ps [])(I:aM X Za σ H s)(r:Vals vs us)(hl:vs.length<=sizeLine)(h:∀b,H b=Yb->sp (.ref b::vs) (upd H b (xM b C Yb)) (λv o=>v=.non/\Q (.ref b) o) E0):
  Yo (model X.prog X.w) X.A (call (.ref C) us) (EP X Za σ Q) X.xe s:=by
 obtain⟨E,g,d,t,os⟩:=s;refine aa9 (OM l Z I.kIn (by rw[←r.length];exact hl) λp e hp kp q=>?_);have i:=h e (I.hok.fresh hp);have c:=aM.laid (t':=t) I kp hp (Tf.ok (H:=upd H e (xM e C Yb)) q);have j:Vals (V.ref e::vs) (YA e::us):=.cons rfl r;have w:(YA e::us++[]).length=ps.length:=by rw[gf,←j.length];exact F.len _ _ _ _ i
 have bd:=n ⟨p,g,d,t,os⟩ (YA e::us) c.kIn w;rw[gf]at bd;refine codeAny_mono (F.run _ X.stack _ _ ⟨YA e::us,[]⟩ (YA e::us) _ _ E0 (m.make C us []) (c.env0.make C us []) bd j i) λr s' a=>?_;cases r with
 |error e=>exact a.elim
 |ok fl=>
  cases fl with
  |ret u=>
   obtain⟨v,x,y,z,A,D⟩:=c.after a;subst A;exact⟨z,⟨V.ref e,x,y,rfl,D⟩⟩
  |next=>exact Wu a
  |brk=>exact Wu a
  |cont=>exact Wu a
theorem JN{x:Yn}{p:Xr}{e:Y2}{es:List Y2}{t:TA}(d:adx B Zc Zm Zx)(Z:UK X.K C f Zx Zc)(F:aF X.prog X.w X.K X.mg X.base bx k f fd ps sp)(g:cR (k+ 1) X.A)(i:Gl X x)(hm:X.mg x=Ya (.ref C))(j:Binds X.K fd ps [])(ha:PA X (e::es) t)(a:(x==("__debug__":Yn))=false:=by decide)(l:starEach (e::es) X.env=(false,eval e X.env)::starEach es X.env:=by rfl)(b:(backTo pos (starEach es X.env)).any (·.1)=false:=by rfl):
  PE X (.Call (.Name x p) (e::es) [] pos) (K2 C sp t):=by
 intro m s σ H Q I h;refine WT (my I i hm ?_ a);exact XB (h₀:=X.base) I.ok.mod.kin Z.kp (cz (ha pos m s σ H _ I h) λn o ⟨u,v,c,r,hl,q⟩=>⟨c.kIn,IG d Z F g j c r hl q⟩) l b
end
def Nb(H:Hp)(a:Ye):Hp:=λb=>if b=a then Yb else H b
theorem Bz{b:Ye}(h:b≠a):Nb H a b=H b:=if_neg h
theorem yR:Nb H a a=none:=if_pos rfl
def GH(K:Yc)(c:Hp)(E:XK)(t:TE):TS:=λ_ σ H=>t σ H λv b=>∃a C od,v=.ref a/\b a=Ya (xM a C od)/\(∃N up d,yW K C N up d/\up.contains (.type "BaseException")=true)/\c a=Yb/\E (.ref a) (Ya C) (Nb b a)
section
variable{env:aad}
theorem N1{K:Yc}{x:abL Yd}{Q:Flow->Yl->Prop}(f:A.handled=Yb)
  (h:Yo (model prog w) A x (λv a=>∃e o C N up Zc,v=.ref e/\K.In a.heap/\a.heap.get? e=Ya o/\o.cls=.ref C/\(∃vs,o.data=.fields vs/\vs[1]?=Ya .none)/\yW K C N up Zc/\up.contains (.type "BaseException")=true/\E (.ref e) a) E s):
  Yo (model prog w) A (raiseStmt env (Ya x) Yb) Q E s:=by
 refine wpAny_bind (wpAny_mono h (λv a z=>?_) λ_ _ z=>z);obtain⟨e,o,C,N,up,Zc,rfl,X,i,j,⟨vs,hd,h1⟩,⟨r,u,bs,c,sn,sub,ab,k,dd,y,B,D,F,G,lk⟩,l,m⟩:=z;obtain⟨hp,g,d,t,os⟩:=a;have n:=X C _ lk;have b:(YA C::up).contains (.type "BaseException")=true:=by rw[adv,l,aeY]
 obtain⟨H,od,p,q⟩:=o;cases j;cases hd
 repeat(first|wp_step|(with_reducible refine aai i ?_)|(with_reducible refine abn n ?_;rw[b]))
 rw[h1];refine wpAny_pure ?_;rw[if_neg (by decide)];exact wpAny_pure (wpAny_raiseNew_none f m)
end
section
variable{K:Yc}{mg:Yn->Option Yd}{base:YK}{N:List Yn}{Zb:Yn}{scope:X3}{cd:Yd}{outer:List aad}{E:XK}
theorem IW{ex:Y2}{F:TE}(t:PE (nX (BB P w) P w K mg base N Zb scope f cd A outer s H E) ex F):PS (nX (BB P w) P w K mg base N Zb scope f cd A outer s H E) (.Raise (Ya ex) Yb pos) (GH K H E F):=by
 intro Q R σ S D I h;rw[arm_exec_Raise];refine wpAny_bind (wpAny_standAt (N1 (K:=K) (I.ok.hd rfl) (wpAny_bind (cz (t Q R σ S _ I h) λv j T=>?_))));obtain⟨y,k,i,r,d,C,od,U,l,⟨V,up,W,X,x⟩,h0,q⟩:=T;refine wpAny_bind (wpAny_standAt (wpAny_pure ?_));subst U;obtain rfl:v=YA d:=r;obtain⟨Y,sl,G,g,Z,J⟩:=(i.hok d _ l).1;refine⟨d,_,C,V,up,W,rfl,i.kIn,g,rfl,⟨Y,rfl,J⟩,X,x,?_⟩;have hn:∀b o,s.heap.get? b=Ya o->b≠d:=λb o e z=>by
  subst z;have:=i.base.free b o e h0 (by intro z;cases z);rw[l]at this;cases this
 have fs:∀b∈lL (nX (BB P w) P w K mg base N Zb scope f cd A outer s H E).stack,b≠d:=λb x z=>by
  have:=i.stkFree b x;rw[z,l]at this;cases this
 have m:∀{b o},k b=Ya o->(∀φ,o≠.ext φ)->Nb k d b=Ya o:=fun{b o} e n=>by rw[Bz (λz=>by rw[z,l]at e;cases e;exact n _ rfl)];exact e
 have un:Un (lL (nX (BB P w) P w K mg base N Zb scope f cd A outer s H E).stack) [] k (Nb k d) j.heap j.heap:=⟨λb o e _ _ _=>e,λb o e _ _ _=>⟨o.slots,e⟩,λb o _ n _=>by rw[Bz (λz=>by rw[z,l]at n;cases n)];exact n,λb o e _=>⟨o,e⟩,λb xs e=>m e (by intro _ z;cases z),λb o u e=>m e (by intro _ z;cases z),λb ps e=>⟨#[],by rw[adw];exact m e (by intro _ z;cases z)⟩⟩;have hok:lO P w (Nb k d) j.heap:=λb u e=>by
  by_cases z:b=d
  ·rw[z,yR]at e;cases e
  ·rw[Bz z]at e;exact(i.hok b u e).stay (λ_ _ _ q=>q) (λc q=>m q (by intro _ z;cases z)) λc xs q=>m q (by intro _ z;cases z)
 have hB:∀b o,j.heap.get? b=Ya o->b∉lL (nX (BB P w) P w K mg base N Zb scope f cd A outer s H E).stack->((∃B,s.heap.get? b=Ya B)∨∃u,Nb k d b=Ya u)->(aa7 j.heap (d::lL (nX (BB P w) P w K mg base N Zb scope f cd A outer s H E).stack)).get? b=Ya o:=λb o e n r=>adb _ e (λz=>by
  rcases Ym.mp z with z|z
  ·rcases r with⟨B,e0⟩|⟨u,M⟩
   ·exact hn b B e0 z
   ·rw[z,yR]at M;cases M
  ·exact n z)
 have p:(aa7 j.heap (d::lL (nX (BB P w) P w K mg base N Zb scope f cd A outer s H E).stack)).get? d=none:=acW _ Ys;refine wpAny_leaving_firstW (base:=aa7 j.heap (d::lL (nX (BB P w) P w K mg base N Zb scope f cd A outer s H E).stack)) (a0:=G) i.ok.frames (PySem.W.funFrames_hide i.stack (λenv t a hf=>Yp _ (aaC.mpr ⟨env,t,hf⟩))) rfl g (λb o q=>adh _ q) p rfl J Z λh' L=>?_;obtain⟨O,⟨_,_,l2⟩,l3,l4⟩:=L;obtain⟨u1,u2,u3⟩:=Cn (s':=j) i rfl rfl rfl un hok hB O l4 rfl;exact⟨d,C,G,_,Nb k d,rfl,i.os,i.bare,u1,u2,⟨O,p,l2,l3⟩,u3,yR,q⟩
end
end L2
namespace L2
open PySem PySem.Spec PyProof.Rows
variable{X:Cx}{Za:List (Ye×Y9)}{D:p5}{x m:Yn}{pos:Xr}{tb:(St->XK)->TS}{th:TS}{f C:Ye}{fd:Yx}{ps:List Yn}{k:Nat}{sp:Sp}{ta:TE}{t:TA}{EE:St->XK}{E:XK}
def PV(K:Yc)(D:Ye)(tb:(St->XK)->TS)(b:TS):TS:=λDn σ H=>
 tb (λd e c f=>∃a C,e=.ref a/\c=Ya C/\LN K C D/\b Dn d (upd f a (xO a C))) Dn σ H
theorem SP.unhnd{f:Flow}{s:Yl}{e:Yd}(ok:X.Ok)(h:SP (X.hnd e) Za D f s):SP X Za D f s:=by
 cases f with
 |next=>obtain⟨a,b,I,q⟩:=h;exact⟨a,b,I.unhnd ok,q⟩
 |brk=>obtain⟨a,b,I,q⟩:=h;exact⟨a,b,I.unhnd ok,q⟩
 |cont=>obtain⟨a,b,I,q⟩:=h;exact⟨a,b,I.unhnd ok,q⟩
 |ret u=>obtain⟨v,a,b,I,r,q⟩:=h;exact⟨v,a,b,I.unhnd ok,r,q⟩
theorem Pj{K:Yc}{D L:Ye}{U j:Xr}{O:List YT}{P:YT}{a:List YT}(V:X.K=K)(b:X.stack=X.env::X.outer)(W:X.env.frame=Ya L)(Y:Gl X x)(hm:X.mg x=Ya (.ref D))(Z:LN K D D)(hb:∀Za EE,BA (X.tr Za EE) O (tb EE))(hs:∀k,BA (X.hnd (.ref k)) (P::a) th)(n:(x==("__debug__":Yn))=false:=by decide):
  PS X (.Try O [.ExceptHandler (Ya (.Name x U)) Yb (P::a) j] [] [] pos) (PV K D tb th):=by
 subst V;intro Za s σ H Dn I h;refine wpAny_Try_except ?_;refine wpAny_mono (hb Za _ [] s σ H Dn (I.tr _) h) (λf Q q=>?_) λe Q q=>?_
 ·cases f with
  |next=>exact aaz q.untr
  |brk=>exact q.untr
  |cont=>exact q.untr
  |ret u=>exact q.untr
 ·obtain⟨σ1,H1,s2,o,k,C,a0,B,H',rfl,os,R,un,hok,p,S,hn,_,_,e1,e2,l,ht⟩:=q;cases e1;cases e2;obtain⟨hh,g,d,t,ab⟩:=Q;have m:=p;rw[b]at m;have T:=o.ok.frames;rw[b]at T;refine wpAny_looks_onW T W m λh1 So up1=>?_;refine wpAny_landsW So λh2 c r=>?_;rw[←b]at c;have i:=up1.trans r;have J:=DS o os R un hok p S hn c i;have v:=J.hnd (.ref k);refine wpAny_handleBy_cons (codeAny_handlers_test (my (X:=X.hnd (.ref k)) v Y hm ?_ n)) (by intro q;cases q);obtain⟨_,_,_,⟨_,_,_,_,_,_,_,_,_,_,_,_,_,_,w⟩,_,y⟩:=l;obtain⟨_,_,_,⟨_,_,_,_,_,_,_,_,_,_,_,_,_,_,A⟩,E,_⟩:=Z;obtain⟨oe,F,G⟩:=c.there;refine Im (v.kIn _ _ w) (v.kIn _ _ A) F G E y ?_;refine codeAny_handlers_suite (lands_againW c λh3 M N=>?_);have J3:=DS o os R un hok p S hn M (i.trans N);exact wpAny_mono (hs k Za _ _ _ Dn (J3.hnd _) ht) (λf s5 q=>q.unhnd J.ok) λ_ _ z=>z.elim
structure Fj(K:Yc)(x Zb:Yn)(st:YT)(f:Ye)(fd:Yx)(ds:List Yd):Prop where
 ex:∃(oc:Yd) (od:Option Ye) (kV doc pm:Yd) (an:Option Ye) (cdv ct:Yd) (osl:Array (Option Yd)) (T:Ye) (tc:Yd) (td:Option Ye) (tn:Nat) (tsl:Array (Option Yd)),
  fd=WS x Zb (f7 st) (dN st) (ao st) (.ref T) kV doc pm an cdv ct/\K.lookup f=Ya ⟨oc,od,.func fd,osl⟩/\aaO K cdv Zb=true/\K.lookup T=Ya ⟨tc,td,.seq ds.toArray tn,tsl⟩
section
variable{P:YO}{w:YW}{K:Yc}{mg:Yn->Option Yd}{base:YK}{Zb:Yn}{st:YT}{ds ds':List Yd}
theorem Fj.ok{N:List Yn}(F:Fj K x Zb st f fd ds)(S:aE N ps (ao st))(len:∀vs H Q E,sp vs H Q E->vs.length=ps.length)(b:∀(a:Yd) (A:nh) (outer:List aad) (s:Yl) (H:Hp) (vs:List V) (Q:VK) (E:XK),cR k (A.deeper (envOfC Zb (ao st) s.heap.objs.size f a))->sp vs H Q E->
   ∃t,BA (nX bx P w K mg base N Zb (ao st) f a A outer s H E).nox (dN st) t/\t {nx:=λ_ e=>Q .non e,rt:=Q} (start N vs) H):aF P w K mg base bx (k+ 1) f fd ps sp:=by
 obtain⟨m,od,kV,g,n,o,a,ct,i,T,tc,td,p,j,rfl,lk,c,_⟩:=F.ex;refine JJ lk c S len λA outer s H vs Q E l d=>?_;obtain⟨t,h,q⟩:=b a A outer s H vs Q E l d;exact⟨t,h.nox,q⟩
theorem Fj.binds(F:Fj K x Zb st f fd ds)(h:∀(kV a c:Yd) (d:Option Ye) (b ct:Yd) (T:Ye) (us:List Yd),(us++ds').length=ps.length->∃k,bindArgs (WS x Zb (f7 st) (dN st) (ao st) (.ref T) kV a c d b ct) ⟨us,[]⟩=adp (.ref T) >>= k/\k (Ya ds.toArray)=pure (ps.zip (us++ds'))):Binds K fd ps ds':=by
 obtain⟨l,od,kV,a,c,d,b,ct,e,T,tc,td,m,g,rfl,lk,i,j⟩:=F.ex;intro s us X hl;obtain⟨k,h1,h2⟩:=h kV a c d b ct T us hl;exact .of_defaults rfl (X _ _ j) rfl h1 h2
theorem OF{i:Yd}{od g:Option Ye}{d:Array (Option Yd)}{kV b h a ct:Yd}{T:Ye}{tc:Yd}{td:Option Ye}{j:Nat}{e:Array (Option Yd)}(l:K.lookup f=Ya ⟨i,od,.func (WS x Zb (f7 st) (dN st) (ao st) (.ref T) kV b h g a ct),d⟩)
  (c:aaO K a Zb=true) (t:K.lookup T=Ya ⟨tc,td,.seq ds.toArray j,e⟩):Fj K x Zb st f (WS x Zb (f7 st) (dN st) (ao st) (.ref T) kV b h g a ct) ds:=⟨⟨i,od,kV,b,h,g,a,ct,d,T,tc,td,j,e,rfl,l,c,t⟩⟩
end
def Lr(C:Ye)(m:Yn)(sp:Sp)(c:St->XK)(ta:TE)(t:TA):TE:=λσ H Q=>ta σ H λx b=>∃a d fs,x=.ref a/\b a=Ya (.ins C d fs)/\fs.lookup m=Yb/\t σ b λe f=>sp (x::e) f Q (c σ)
section
variable{e o:Y2}{es:List Y2}{p Ze:Xr}
theorem MR{pl:abL Bool}(B:PE (X.tr Za EE) o ta)(c:zJ X.K C)(hm:bB X.K C m f)(F:aF X.prog X.w X.K X.mg X.base (BB X.prog X.w) k f fd ps sp)(D:cR k X.A)(E:Binds X.K fd ps [])(ha:PA (X.tr Za EE) (e::es) t)(i:starEach (e::es) X.env=(false,eval e X.env)::starEach es X.env:=by rfl)(j:(backTo pos (starEach es X.env)).any (·.1)=false:=by rfl)(G:eval (.Call (.Attribute o m Ze) (e::es) [] pos) X.env=(do
   let ov←eval o X.env
   aa2 Ze.atName
   let (f,first)←holding [ov] (getMethod ov m pl)
   callWith pos f first (backTo pos (starEach (e::es) X.env)) (backToKw pos (keywordEach [] X.env))):=by rfl):
  PE (X.tr Za EE) (.Call (.Attribute o m Ze) (e::es) [] pos) (Lr C m sp EE ta t):=by
 intro p s σ H Q I h;refine Xc (pl:=pl) (cz (B p s σ H _ I h) λu J K=>?_) G;obtain⟨x,L,v,M,a,O,fs,ex,N,l,q⟩:=K;subst ex;obtain rfl:u=YA a:=M;refine jy v N c hm l ?_;refine XB (first:=[.ref a]) (h₀:=X.base) I.ok.mod.kin hm.kp (cz (ha pos p J σ L _ v q) λb n ⟨w,y,d,r,z⟩=>⟨d.kIn,?_⟩) i j;have A:Vals (V.ref a::w) (YA a::b):=.cons rfl r;have hl:(YA a::b++[]).length=ps.length:=by rw[gf,←A.length];exact F.len _ _ _ _ z
 have bd:=E n (YA a::b) d.kIn hl;rw[gf]at bd;refine aa9 (codeAny_mono (F.run X.A X.stack n y ⟨.ref a::b,[]⟩ (.ref a::b) (.ref a::w) Q (EE σ) D d.env0 bd A z) λrs s' g=>?_);cases rs with
 |error e=>exact⟨σ,y,n,d.untr,g⟩
 |ok fl=>
  cases fl with
  |ret u=>exact d.after g
  |next=>exact Wu g
  |brk=>exact Wu g
  |cont=>exact Wu g
end
section
variable{σ:St}{H:Hp}{Q:VK}
theorem Pa(h:ta σ H λx b=>∃a c fs,x=.ref a/\b a=Ya (.ins C c fs)/\fs.lookup m=Yb/\t σ b λvs d=>sp (x::vs) d Q (EE σ)):Lr C m sp EE ta t σ H Q:=h
theorem AE{b:List V}(h:ta σ H λx c=>∃a d fs,x=.ref a/\c a=Ya (.ins C d fs)/\fs.lookup m=Yb/\t σ c λvs e=>sp (x::(vs++b)) e Q E):PR C m sp b E ta t σ H Q:=h
theorem RI{K:Yc}{b:Ye}(h:tb (λd e c f=>∃a C,e=.ref a/\c=Ya C/\LN K C b/\th D d (upd f a (xO a C))) D σ H):PV K b tb th D σ H:=h
theorem J5{K:Yc}{b:Hp}{t:TE}(h:t σ H λv c=>∃a C od,v=.ref a/\c a=Ya (xM a C od)/\(∃N up d,yW K C N up d/\up.contains (.type "BaseException")=true)/\b a=Yb/\E (.ref a) (Ya C) (Nb c a)):GH K b E t D σ H:=h
theorem Nc(h:t σ H λvs b=>vs.length<=sizeLine/\∀a,b a=Yb->sp (.ref a::vs) (upd b a (xM a C Yb)) (λv c=>v=.non/\Q (.ref a) c) E0):K2 C sp t σ H Q:=h
theorem K3{K:Yc}{tv:TE}{f:Yn}(h:tv σ H λy c=>ta σ c λx b=>∃e C,x=.ref e/\M8 K C/\YZ K (.ref C) f=Ya Yb/\
 ((b e=Ya (xM e C Yb)/\∀a,b a=Yb->a≠e->D.nx σ (upd (upd b a (xN a [(f,y)])) e (xM e C (Ya a))))∨
 ∃a fs,b e=Ya (xM e C (Ya a))/\b a=Ya (xN a fs)/\fs.length<1000/\D.nx σ (upd b a (xN a (dB f y fs))))):Qj K ta tv f D σ H:=h
theorem US{r:List V->List V->Hp->VK->Prop}{tk:TA}(h:t σ H λvs a=>tk σ a λzs b=>r vs zs b Q):TY r t tk σ H Q:=h
end
def qq(me nu ha ro ma dn tk kp od tb ab:V):List (Yn×V):=[("me",me),("number",nu),("hands",ha),("room",ro),("made",ma),("done",dn),("took",tk),("keeps",kp),("order",od),("taken_by",tb),("able_by",ab)]
structure zU(K:Yc)(C:Ye):Prop where
 cl:zJ K C
 n1:cC K C "me"
 n2:cC K C "number"
 n3:cC K C "hands"
 n4:cC K C "room"
 n5:cC K C "made"
 n6:cC K C "done"
 n7:cC K C "took"
 n8:cC K C "keeps"
 n9:cC K C "order"
 n10:cC K C "taken_by"
 n11:cC K C "able_by"
section
variable{me nu ha ro ma dn tk kp od tb ab v:V}
theorem OE:dB "able_by" ab (dB "taken_by" tb (dB "order" od (dB "keeps" kp (dB "took" tk (dB "done" dn (dB "made" ma (dB "room" ro (dB "hands" ha (dB "number" nu (dB "me" me []))))))))))=qq me nu ha ro ma dn tk kp od tb ab:=by kernel_rfl
theorem IA:dB "made" v (qq me nu ha ro ma dn tk kp od tb ab)=qq me nu ha ro v dn tk kp od tb ab:=by kernel_rfl
theorem Fg:dB "keeps" v (qq me nu ha ro ma dn tk kp od tb ab)=qq me nu ha ro ma dn tk v od tb ab:=by kernel_rfl
theorem xU:dB "order" v (qq me nu ha ro ma dn tk kp od tb ab)=qq me nu ha ro ma dn tk kp v tb ab:=by kernel_rfl
theorem Qr:(qq me nu ha ro ma dn tk kp od tb ab).lookup ("me":Yn)=Ya me:=by kernel_rfl
theorem EJ:(qq me nu ha ro ma dn tk kp od tb ab).lookup ("number":Yn)=Ya nu:=by kernel_rfl
theorem IF:(qq me nu ha ro ma dn tk kp od tb ab).lookup ("hands":Yn)=Ya ha:=by kernel_rfl
theorem Ly:(qq me nu ha ro ma dn tk kp od tb ab).lookup ("room":Yn)=Ya ro:=by kernel_rfl
theorem Kv:(qq me nu ha ro ma dn tk kp od tb ab).lookup ("made":Yn)=Ya ma:=by kernel_rfl
theorem MK:(qq me nu ha ro ma dn tk kp od tb ab).lookup ("done":Yn)=Ya dn:=by kernel_rfl
theorem LG:(qq me nu ha ro ma dn tk kp od tb ab).lookup ("took":Yn)=Ya tk:=by kernel_rfl
theorem HK:(qq me nu ha ro ma dn tk kp od tb ab).lookup ("keeps":Yn)=Ya kp:=by kernel_rfl
theorem Jp:(qq me nu ha ro ma dn tk kp od tb ab).lookup ("order":Yn)=Ya od:=by kernel_rfl
theorem AV:(qq me nu ha ro ma dn tk kp od tb ab).lookup ("taken_by":Yn)=Ya tb:=by kernel_rfl
theorem CT:(qq me nu ha ro ma dn tk kp od tb ab).lookup ("able_by":Yn)=Ya ab:=by kernel_rfl
theorem oO:(qq me nu ha ro ma dn tk kp od tb ab).lookup ("check_room":Yn)=none:=by kernel_rfl
theorem JX:(qq me nu ha ro ma dn tk kp od tb ab).lookup ("keep":Yn)=none:=by kernel_rfl
theorem xx:(qq me nu ha ro ma dn tk kp od tb ab).lookup ("kept_calls":Yn)=none:=by kernel_rfl
theorem Al:(qq me nu ha ro ma dn tk kp od tb ab).lookup ("utter":Yn)=none:=by kernel_rfl
theorem M3:(qq me nu ha ro ma dn tk kp od tb ab).lookup ("step":Yn)=none:=by kernel_rfl
theorem MT:(qq me nu ha ro ma dn tk kp od tb ab).lookup ("take":Yn)=none:=by kernel_rfl
theorem Fm:(qq me nu ha ro ma dn tk kp od tb ab).lookup ("let_go":Yn)=none:=by kernel_rfl
theorem uY:(qq me nu ha ro ma dn tk kp od tb ab).lookup ("piece":Yn)=none:=by kernel_rfl
theorem FY:(qq me nu ha ro ma dn tk kp od tb ab).lookup ("listen":Yn)=none:=by kernel_rfl
theorem AK:(qq me nu ha ro ma dn tk kp od tb ab).lookup ("keep_new":Yn)=none:=by kernel_rfl
theorem Ji:(qq me nu ha ro ma dn tk kp od tb ab).lookup ("taken":Yn)=none:=by kernel_rfl
theorem O3:(qq me nu ha ro ma dn tk kp od tb ab).length<1000:=by show 11<1000;decide
end
end L2
namespace GX
open PySem PySem.Spec PyProof.Rows
variable{prog:YO}{w:YW}{A:nh}{s:Yl}{it:Ye}{R:aaj->Yl->Prop}{S:nh->(aaj->Yl->Prop)->Yl->Prop}{Q:Option Yd->Yl->Prop}{e:gm}
abbrev yo(a:Yd)(d:Ye)(i n ep:Nat)(ok b:Yd):Y9:={cls:=.type "dict_itemiterator",data:=.fields #[a,.bool false,.ref d,.int i 0,.int n 0,.int ep 0,ok,b]}
abbrev AG(d:Ye)(i n ep:Nat):Y9:={cls:=.type "dict_keyiterator",data:=.fields #[.ref d,.int i 0,.int n 0,.int ep 0]}
theorem Mt(it d:Ye)(i ep:Nat)(es:Array gm)(e:gm)(a:es[i]?=Ya e):
  Meets (vc.«dict_keyiterator.__next__» ⟨[.ref it],[]⟩) (λ_ R s=>s.heap.get? it=Ya (AG d i es.size ep)/\s.heap.get? d=Ya (jN es ep)/\
   ∀g,g.get? it=Ya (AG d (i+ 1) es.size ep)->Wt it s.heap g->R (.ok (.ret e.key)) {s with heap:=g}):=
 .of_wp λprog w A R s ⟨h1,h2,q⟩=>by
  obtain⟨h,g,b,tk,os⟩:=s;have c:rl {heap:=h,gens:=g,drawn:=b,toks:=tk,os:=os} (.ref it) "dict_keyiterator":=⟨_,h1,rfl⟩
  wp_walk
  rw[if_neg (by omega),YH,a]
  wp_walk
  have ow:WW ((Manifest.find? "dict_keyiterator").elim "dict_keyiterator" λx=>x.tpName)=false:=by decide +kernel
  refine⟨_,rfl,q _ ?_ (Wv ..)⟩;rw[Ww _ h1 rfl,ow];simp[aaX,rawInt];intro x a hm;exfalso
  revert x a hm
  decide +kernel
theorem NJ(it d:Ye)(i ep:Nat)(es:Array gm)(a:es.size<=i):
  Meets (vc.«dict_keyiterator.__next__» ⟨[.ref it],[]⟩) (λA R s=>A.handled=Yb/\s.heap.get? it=Ya (AG d i es.size ep)/\s.heap.get? d=Ya (jN es ep)/\
   ∀g e,aaU it s.heap g->rl {s with heap:=g} (.ref e) "StopIteration"->R (.error (.ref e)) {s with heap:=g}):=
 .of_wp λprog w A R s ⟨h0,h1,h2,q⟩=>by
  obtain⟨h,g,c,tk,os⟩:=s;have k:rl {heap:=h,gens:=g,drawn:=c,toks:=tk,os:=os} (.ref it) "dict_keyiterator":=⟨_,h1,rfl⟩;have f:A.in1.handled=none:=h0
  wp_walk
  rw[if_neg (by omega),YH,WO a]
  wp_walk
  simp only[ad1]
  wp_walk
  exact q _ _ (λb o j e=>Yg _ (Yg _ (((Wv ..).2 b j).trans e))) ⟨_,Yr _ rfl,rfl⟩
theorem LD(it d:Ye)(i ep:Nat)(ok k:Yd)(es:Array gm)(e:gm)(z:es[i]?=Ya e):
  Meets (vc.«dict_itemiterator.__next__» ⟨[.ref it],[]⟩) (λ_ R s=>s.heap.get? it=Ya (yo .none d i es.size ep ok k)/\s.heap.get? d=Ya (jN es ep)/\
   ∀g,g.get? it=Ya (yo (rawInt s.heap.objs.size) d (i+ 1) es.size ep e.key e.val)->g.get? s.heap.objs.size=Ya {cls:=.type "tuple",data:=.seq #[e.key,e.val]}->(∀b o,b≠it->s.heap.get? b=Ya o->g.get? b=Ya o)->R (.ok (.ret (.ref s.heap.objs.size))) {s with heap:=g}):=
 .of_wp λprog w A R s ⟨h1,h2,q⟩=>by
  obtain⟨h,g,f,tk,os⟩:=s;have m:rl {heap:=h,gens:=g,drawn:=f,toks:=tk,os:=os} (.ref it) "dict_itemiterator":=⟨_,h1,rfl⟩;have ow:WW ((Manifest.find? "dict_itemiterator").elim "dict_itemiterator" λx=>x.tpName)=true:=by decide +kernel
  wp_walk
  rw[if_neg (by omega),YH,z];have lt:it<h.objs.size:=Yu h1;have up:((i:Int)+ 1)=((i+ 1:Nat):Int):=by omega
  refine wpAny_bind (wpAny_bind (wpAny_typeNameOfWhole_itemiter m (wpAny_pure ?_)));refine wpAny_bind (wpAny_isOneOf_itemiter m ?_);show Yo _ _ (setField (.ref it) 3 (rawInt ((i:Int)+ 1)) >>= _) _ _ ⟨h,g,f,tk,os⟩;rw[up];refine wpAny_bind (wpAny_setField_rec h1 (by simp) λc l n=>?_);have l:c.get? it=Ya (yo .none d (i+ 1) es.size ep ok k):=l;have p:rl ⟨c,g,f,tk,os⟩ (.ref it) "dict_itemiterator":=⟨_,l,rfl⟩;refine wpAny_bind (wpAny_holding (wpAny_bind (wpAny_isOneOf_itemiter p (wpAny_bind (wpAny_isOneOf_itemiter p ?_)))));show Yo _ _ (ad4 (.ref it) 6 e.key e.val) _ _ ⟨c,g,f,tk,os⟩;refine wpAny_bind (wpAny_newTuple ?_);have r:c.objs.size=h.objs.size:=n.1;have t:∀b o,b≠it->h.get? b=Ya o->(c.push {cls:=.type "tuple",data:=.seq #[e.key,e.val]}).get? b=Ya o:=λb o a q=>Yg _ ((n.2 b a).trans q);have j:(c.push {cls:=.type "tuple",data:=.seq #[e.key,e.val]}).get? it=Ya (yo .none d (i+ 1) es.size ep ok k):=Yg _ l;have u:(c.push {cls:=.type "tuple",data:=.seq #[e.key,e.val]}).get? h.objs.size=Ya {cls:=.type "tuple",data:=.seq #[e.key,e.val]}:=by rw[←r];exact Yr _ rfl
  rw[r];generalize c.push {cls:=.type "tuple",data:=.seq #[e.key,e.val]}=g2 at t j u⊢;show Yo _ _ (adB (.ref it) >>= _) _ _ ⟨g2,g,f,tk,os⟩;refine wpAny_bind (wpAny_bind (wpAny_field j rfl (x:=.none) rfl (wpAny_pure ?_)));rw[if_pos rfl];refine wpAny_bind (wpAny_field j rfl (x:=ok) rfl (wpAny_bind (wpAny_field j rfl (x:=k) rfl ?_)));refine wpAny_bind (wpAny_setField_rec j (by simp) λJ B C=>wpAny_bind (wpAny_setField_rec B (by simp) λK D E=>wpAny_bind (wpAny_setField_rec D (by simp) λL F G=>wpAny_bind (wpAny_setField_rec F (by simp) λv H I=>?_))));have y:∀b o,b≠it->g2.get? b=Ya o->v.get? b=Ya o:=λb o a q=>(I.2 b a).trans ((G.2 b a).trans ((E.2 b a).trans ((C.2 b a).trans q)));exact wpAny_bind (wpAny_letGo (wpAny_pure (wpAny_pure ⟨_,rfl,q v H (y _ _ (XA lt) u) λb o a w=>y b o a (t b o a w)⟩)))
theorem Om(it d:Ye)(i ep:Nat)(ok a:Yd)(es:Array gm)(c:es.size<=i):
  Meets (vc.«dict_itemiterator.__next__» ⟨[.ref it],[]⟩) (λA R s=>A.handled=Yb/\s.heap.get? it=Ya (yo .none d i es.size ep ok a)/\s.heap.get? d=Ya (jN es ep)/\
   ∀g e,aaU it s.heap g->rl {s with heap:=g} (.ref e) "StopIteration"->R (.error (.ref e)) {s with heap:=g}):=
 .of_wp λprog w A R s ⟨h0,h1,h2,q⟩=>by
  obtain⟨h,g,f,tk,os⟩:=s;have j:rl {heap:=h,gens:=g,drawn:=f,toks:=tk,os:=os} (.ref it) "dict_itemiterator":=⟨_,h1,rfl⟩;have k:A.in1.handled=none:=h0
  wp_walk
  rw[if_neg (by omega),YH,WO c];refine wpAny_bind (wpAny_bind (wpAny_typeNameOfWhole_itemiter j (wpAny_pure ?_)));refine wpAny_bind (wpAny_setField_rec h1 (by show _<8;split<;>decide) λn p l=>?_)
  wp_walk
  simp only[ad1]
  wp_walk
  exact q _ _ (λb o m e=>Yg _ (Yg _ ((l.2 b m).trans e))) ⟨_,Yr _ rfl,rfl⟩
theorem QI(d:Ye)(es:Array gm)(ep:Nat)(hd:(d==RW)=false):
  Meets (vc.«dict.items» ⟨[.ref d],[]⟩) (λ_ R s=>s.heap.get? d=Ya (jN es ep)/\R (.ok (.ret (.ref s.heap.objs.size))) {s with heap:=s.heap.push {cls:=.type "dict_items",data:=.fields #[.ref d]}}):=
 .of_wp λprog w A R s ⟨h1,q⟩=>by
  obtain⟨h,g,a,tk,os⟩:=s;have b:rl {heap:=h,gens:=g,drawn:=a,toks:=tk,os:=os} (.ref d) "dict":=⟨_,h1,rfl⟩
  wp_walk
  exact⟨_,rfl,q⟩
theorem Ki(v d:Ye)(ep:Nat)(es:Array gm):
  Meets (vc.«dict_items.__iter__» ⟨[.ref v],[]⟩) (λA R s=>s.heap.get? v=Ya {cls:=.type "dict_items",data:=.fields #[.ref d]}/\s.heap.get? d=Ya (jN es ep)/\
   R (.ok (.ret (.ref s.heap.objs.size))) {s with heap:=s.heap.push (yo .none d 0 es.size ep .none .none)}):=
 .of_wp λprog w A R s ⟨h1,h2,q⟩=>by
  obtain⟨h,g,a,tk,os⟩:=s;have b:rl {heap:=h,gens:=g,drawn:=a,toks:=tk,os:=os} (.ref v) "dict_items":=⟨_,h1,rfl⟩
  wp_walk
  have ow:WW "dict_itemiterator"=true:=by decide +kernel
  rw[ow];exact⟨_,rfl,q⟩
theorem IQ(d:Ye)(ep:Nat)(es:Array gm)(hd:(d==RW)=false):
  Meets (vc.«dict.__iter__» ⟨[.ref d],[]⟩) (λA R s=>s.heap.get? d=Ya (jN es ep)/\R (.ok (.ret (.ref s.heap.objs.size))) {s with heap:=s.heap.push (AG d 0 es.size ep)}):=
 .of_wp λprog w A R s ⟨h1,q⟩=>by
  obtain⟨h,g,a,tk,os⟩:=s;have b:rl {heap:=h,gens:=g,drawn:=a,toks:=tk,os:=os} (.ref d) "dict":=⟨_,h1,rfl⟩
  wp_walk
  exact⟨_,rfl,q⟩
theorem Le(a:s.TypeIs (.ref it) "dict_itemiterator")(m:Meets (vc.«dict_itemiterator.__next__» ⟨[.ref it],[]⟩) S)(h:S A R s):
  sq (model prog w) A (.call (.builtin "dict_itemiterator.__next__") ⟨[.ref it],[]⟩) R s:=
 codeAny_call_builtin Rk.plain F.entry_dict_itemiterator_next (Rk.check _ _ _ _ _ _ _ _ a (F.args_dict_itemiterator_next_1 _) (m prog w A R s h))
theorem Kh(a:s.TypeIs (.ref it) "dict_keyiterator")(m:Meets (vc.«dict_keyiterator.__next__» ⟨[.ref it],[]⟩) S)(h:S A R s):
  sq (model prog w) A (.call (.builtin "dict_keyiterator.__next__") ⟨[.ref it],[]⟩) R s:=
 codeAny_call_builtin Wq.plain F.entry_dict_keyiterator_next (Wq.check _ _ _ _ _ _ _ _ a (F.args_dict_keyiterator_next_1 _) (m prog w A R s h))
section
variable{E:Yd->Yl->Prop}{v d:Ye}{es:Array gm}{i ep:Nat}{ok ov:Yd}
theorem Jx{Q:Yd->Yl->Prop}(a:(d==RW)=false)(rd:gJ s.heap d es ep)
  (q:Q (.ref s.heap.objs.size) {s with heap:=s.heap.push {cls:=.type "dict_items",data:=.fields #[.ref d]}}):Yo (model prog w) A (call (.builtin "dict.items") [.ref d]) Q E s:=
 aaP aae ⟨_,rd,rfl⟩ acN (acB _) (QI d es ep a) ⟨rd,q⟩
theorem JA{Q:Yd->Yl->Prop}(a:s.heap.get? v=Ya {cls:=.type "dict_items",data:=.fields #[.ref d]})(rd:gJ s.heap d es ep)
  (q:Q (.ref s.heap.objs.size) {s with heap:=s.heap.push (yo .none d 0 es.size ep .none .none)}):Yo (model prog w) A (pyIter (.ref v)) Q E s:=by
 have T:s.TypeIs (.ref v) "dict_items":=⟨_,a,rfl⟩;apply aag T acD;apply aaP acD T F.entry_dict_items_iter (F.args_dict_items_iter_1 _) (Ki v d ep es);exact⟨a,rd,"dict_itemiterator",_,⟨_,Yr _ rfl,rfl⟩,Rk.lookup,q⟩
theorem IE{Q:Yd->Yl->Prop}(a:(d==RW)=false)(rd:gJ s.heap d es ep)
  (q:Q (.ref s.heap.objs.size) {s with heap:=s.heap.push (AG d 0 es.size ep)}):Yo (model prog w) A (pyIter (.ref d)) Q E s:=by
 have T:s.TypeIs (.ref d) "dict":=⟨_,rd,rfl⟩;apply aag T ad5;apply aaP ad5 T F.entry_dict_iter (F.args_dict_iter_1 _) (IQ d ep es a);exact⟨rd,"dict_keyiterator",_,⟨_,Yr _ rfl,rfl⟩,Wq.lookup,q⟩
theorem HD(f:s.heap.get? it=Ya (yo .none d i es.size ep ok ov))(rd:gJ s.heap d es ep)(h:es[i]?=Ya e)(j:∀g,g.get? it=Ya (yo (rawInt s.heap.objs.size) d (i+ 1) es.size ep e.key e.val)->g.get? s.heap.objs.size=Ya {cls:=.type "tuple",data:=.seq #[e.key,e.val]}->(∀b o,b≠it->s.heap.get? b=Ya o->g.get? b=Ya o)->Q (Ya (.ref s.heap.objs.size)) {s with heap:=g}):Yo (model prog w) A (pyNext (.ref it)) Q E s:=by
 have k:s.TypeIs (.ref it) "dict_itemiterator":=⟨_,f,rfl⟩;have l:=Rk.lookup;have m:=Rk.bind (.ref it);unfold pyNext
 repeat' first|assumption|wp_step
 exact Le k (LD it d i ep ok ov es e h) ⟨f,rd,λg a b c=>wpAny_pure (wpAny_pure (j g a b c))⟩
theorem Ja(c:s.heap.get? it=Ya (AG d i es.size ep))(rd:gJ s.heap d es ep)(f:es[i]?=Ya e)(h:∀g,g.get? it=Ya (AG d (i+ 1) es.size ep)->Wt it s.heap g->Q (Ya e.key) {s with heap:=g}):Yo (model prog w) A (pyNext (.ref it)) Q E s:=by
 have j:s.TypeIs (.ref it) "dict_keyiterator":=⟨_,c,rfl⟩;have k:=Wq.lookup;have l:=Wq.bind (.ref it);unfold pyNext
 repeat' first|assumption|wp_step
 exact Kh j (Mt it d i ep es e f) ⟨c,rd,λg a b=>wpAny_pure (wpAny_pure (h g a b))⟩
theorem JO(f:A.handled=Yb)(c:s.heap.get? it=Ya (yo .none d i es.size ep ok ov))(rd:gJ s.heap d es ep)(h:es.size<=i)(fin:∀g,aaU it s.heap g->Q Yb {s with heap:=g}):Yo (model prog w) A (pyNext (.ref it)) Q E s:=by
 have j:s.TypeIs (.ref it) "dict_itemiterator":=⟨_,c,rfl⟩;have l:=Rk.lookup;have m:=Rk.bind (.ref it);have k:aeJ (.type "StopIteration") (.type "StopIteration")=pure true:=by rw[aal];kernel_rfl
 unfold pyNext
 repeat' first|assumption|wp_step
 refine Le j (Om it d i ep ok ov es h) ⟨f,c,rd,λg e a b=>?_⟩;have n:=fin g a
 repeat' first|assumption|wp_step
theorem ML(f:A.handled=Yb)(c:s.heap.get? it=Ya (AG d i es.size ep))(rd:gJ s.heap d es ep)(h:es.size<=i)(fin:∀g,aaU it s.heap g->Q Yb {s with heap:=g}):Yo (model prog w) A (pyNext (.ref it)) Q E s:=by
 have j:s.TypeIs (.ref it) "dict_keyiterator":=⟨_,c,rfl⟩;have l:=Wq.lookup;have m:=Wq.bind (.ref it);have k:aeJ (.type "StopIteration") (.type "StopIteration")=pure true:=by rw[aal];kernel_rfl
 unfold pyNext
 repeat' first|assumption|wp_step
 refine Kh j (NJ it d i ep es h) ⟨f,c,rd,λg e a b=>?_⟩;have n:=fin g a
 repeat' first|assumption|wp_step
end
end GX
namespace L2
open PySem PySem.Spec PyProof.Rows
variable{P:YO}{w:YW}{H:Hp}{h:YK}{d it D:Ye}{kvs:List (List bK×V)}{es:Array gm}{ep x1:Nat}{Zv:List Y2}{tp:Xr}{o:Y9}{tg e:Y2}{σ:St}{td te:TE}{R:It->Hp->Prop}{g:TG}{tt:TT}{Qe:Hp->Prop}
theorem wC(ok:lO P w H h)(e:Rd H d (.dT kvs)):
  (d==RW)=false/\∃(es:Array gm) (ep:Nat),GX.gJ h d es ep/\es.size=kvs.length/\∀(i:Nat) (k:List bK) (v:V),kvs[i]?=Ya (k,v)->∃(y:gm) (b:Ye),es[i]?=Ya y/\y.key=.ref b/\H b=Ya (.tup (k.map kV))/\RelV v y.val:=by
 obtain⟨_,c,m,a,o,es,ep,h1,h2,h3,h4,_⟩:=qF ok e;refine⟨c,es,ep,.of h1 h2 h3,?_,λi k v f=>?_⟩
 ·rw[←ir,h4,Yf];exact(Y0 a).symm
 ·obtain⟨q,g,n,j,l⟩:=dD a f;refine⟨entryOfKey (tupleKind (aZ P w)) q,q.2.1,?_,rfl,j,l⟩;rw[←pk,h4,Yv,g];rfl
def EN(d:Ye)(o:Y9)(kvs:List (List bK×V)):It:=
 ⟨λi H=>i<kvs.length/\H d=Ya (.frz o (.dT kvs)),λi H x c=>∃k v a b,kvs[i]?=Ya (k,v)/\H a=Yb/\H b=Ya (.tup (k.map kV))/\x=.ref a/\c=upd H a (.tup [.ref b,v]),λi H=>kvs.length<=i/\H d=Ya (.frz o (.dT kvs))⟩
def E3(d:Ye)(o:Y9)(kvs:List (List bK×V)):It:=
 ⟨λi H=>i<kvs.length/\H d=Ya (.frz o (.dT kvs)),λi H x a=>a=H/\∃k v b,kvs[i]?=Ya (k,v)/\H b=Ya (.tup (k.map kV))/\x=.ref b,λi H=>kvs.length<=i/\H d=Ya (.frz o (.dT kvs))⟩
theorem DK{f:Array gm}{c:Nat}(a:GX.gJ h d es ep)(b:GX.gJ h d f c):es=f:=by
 have e:GX.jN es ep=GX.jN f c:=YC (a.symm.trans b);cases e;rfl
theorem DC{K:Yc}(sz:es.size=kvs.length)(u:∀h:YK,h.get? d=Ya o->GX.gJ h d es ep):
  Turn P w K (.Tuple Zv x1 tp) (EN d o kvs) [it] it (λi h=>∃ok j,h.get? it=Ya (GX.yo .none d i es.size ep ok j)) where
 mem:=by simp
 obj:=λi h ⟨ok,j,st⟩ b l=>by
  have e:b=it:=by simpa using l
  subst e;exact⟨_,st,λv z=>by cases z⟩
 keep:=λi h x ⟨ok,j,st⟩ k=>⟨ok,j,k it (by simp) _ st⟩
 item:=by
  intro X A hw B t i Q s σ H E I C st D;subst A hw B;obtain⟨ok,j,a⟩:=st;obtain⟨R,hd⟩:=D;have f:s.heap.get? d=Ya o:=(show s.heap.get? d=Ya o/\_ from I.hok d _ hd).1;have S:kvs[i]?=Ya kvs[i]:=Yk R;obtain⟨_,Zk,T,F,_,G⟩:=wC I.hok (.inr ⟨o,hd⟩);obtain rfl:=DK (u _ f) F;obtain⟨y,b,U,V,l,W⟩:=G i kvs[i].1 kvs[i].2 S;refine GX.HD a (u _ f) U λx g m kp=>?_;have n:s.heap.objs.size≠it:=λz=>by
   have:=Yu a;rw[←z]at this;exact Y7 _ this
  have p:=C it (by simp);have Y:aM X Q σ (upd H s.heap.objs.size (.tup [.ref b,kvs[i].2])) {s with heap:=x}:=
   I.turnLay kp p ⟨_,g⟩ (Yj _) n ⟨by show 2<=sizeLine;decide,[y.key,y.val],.cons V (.cons W .nil),_,m,rfl,0,rfl,rfl,rfl⟩
  refine⟨_,rfl,wpAny_letOwnedTupleGo_items g λh2 q Z=>?_⟩;obtain⟨J,L,f2,M,N,O⟩:=p;have r:(upd H s.heap.objs.size (.tup [.ref b,kvs[i].2])) it=none:=by rw[ak (cT n)];exact J
  refine⟨.ref s.heap.objs.size,_,Y.turned (t':=s.toks) (λb o l e=>(Z.2 b l).trans e) r L M N O,rfl,⟨_,_,_,b,S,I.hok.fresh (Yj _),l,rfl,rfl⟩,⟨y.key,y.val,q⟩,λc t=>?_⟩;have e:c=it:=by simpa using t
  rw[e];exact r
 done:=by
  intro X A hw B t i Q s σ H E I C st D;subst A hw B;obtain⟨ok,j,a⟩:=st;obtain⟨R,hd⟩:=D;have f:s.heap.get? d=Ya o:=(show s.heap.get? d=Ya o/\_ from I.hok d _ hd).1;obtain⟨J,L,f2,M,N,O⟩:=C it (by simp);exact GX.JO (I.ok.hd t) a (u _ f) (by omega) λx eb=>⟨rfl,I.turned (t':=s.toks) (λb o l e=>eb b o l e) J L M N O⟩
 self:=λ_ _ _ _ _ ⟨ok,j,st⟩ h=>ad0 st h
theorem FG{K:Yc}(sz:es.size=kvs.length)(l:∀h:YK,h.get? d=Ya o->GX.gJ h d es ep):
  Turn P w K tg (E3 d o kvs) [it] it (λi h=>h.get? it=Ya (GX.AG d i es.size ep)) where
 mem:=by simp
 obj:=λi h st b a=>by
  have e:b=it:=by simpa using a
  subst e;exact⟨_,st,λv z=>by cases z⟩
 keep:=λi h g st k=>k it (by simp) _ st
 item:=by
  intro X m hw n C i D s σ H E I j st p;subst m hw n;obtain⟨F,hd⟩:=p;have c:s.heap.get? d=Ya o:=(show s.heap.get? d=Ya o/\_ from I.hok d _ hd).1;have G:kvs[i]?=Ya kvs[i]:=Yk F;obtain⟨_,S,J,q,_,r⟩:=wC I.hok (.inr ⟨o,hd⟩);obtain rfl:=DK (l _ c) q;obtain⟨y,b,L,M,a,T⟩:=r i kvs[i].1 kvs[i].2 G;obtain⟨t,u,N,x,A,B⟩:=j it (by simp);refine GX.Ja st (l _ c) L λg f O=>?_;have Q:aM X D σ H {s with heap:=g}:=I.turned (t':=s.toks) (λb o a e=>(O.2 b a).trans e) t u x A B;exact⟨_,rfl,Dh (s:={s with heap:=g}) f rfl rfl (by decide) ⟨.ref b,H,Q,M,⟨rfl,kvs[i].1,kvs[i].2,b,G,a,rfl⟩,f,λb a=>(j b a).1⟩⟩
 done:=by
  intro X m hw n C i D s σ H E I j st p;subst m hw n;obtain⟨F,hd⟩:=p;have c:s.heap.get? d=Ya o:=(show s.heap.get? d=Ya o/\_ from I.hok d _ hd).1;obtain⟨t,u,N,x,A,B⟩:=j it (by simp);exact GX.ML (I.ok.hd C) st (l _ c) (by omega) λg R=>⟨rfl,I.turned (t':=s.toks) (λb o a e=>R b o a e) t u x A B⟩
 self:=λ_ _ _ _ _ st h=>wpAny_pyIter_keyiter ⟨_,st,rfl,rfl⟩ h
section
variable{X:Cx}
theorem aM.freezeT{c:List (Ye×Y9)}{a:Hp}{b:Yl}(f:aM X c σ a b)(hd:a d=Ya (.dT kvs))(ho:b.heap.get? d=Ya o):aM X c σ (upd a d (.frz o (.dT kvs))) b:=
 f.write (t':=b.toks) (x:=d) (e:=d) (by rw[hd];trivial) (.inl rfl) (λ_ _ _ e=>e) ⟨o,ho⟩ ⟨ho,by
  obtain⟨z,y,h,i,j⟩:=(show bZ X.prog X.w a _ d (.dT kvs)from f.hok d _ hd);exact⟨z,y,h,Paired.mapP i λ_ _ ⟨k,g,l⟩=>⟨k,by rw[ak (bV g hd (by intro z;cases z))];exact g,l⟩,j⟩⟩
def G2(td:TE):TI:=λσ H R=>td σ H λx b=>∃d a,x=.ref d/\b d=Ya (.dT a)/\∀o,R (EN d o a) (upd b d (.frz o (.dT a)))
def MZ(td:TE):TI:=λσ H R=>td σ H λx b=>∃d a,x=.ref d/\b d=Ya (.dT a)/\∀o,R (E3 d o a) (upd b d (.frz o (.dT a)))
theorem Jq{l m:Xr}(p:PE X e td)(a:W8 e "items" X.env (eval e X.env)=eval e X.env:=by rfl)(c:(l.endLine==m.line)=true:=by rfl):
  PI X (.Tuple Zv x1 tp) (.Call (.Attribute e "items" l) [] [] m) (G2 td):=by
 intro n s σ H R I h;refine XZ a c (cz (p n s σ H _ I h) λv f r=>?_);obtain⟨x,t,j,u,d,g,ex,hd,q⟩:=r;subst ex;obtain rfl:v=YA d:=u;obtain⟨w,y,z,rd,sz,_⟩:=wC j.hok (.inl hd);obtain⟨h1,h2⟩:=uS (T:="dict") j (x:=.ref d) rfl (.inr (.inr (.inl ⟨rfl,.inr ⟨g,hd⟩⟩)));refine⟨"dict","dict.items",WI,aae,ack,h1,h2,WN rfl (aav ?_)⟩;refine GX.Jx w rd ?_;have i:GX.gJ (f.heap.push {cls:=.type "dict_items",data:=.fields #[.ref d]}) d y z:=rd.at λo e=>Yg _ e;have A:aM X n σ t {f with heap:=f.heap.push {cls:=.type "dict_items",data:=.fields #[.ref d]}}:=j.kept (t':=f.toks) λb ob e=>Yg _ e;refine GX.JA (Yr _ rfl) i ?_;have k:=A.freezeT hd i;refine⟨_,[_],_,EN d _ g,_,rfl,k.kept (t':=f.toks) λb ob e=>Yg _ e,DC sz (λ_ e=>e),⟨_,_,Yr _ rfl⟩,λb B=>?_,q _⟩;have C:b=(f.heap.push {cls:=.type "dict_items",data:=.fields #[.ref d]}).objs.size:=by simpa using B
 subst C;exact k.fpOk (Yj _) (k.hok.fresh (Yj _))
theorem Mi(i:PE X e td):PI X tg e (MZ td):=by
 intro j s σ H R I h;refine cz (i j s σ H _ I h) λv f k=>?_;obtain⟨x,p,g,l,d,a,ex,hd,q⟩:=k;subst ex;obtain rfl:v=YA d:=l;obtain⟨m,r,t,rd,sz,_⟩:=wC g.hok (.inl hd);refine GX.IE m rd ?_;have c:=g.freezeT hd rd;refine⟨_,[_],_,E3 d _ a,_,rfl,c.kept (t':=f.toks) λb ob e=>Yg _ e,FG sz (λ_ e=>e),Yr _ rfl,λb n=>?_,q _⟩;have o:b=f.heap.objs.size:=by simpa using n
 subst o;exact c.fpOk (Yj _) (c.hok.fresh (Yj _))
end
def Sy(b:Ye->Y9->List (List bK×V)->It)(x:V)(H:Hp)(R:It->Hp->Prop):Prop:=∃d a,x=.ref d/\H d=Ya (.dT a)/\∀o,R (b d o a) (upd H d (.frz o (.dT a)))
theorem HE(h:td σ H λx a=>Sy EN x a R):G2 td σ H R:=h
theorem LR(h:td σ H λx a=>Sy E3 x a R):MZ td σ H R:=h
theorem L5{a:Ye->Y9->List (List bK×V)->It}(hd:H d=Ya (.dT kvs))(h:∀o A,A d=Ya (.frz o (.dT kvs))->JH d H A->R (a d o kvs) A):Sy a (.ref d) H R:=
 ⟨d,kvs,rfl,hd,λo=>h o _ ai λb u n e=>by rw[ak n];exact e⟩
theorem Dk(c:Nat->St->Hp->Prop)(h0:c 0 σ H)(hl:∀i σ H,i<=kvs.length->c i σ H->H d=Ya (.frz o (.dT kvs)))(hs:∀i k v t b σ H l,kvs[i]?=Ya (k,v)->c i σ H->H t=Yb->aG H l->l t=Ya (.tup [.ref b,v])->H b=Ya (.tup (k.map kV))->eZ g tt te D (c (i+ 1)) (.ref t) σ l)(hd:∀σ H,c kvs.length σ H->Qe H):
  ∃W:Nat->Nat->St->Hp->Prop,(∃m,W 0 m σ H)/\∀i m n f,W i m n f->((EN d o kvs).stop i f/\Qe f)∨((EN d o kvs).go i f/\∃N:St->Hp->Prop,(∀r s,N r s->∃u,u<m/\W (i+ 1) u r s)/\
   ∀x h,(EN d o kvs).yld i f x h->eZ g tt te D N x n h):=by
 refine⟨λi m σ H=>m=kvs.length-i/\i<=kvs.length/\c i σ H,⟨kvs.length,by simp,Y6 _,h0⟩,?_⟩;rintro i m σ H ⟨rfl,z,p⟩;have q:=hl i σ H z p;by_cases j:i<kvs.length
 ·refine .inr ⟨⟨j,q⟩,c (i+ 1),λn f A=>⟨kvs.length-(i+ 1),by omega,rfl,j,A⟩,λx f y=>?_⟩;obtain⟨k,v,a,b,B,w,C,rfl,rfl⟩:=y;exact hs i k v a b σ _ _ B p w (aD w) ai C
 ·have e:i=kvs.length:=by omega
  subst e;exact .inl ⟨⟨Yj _,q⟩,hd σ H p⟩
theorem EA(a:Nat->St->Hp->Prop)(h0:a 0 σ H)(hl:∀i σ H,i<=kvs.length->a i σ H->H d=Ya (.frz o (.dT kvs)))(hs:∀i k v b σ H,kvs[i]?=Ya (k,v)->a i σ H->H b=Ya (.tup (k.map kV))->eZ g tt te D (a (i+ 1)) (.ref b) σ H)(hd:∀σ H,a kvs.length σ H->Qe H):
  ∃W:Nat->Nat->St->Hp->Prop,(∃m,W 0 m σ H)/\∀i m j c,W i m j c->((E3 d o kvs).stop i c/\Qe c)∨((E3 d o kvs).go i c/\∃N:St->Hp->Prop,(∀l n,N l n->∃r,r<m/\W (i+ 1) r l n)/\
   ∀x f,(E3 d o kvs).yld i c x f->eZ g tt te D N x j f):=by
 refine⟨λi m σ H=>m=kvs.length-i/\i<=kvs.length/\a i σ H,⟨kvs.length,by simp,Y6 _,h0⟩,?_⟩;rintro i m σ H ⟨rfl,s,p⟩;have q:=hl i σ H s p;by_cases h:i<kvs.length
 ·refine .inr ⟨⟨h,q⟩,a (i+ 1),λj c t=>⟨kvs.length-(i+ 1),by omega,rfl,h,t⟩,λx c y=>?_⟩;obtain⟨rfl,k,v,b,u,w,rfl⟩:=y;exact hs i k v b σ _ u p w
 ·have e:i=kvs.length:=by omega
  subst e;exact .inl ⟨⟨Yj _,q⟩,hd σ H p⟩
end L2
local macro_rules|`(tactic|sizeOf_list_dec)=>`(tactic|omega)
local macro_rules|`(tactic|sizeOf_list_dec)=>`(tactic|first|exact Nat.le_of_ble_eq_true rfl|exact L2.aJ (by omega)|exact L2.LS|exact L2.LQ)
local macro_rules|`(tactic|sizeOf_list_dec)=>`(tactic|first|assumption|decide|exact ⟨by decide, by decide⟩|exact ⟨by decide, by decide, by decide⟩)
local macro_rules|`(tactic|sizeOf_list_dec)=>`(tactic|with_reducible first|exact L2.MO|exact L2.sF|exact L2.Mm|exact L2.Ml)
local macro_rules|`(tactic|sizeOf_list_dec)=>`(tactic|with_reducible first|exact L2.F3|exact L2.J4|exact L2.BF|exact L2.yN)
local macro_rules|`(tactic|sizeOf_list_dec)=>`(tactic|with_reducible first|exact L2.FZ|exact L2.EU|exact L2.Il|exact L2.MF)
local macro_rules|`(tactic|sizeOf_list_dec)=>`(tactic|with_reducible exact L2.NG)
local macro_rules|`(tactic|sizeOf_list_dec)=>`(tactic|with_reducible first|exact L2.HM|exact L2.JL|exact L2.KI|exact L2.J0)
local macro_rules|`(tactic|sizeOf_list_dec)=>`(tactic|with_reducible first|exact L2.Ia|exact L2.Km)
local macro_rules|`(tactic|sizeOf_list_dec)=>`(tactic|with_reducible first|exact L2.AK|exact L2.Ji|exact L2.O3)
local macro_rules|`(tactic|sizeOf_list_dec)=>`(tactic|with_reducible first|exact L2.MT|exact L2.Fm|exact L2.uY|exact L2.FY)
local macro_rules|`(tactic|sizeOf_list_dec)=>`(tactic|with_reducible first|exact L2.JX|exact L2.xx|exact L2.Al|exact L2.M3)
local macro_rules|`(tactic|sizeOf_list_dec)=>`(tactic|with_reducible first|exact L2.Jp|exact L2.AV|exact L2.CT|exact L2.oO)
local macro_rules|`(tactic|sizeOf_list_dec)=>`(tactic|with_reducible first|exact L2.Kv|exact L2.MK|exact L2.LG|exact L2.HK)
local macro_rules|`(tactic|sizeOf_list_dec)=>`(tactic|with_reducible first|exact L2.Qr|exact L2.EJ|exact L2.IF|exact L2.Ly)
local macro_rules|`(tactic|decreasing_trivial_pre_omega)=>`(tactic|first|assumption|(apply L2.bo.of;assumption)|(apply L2.bC.of;assumption)|(refine Or.inl ?_;assumption)|(refine Or.inl ?_;apply L2.bo.of;assumption)|(refine Or.inr ?_;apply L2.bC.of;assumption))
local macro_rules|`(tactic|bv_omega)=>`(tactic|first|assumption|exact L2.cE (j := 0) rfl|exact L2.cE (j := 1) rfl|exact L2.cE (j := 2) rfl|exact L2.cE (j := 3) rfl|exact L2.cE (j := 4) rfl|exact L2.cE (j := 5) rfl)
local macro_rules|`(tactic|array_get_dec)=>`(tactic|array_mem_dec)
local macro_rules|`(tactic|array_get_dec)=>`(tactic|with_reducible first|refine L2.Vg ?_|refine L2.UT ?_)
local macro_rules|`(tactic|array_get_dec)=>`(tactic|with_reducible first|refine L2.Rp ?_|refine L2.U8 ?_|refine L2.Qv ?_|refine L2.UG ?_)
local macro_rules|`(tactic|array_get_dec)=>`(tactic|with_reducible first|refine L2.VJ ?_|refine L2.Vk ?_|refine L2.RF ?_|refine L2.OG ?_)
local macro_rules|`(tactic|array_get_dec)=>`(tactic|with_reducible first|refine L2.Ui ?_|refine L2.OX ?_|refine L2.R4 ?_|refine L2.Vs ?_)
local macro_rules|`(tactic|array_get_dec)=>`(tactic|with_reducible first|refine L2.NQ ?_|refine L2.Vi ?_|refine L2.Lk ?_|refine L2.QK ?_)
local macro_rules|`(tactic|array_get_dec)=>`(tactic|with_reducible first|refine L2.KG ?_|refine L2.Q5 ?_|refine L2.OI ?_|refine L2.Sg ?_)
local macro_rules|`(tactic|array_get_dec)=>`(tactic|with_reducible first|refine L2.UZ ?_|refine L2.Ue ?_|refine L2.Q7 ?_|refine L2.VP ?_)
local macro_rules|`(tactic|array_get_dec)=>`(tactic|with_reducible first|refine L2.UA ?_|refine L2.Uj ?_|refine L2.Vc ?_|refine L2.Tu ?_)
local macro_rules|`(tactic|array_get_dec)=>`(tactic|with_reducible first|refine L2.SK ?_|refine L2.Ug ?_|refine L2.LL ?_|refine L2.Rt ?_)
local macro_rules|`(tactic|array_get_dec)=>`(tactic|with_reducible first|refine L2.VI ?_|refine L2.Uk ?_|refine L2.RG ?_|refine L2.T4 ?_)
local macro_rules|`(tactic|array_get_dec)=>`(tactic|with_reducible first|refine L2.Wj ?_|refine L2.Rg ?_|refine L2.OR ?_|refine L2.U6 ?_)
local macro_rules|`(tactic|array_get_dec)=>`(tactic|with_reducible first|refine L2.VF ?_|refine L2.VE ?_|refine L2.SR ?_|refine L2.U3 ?_)
local macro_rules|`(tactic|array_get_dec)=>`(tactic|with_reducible first|refine L2.Rh ?_|refine L2.QO ?_|refine L2.UL ?_|refine L2.QR ?_)
local macro_rules|`(tactic|array_get_dec)=>`(tactic|with_reducible first|refine L2.VG ?_|refine L2.Wk ?_|refine L2.TN ?_|refine L2.Vo ?_)
local macro_rules|`(tactic|array_get_dec)=>`(tactic|with_reducible first|refine L2.QV ?_|refine L2.QN ?_|refine L2.Sm ?_|refine L2.UD ?_)
local macro_rules|`(tactic|array_get_dec)=>`(tactic|with_reducible first|refine L2.SE ?_|refine L2.QG ?_|refine L2.Sn ?_|refine L2.RP ?_)
local macro_rules|`(tactic|array_get_dec)=>`(tactic|(with_reducible refine L2.QL λR hR=>?_))
local macro_rules|`(tactic|array_mem_dec)=>`(tactic|((with_reducible apply L2.TX);assumption))
local macro_rules|`(tactic|array_mem_dec)=>`(tactic|((with_reducible apply L2.Rc);decreasing_trivial_pre_omega;rfl))
local macro_rules|`(tactic|array_mem_dec)=>`(tactic|((with_reducible apply L2.Vp);exact rfl))
local macro_rules|`(tactic|array_mem_dec)=>`(tactic|((with_reducible apply L2.Wm);sizeOf_list_dec))
local macro_rules|`(tactic|array_mem_dec)=>`(tactic|((with_reducible apply L2.TQ);decreasing_trivial_pre_omega;bv_omega))
local macro_rules|`(tactic|array_mem_dec)=>`(tactic|((with_reducible apply L2.TK);decreasing_trivial_pre_omega;bv_omega))
local macro_rules|`(tactic|array_mem_dec)=>`(tactic|((with_reducible apply L2.T5);decreasing_trivial_pre_omega))
local macro_rules|`(tactic|array_mem_dec)=>`(tactic|((with_reducible apply L2.RT);decreasing_trivial_pre_omega))
local macro_rules|`(tactic|array_mem_dec)=>`(tactic|((with_reducible apply L2.Rv);decreasing_trivial_pre_omega))
local macro_rules|`(tactic|array_mem_dec)=>`(tactic|((with_reducible apply L2.RB);decreasing_trivial_pre_omega;(first|rw [L2.G5]|rw [L2.Aj]|skip)))
local macro_rules|`(tactic|array_mem_dec)=>`(tactic|((with_reducible apply L2.N7);decreasing_trivial_pre_omega;(first|rw [L2.G5]|rw [L2.Aj]|skip)))
local macro_rules|`(tactic|array_mem_dec)=>`(tactic|((with_reducible apply L2.QW);decreasing_trivial_pre_omega;decreasing_trivial_pre_omega))
local macro_rules|`(tactic|array_mem_dec)=>`(tactic|((with_reducible apply L2.Uu);decreasing_trivial_pre_omega))
local macro_rules|`(tactic|array_mem_dec)=>`(tactic|((with_reducible apply L2.Sj);decreasing_trivial_pre_omega))
local macro_rules|`(tactic|array_mem_dec)=>`(tactic|((with_reducible apply L2.Va);sizeOf_list_dec))
local macro_rules|`(tactic|array_mem_dec)=>`(tactic|((with_reducible apply L2.Uw);sizeOf_list_dec))
local macro_rules|`(tactic|array_mem_dec)=>`(tactic|((with_reducible apply L2.K4);assumption;sizeOf_list_dec))
local macro_rules|`(tactic|array_mem_dec)=>`(tactic|((with_reducible apply L2.M7);assumption;assumption;sizeOf_list_dec))
local macro_rules|`(tactic|array_mem_dec)=>`(tactic|((with_reducible apply L2.Pp);decreasing_trivial_pre_omega))
local macro_rules|`(tactic|array_mem_dec)=>`(tactic|((with_reducible apply L2.LO);decreasing_trivial_pre_omega))
local macro_rules|`(tactic|array_mem_dec)=>`(tactic|((with_reducible apply L2.OY);decreasing_trivial_pre_omega))
local macro_rules|`(tactic|array_mem_dec)=>`(tactic|with_reducible refine L2.Mq ?_)
local macro_rules|`(tactic|array_mem_dec)=>`(tactic|((with_reducible apply L2.OV);decreasing_trivial_pre_omega))
local macro_rules|`(tactic|array_mem_dec)=>`(tactic|((with_reducible apply L2.T9);decreasing_trivial_pre_omega;bv_omega))
local macro_rules|`(tactic|array_mem_dec)=>`(tactic|with_reducible refine L2.VU ?_)
local macro_rules|`(tactic|array_mem_dec)=>`(tactic|with_reducible first|refine L2.TJ ?_|refine L2.RQ ?_|refine L2.NM ?_|refine L2.RC ?_)
local macro_rules|`(tactic|array_mem_dec)=>`(tactic|with_reducible first|refine L2.VD ?_|refine L2.T2 ?_|refine L2.Rm ?_|refine L2.Rr ?_)
local macro_rules|`(tactic|array_mem_dec)=>`(tactic|((with_reducible refine L2.uC ?_);(with_reducible refine L2.uC ?_);(with_reducible apply L2.ur);assumption;sizeOf_list_dec))
local macro_rules|`(tactic|array_mem_dec)=>`(tactic|((with_reducible refine L2.uC ?_);(with_reducible apply L2.ur);assumption;sizeOf_list_dec))
local macro_rules|`(tactic|array_mem_dec)=>`(tactic|((with_reducible apply L2.ur);assumption;sizeOf_list_dec))
local macro_rules|`(tactic|array_mem_dec)=>`(tactic|((with_reducible apply L2.QE);assumption;sizeOf_list_dec;sizeOf_list_dec;sizeOf_list_dec))
local macro_rules|`(tactic|array_mem_dec)=>`(tactic|((with_reducible apply L2.Vr);assumption;sizeOf_list_dec;sizeOf_list_dec;sizeOf_list_dec))
local macro_rules|`(tactic|array_mem_dec)=>`(tactic|((with_reducible apply L2.Se);decreasing_trivial_pre_omega))
local macro_rules|`(tactic|array_mem_dec)=>`(tactic|((with_reducible apply L2.TB);decreasing_trivial_pre_omega;assumption))
local macro_rules|`(tactic|array_mem_dec)=>`(tactic|((with_reducible apply L2.SJ);decreasing_trivial_pre_omega))
local macro_rules|`(tactic|array_mem_dec)=>`(tactic|((with_reducible apply L2.Ow);assumption;assumption;sizeOf_list_dec))
local macro_rules|`(tactic|array_mem_dec)=>`(tactic|((with_reducible apply L2.LU);decreasing_trivial_pre_omega))
local macro_rules|`(tactic|array_mem_dec)=>`(tactic|with_reducible first|refine L2.Ny ?_|refine L2.Sv ?_|refine L2.Qi ?_)
local macro_rules|`(tactic|array_mem_dec)=>`(tactic|((with_reducible apply L2.Uc);assumption))
local macro_rules|`(tactic|array_mem_dec)=>`(tactic|with_reducible refine L2.Ka ?_)
local macro_rules|`(tactic|array_mem_dec)=>`(tactic|((with_reducible apply L2.Vn);decreasing_trivial_pre_omega;decreasing_trivial_pre_omega))
local macro_rules|`(tactic|array_mem_dec)=>`(tactic|with_reducible refine L2.RS ?_)
local macro_rules|`(tactic|array_mem_dec)=>`(tactic|with_reducible refine L2.OZ ?_)
local macro_rules|`(tactic|array_mem_dec)=>`(tactic|with_reducible first|refine L2.HE ?_|refine L2.LR ?_)
local macro_rules|`(tactic|lia)=>`(tactic|repeat' (first|array_get_dec|fail))
namespace L2
open PySem PySem.Spec PyProof.Rows
variable{N:List Yn}{u:TS}{D:p5}{σ:St}{H:Hp}
theorem eW{P:List Yn}{sc:X3}(a:sc.kind=.function:=by rfl)(b:sc.isCoroutine=false:=by rfl)(c:sc.isGenerator=false:=by rfl)(d:N.Nodup:=by decide +kernel)(e:N.take P.length=P:=by rfl)(f:∀x∈P,sc.names.lookup x=Ya .local∨sc.names.lookup x=Ya .cell:=by decide +kernel)(g:∀y∈sc.names,y.2≠.free:=by decide +kernel):aE N P sc:=⟨a,b,c,d,e,f,g⟩
def Tg(_:YO)(_:YW)(_:Yn->Option Yd)(_:YK):Prop:=True
abbrev nI(K:Yc)(x:Yn)(f:Ye):Prop:=Xu K Y5 x=Ya (Ya (.ref f))
def qa:List Yn->(List Yd->Prop)->Prop
 |[],p=>p []
 |_::r,p=>∀v,qa r λa=>p (v::a)
theorem Qp:∀{ps:List Yn} {p:List Yd->Prop},qa ps p->∀us:List Yd,us.length=ps.length->p us
 |[],_,h,[],_=>h
 |_::_,_,h,v::us,e=>Qp (h v) us (Nat.succ.inj e)
section
variable{P:YO}{w:YW}{K:Yc}{mg:Yn->Option Yd}{base h:YK}{x Zb:Yn}{st:YT}{f:Ye}{fd:Yx}{ps:List Yn}{k:Nat}{sp:Sp}
theorem bH.oj(F:bH K x Zb st f fd)(S:aE N ps (ao st))
  (b:∀(a:Yd) (A:nh) (outer:List aad) (s:Yl) (H:Hp) (vs:List V) (Q:VK) (E:XK),cR k (A.deeper (envOfC Zb (ao st) s.heap.objs.size f a))->(A.deeper (envOfC Zb (ao st) s.heap.objs.size f a)).units+ 64<Wy->(A.deeper (envOfC Zb (ao st) s.heap.objs.size f a)).units<Wy->(A.deeper (envOfC Zb (ao st) s.heap.objs.size f a)).units+ 1<Wy->sp vs H Q E->
   ∃t,BA (nX bx P w K mg base N Zb (ao st) f a A outer s H E).nox (dN st) t/\t {nx:=λ_ e=>Q .non e,rt:=Q} (start N vs) H)
  (len:∀vs H Q E,sp vs H Q E->vs.length=ps.length:=by intro _ _ _ _ h;(repeat obtain⟨_,h⟩:=h);subst_vars;rfl):aF P w K mg base bx (k+ 1) f fd ps sp:=F.ok S len λc A o s H vs Q E d h=>b c A o s H vs Q E d d.units d.units0 (Hq d) h
theorem bH.bq(F:bH K x Zb st f fd)(h:∀(kV i k:Yd) (l:Option Ye) (j ct:Yd),qa ps λus=>bindArgs (WS x Zb (f7 st) (dN st) (ao st) .none kV i k l j ct) ⟨us,[]⟩=pure (ps.zip us):=by(repeat refine λ_=>?_);rfl):Binds K fd ps []:=F.binds λa b c d e g us hl=>Qp (h a b c d e g) us hl
theorem bH.cal(F:bH K x Zb st f fd)(X:K.In h)(G:h.Ns Y5 mg)(a:nI K x f)(q:∀(kV b d:Yd) (e:Option Ye) (c ct:Yd),qa ps λus=>bindArgs (WS x Zb (f7 st) (dN st) (ao st) .none kV b d e c ct) ⟨us,[]⟩=pure (ps.zip us):=by(repeat refine λ_=>?_);rfl):eD K mg x f fd ps:=⟨aax X G a,F.kp,F.bq q⟩
end
theorem Wl{α:Type}:∀{us:List α},us.length=1->∃a0,us=[a0]|[a0],_=>⟨a0,rfl⟩
theorem Wi{α:Type}:∀{us:List α},us.length=3->∃a0 a b,us=[a0,a,b]|[a0,a,b],_=>⟨a0,a,b,rfl⟩
theorem QL{a b c:TS}(h:∀R:TS,R=pH c u->pH a (pH b R) D σ H):pH a (pH b (pH c u)) D σ H:=h _ rfl
theorem TX{R:TS}(e:R=u)(h:u D σ H):R D σ H:=e▸h
end L2
namespace K43
open PySem L2
variable{f a b r p am ah ap as:Ye}{fd:Yx}{H H' A B:Hp}{v mv:V}{σ:St}{Q:VK}{m m' m0:List (Int×Int)}{xs ws pl:List V}{ps kvs:List (List bK×V)}{ns gs:List Nm}{j i:Nat}{Zh:Option Int}{tb Zt:List (Int×List (Int×Int))}{h gr sm sk:Int}{e:Int×List (Int×Int)}{F sl:List Ye}{u:HO}{ml:List (List (Int×Int))}
def eX(i:Nat):YT:=PySem.Challenge.pw_groupcall_k43_row_and_causes.main.body.getD i (.Pass ⟨0,0,0,0⟩)
abbrev rq:YT:=eX 2
abbrev kq:YT:=eX 3
abbrev yp:YT:=eX 4
abbrev rP:YT:=eX 9
abbrev yL:YT:=eX 5
abbrev ke:YT:=eX 10
abbrev iH:YT:=bz (eX 24) 0
abbrev fJ:YT:=bz (eX 25) 0
abbrev rQ:YT:=eX 17
abbrev uw:YT:=eX 28
abbrev p6:YT:=eX 29
abbrev jm:YT:=bz (eX 24) 4
abbrev oW:YT:=bz (eX 24) 5
abbrev gX:YT:=bz (eX 26) 1
abbrev mw:YT:=eX 36
abbrev uX:YT:=eX 37
abbrev pd:YT:=bz (eX 24) 1
abbrev oU:YT:=bz (eX 24) 2
abbrev gi:YT:=bz (eX 24) 6
abbrev eM:YT:=bz (eX 27) 1
abbrev uu:YT:=eX 34
abbrev jh:YT:=eX 38
abbrev iM:YT:=eX 39
abbrev ja:YT:=eX 40
abbrev MC:YT:=eX 41
abbrev jo:YT:=eX 42
section
variable{P:YO}{w:YW}{K:Yc}{mg:Yn->Option Yd}{base:YK}
def pZ(K:Yc):Sp:=λa H Q _=>∃(d:Ye) (m:List (Int×Int)) (h:Int),a=[.ref d,.int h]/\Rd H d (.dK (dI m))/\Q (.int (ct m h)) H
abbrev IK:List Yn:=["counts","hand"]
theorem Eb:aE ["counts","hand"] IK (ao rq):=eW
variable(eV:Tg P w mg base)
include eV in
theorem BI(F:bH K "count_of" "count_of" rq f fd):aF P w K mg base bx 1 f fd IK (pZ K):=by
 refine F.oj Eb ?_;rintro _ _ _ _ H _ Q _ _ _ _ a ⟨d,m,h,rfl,h⟩;refine⟨_,(au (aL (yd a (pv 0) (pv 1) ax ⟨rfl,rfl,rfl,rfl⟩))),?_⟩;obtain⟨hd,k⟩:=h;refine⟨_,rfl,d,rfl,.inl ⟨_,hd⟩,_,rfl,_,.inl ⟨_,YD h,hd,rfl,rfl⟩,?_⟩;show Q ((d3 (dI m) (YD h:bK)).getD (.int 0)) H;rw[Oc];exact k
def jg(K:Yc):Sp:=λe H Q _=>∃(a:Ye) (d:List V) (b:List (List (Int×Int))),e=[.ref a]/\bo K H a d/\MG H d b/\(∀m∈b,Ck m)/\b.length<=10/\
 ∀(c:Hp) (l:Ye) (S:List Int),aG H c->c l=Ya (.lst (S.map V.int))->S.Nodup->(∀k,k∈S↔∃m∈b,k∈m.map (·.1))->Q (.ref l) c
abbrev xW:List Yn:=["some"]
theorem js:aE ["some","hands","counts"] xW (ao kq):=eW
variable(iO:mg "list"=Yb)(GQ:mg "set"=Yb)(iA:mg "sorted"=Yb)
include eV iO GQ iA in
theorem ym(F:bH K "hands_among" "hands_among" kq f fd):aF P w K mg base bx 1 f fd xW (jg K):=by
 refine F.oj js ?_;rintro _ _ _ _ H _ _ _ _ _ _ _ ⟨a,C,D,rfl,h⟩;refine⟨_,(aj (aX (i:=1) js.nd rfl (YB rfl) (dQ af))
   (aj (kC Ws rfl (bJ (K:=K) rfl (pv 0)) (aP (i:=2) js.nd rfl (YB rfl))
   (au (dC (F5 X0 acL PySem.F.type_list_extend Hx (pv 1) (aa (bO (FX rfl) (by rfl) iO W4 (aa (pv 2) af)) af)))))
   (au (aL (bj (tN rfl) (by rfl) iA XU (aa (bO (Aa rfl) (by rfl) GQ (show Xk "set"=Ya (.type "set") by decide +kernel) (aa (pv 1) af)) af)))))),?_⟩
 obtain⟨E,dc,G,l10,k⟩:=h;refine⟨Y6 _,λhl c=>?_⟩;have L:C.length=D.length:=Y0 dc;refine⟨_,rfl,a,rfl,⟨_,(aD c).seq E⟩,lu (K:=K) (a:=a) (xs:=C) (λi σ p=>∃v ns,σ=[Ya (.ref a),Ya (.ref hl),v]/\aG H p/\p hl=Ya (.lst (ns.map V.int))/\ns.length<=63*i/\∀k,k∈ns↔∃m∈D.take i,k∈m.map (·.1))
  ⟨Yb,[],rfl,aD c,ai,Y6 _,λk=>by simp⟩ (λi σ p _ ⟨_,_,_,g,_⟩=>g.seq E) ?_ ?_⟩
 ·rintro i x σ p M ⟨v,ns,rfl,g,r,s,hm⟩;obtain⟨m,n,d,rfl,hd⟩:=MG.get dc M;have T:=(Yi.mp n).1;have N:=G m (Yy n);have lm:=N.len;refine⟨_,rfl,.inl ⟨rfl,_,bo.of r⟩,_,rfl,d,m,rfl,cU g hd,by omega,λl t=>?_⟩;have O:hl≠l:=ay r t;refine⟨hl,l,_,_,rfl,rfl,by rw[ak O];exact r,ai,?_,Ya (.ref d),ns++m.map (·.1),rfl,λb o e=>?_,?_,?_,λk=>?_⟩
  ·rw[Yf,Yf,Yf];exact pe (aJ (by omega))
  ·rw[ak (ay e c),ak (ay (g b o e) t)];exact g b o e
  ·rw[ai,Yt]
  ·rw[Yq,Yf];omega
  ·rw[aT n,YG,hm k];constructor
   ·rintro(⟨y,A,u⟩|q)
    ·exact⟨y,Y1 _ A,u⟩
    ·exact⟨m,YF _ (by simp),q⟩
   ·rintro⟨y,A,u⟩;rcases YG.mp A with z|z
    ·exact .inl ⟨y,z,u⟩
    ·rw[Yh.mp z]at u;exact .inr u
 rintro σ p ⟨v,ns,rfl,g,r,s,hm⟩;rw[L,YM]at hm;refine⟨_,rfl,hl,ns,rfl,bo.of r,by omega,λq I Q nd mem=>?_⟩;have rg:∀k∈I,0<=k/\k<63:=λk R=>by
  obtain⟨m,h1,h2⟩:=(hm k).mp ((mem k).mp R);exact(G m h1).keys k h2
 refine⟨q,I,rfl,ai,nd,iJ nd rg,λl S B J U=>?_⟩;refine k _ l S (g.trans ((aD Q).trans (aD B))) ai (J.nodup_iff.mpr nd) λj=>?_;rw[J.mem_iff,mem j,hm j]
def vd(K:Yc):Sp:=λb H Q _=>∃(d e:Ye) (m n:List (Int×Int)),b=[.ref d,.ref e]/\Rd H d (.dK (dI m))/\Rd H e (.dK (dI n))/\Ck m/\Ck n/\∀a,aG H a->Q (.bl (cov m n)) a
abbrev wQ:List Yn:=["one","other"]
theorem Jd:aE ["one","other"] wQ (ao yp):=eW
variable{rY:Ye}{kH:Ye}{oV:Yx}{jk:Yx}(cO:aF P w K mg base bx 1 rY oV IK (pZ K))(bN:eD K mg "count_of" rY oV IK)(hZ:aF P w K mg base bx 1 kH jk xW (jg K))(dX:eD K mg "hands_among" kH jk xW)(Qn:mg "all"=Yb)
include eV cO bN hZ dX Qn in
theorem HX(F:bH K "covers" "covers" yp f fd):aF P w K mg base bx 2 f fd wQ (vd K):=by
 refine F.oj Jd ?_;rintro _ _ _ _ _ _ _ _ s _ _ _ ⟨d,e,m,n,rfl,h⟩;refine⟨_,(au (aL (bj (JU rfl) (by rfl) Qn aff (aa (bQ ["one","other","hand"] [Ya 0,Ya 1,Yb] rfl rfl (by kernel_rfl) (bJ (K:=K) rfl (a9 hZ dX s (aa (dQ (aa (pv 0) (aa (pv 1) af))) af))) (λ_ _ _ _ _ nd=>aP (i:=2) nd rfl (YB rfl)) (λ_ _ _ _ _=>ed) (λ_ _ _ _ _=>(mi DP (a9 cO bN s (aa (pv 0) (aa (pv 2) af))) (a9 cO bN s (aa (pv 1) (aa (pv 2) af))) (bu _)))) af)))),?_⟩;obtain⟨hd,B,r,t,k⟩:=h;refine⟨_,rfl,_,rfl,by show 2<=sizeLine;decide,λH u=>?_⟩;have y:=aD (o:=.lst [V.ref d,.ref e]) u;refine⟨H,_,[m,n],rfl,bo.of ai,.cons ⟨d,rfl,cU y hd⟩ (.cons ⟨e,rfl,cU y B⟩ .nil),λx A=>?_,by show 2<=10;decide,λI l S J hl nd mem=>?_⟩
 ·rcases Ym.mp A with z|z
  ·rw[z];exact r
  ·rw[Yh.mp z];exact t
 have C:=y.trans J;have rg:∀j∈S,0<=j/\j<63:=λj g=>by
  rcases two.mp ((mem j).mp g)with z|z
  ·exact r.keys j z
  ·exact t.keys j z
 have O:=iJ nd rg;refine⟨l,rfl,⟨_,bo.of hl⟩,λD E=>?_⟩;refine bL (K:=K) (a:=l) (xs:=S.map V.int) (λi σ p=>∃v,σ=[Ya (.ref d),Ya (.ref e),v]/\aG I p/\p D=Ya (.lst (((S.take i).map λj=>decide (ct n j<=ct m j)).map V.bl))) ⟨Yb,rfl,aD E,ai⟩ ?_ ?_ ?_
 ·rintro i σ p _ ⟨_,_,q,_⟩;exact bo.of (q _ _ hl)
 ·rintro i x σ p A ⟨v,rfl,q,c⟩;obtain⟨j,g,rfl⟩:=fP A;have L:=(Yi.mp g).1;have G:=C.trans q;refine AA ⟨_,rfl,_,rfl,d,m,j,rfl,cU G hd,_,rfl,_,rfl,e,n,j,rfl,cU G B,_,_,rfl,rfl,_,c,?_,Ya (.int j),rfl,λb o z=>?_,?_⟩
  ·rw[Yf,Yf,Y8];exact aJ (by omega)
  ·rw[ak (ay z E)];exact q b o z
  ·rw[ai,aT g,Yt,Yt];rfl
 rintro σ p ⟨v,rfl,q,c⟩;rw[show S.take (S.map V.int).length=S by rw[Yf,YM]]at c;refine⟨D,_,rfl,bo.of c,?_⟩;have M:((S.map λj=>decide (ct n j<=ct m j)).all λb=>b)=cov m n:=by
  rw[XG,G4 r t,ad2];constructor
  ·intro h j;by_cases g:j∈S
   ·exact of_decide_eq_true (h _ (YY (f:=λj=>decide (ct n j<=ct m j)) g))
   ·rw[mJ (λz=>g ((mem j).mpr (two.mpr (.inr z))))];exact r.ct j
  ·intro h b N;obtain⟨j,_,rfl⟩:=YL.mp N;exact decide_eq_true (h j)
 rw[M];exact k _ (C.trans q)
def jD(K:Yc):Sp:=λe H Q _=>∃(a:Ye) (b:List V) (ps:List (Int×Int)),e=[.ref a]/\(bo K H a b∨bC K H a b)/\i6 H b ps/\ps.length<=1000/\(ps.map (·.1)).Nodup/\
 ∀(c:Hp) (d:Ye),aG H c->H d=Yb->c d=Ya (.dK (dI (eh ps)))->Q (.ref d) c
abbrev FO:List Yn:=["pairs"]
theorem Dy:aE ["pairs"] FO (ao rP):=eW
variable(iI:mg "dict"=Yb)
include eV iI in
theorem Eh(F:bH K "unpacked" "unpacked" rP f fd):aF P w K mg base bx 1 f fd FO (jD K):=by
 refine F.oj Dy ?_;rintro _ _ _ _ H _ Q _ _ _ _ _ ⟨a,t,ps,rfl,h⟩;refine⟨_,(au (aL (bO (Fx rfl) (by rfl) iI W5 (aa (bQ ["hand","count"] [Yb,Yb] rfl rfl (by kernel_rfl) (Gk (K:=K) rfl (pv 0)) (λ_ _ _ _ _ nd=>mT (K:=K) (n:=2) rfl rfl (c9 (aP (i:=0) nd rfl (YB rfl)) (c9 (aP (i:=1) nd rfl (YB rfl)) mK))) (λ_ _ _ _ _=>(eY (bc L0 (pv 1) ax (bu _)))) (λ_ _ _ _ _=>(cv (aa (pv 0) (aa (pv 1) af))))) af)))),?_⟩;obtain⟨r,hp,u,nd,k⟩:=h;have J:=hp.len
 -- one turn
 have turn:∀(D:Ye) (_:H D=Yb) (i:Nat) (x:V) (σ:St) (c:Hp),t[i]?=Ya x->(∃v l d,σ=[v,l]/\aG H c/\c D=Ya (.lst d)/\d.length<=i/\i6 c d (eh (ps.take i)))->
   eZ (Oa K 2 (Hf (yA 0) (Hf (yA 1) SA))) (Lh (SV (La λi j=>.bl (decide (j<i))) (Jl 1) (tC (.int 0)))) (SU (yn (Jl 0) (yn (Jl 1) Bd))) D
    (λσ c=>∃v l d,σ=[v,l]/\aG H c/\c D=Ya (.lst d)/\d.length<=i+ 1/\i6 c d (eh (ps.take (i+ 1)))) x σ c:=by
  rintro D m i x σ c L ⟨v,l,d,rfl,sm,g,E,y⟩;obtain⟨p,s,b,rfl,M⟩:=hp.get L;have N:=(Yi.mp s).1;refine⟨b,_,rfl,bC.of (sm _ _ M),rfl,_,_,rfl,_,_,rfl,rfl,_,rfl,_,_,rfl,rfl,_,rfl,du (λh=>?_) λh=>?_⟩
  ·have G:0<p.2:=of_decide_eq_true h;refine⟨_,rfl,_,rfl,by show 2<=sizeLine;decide,λq I=>?_⟩;have A:D≠q:=ay g I;refine⟨d,by rw[ak A];exact g,aJ (by omega),Ya (.int p.1),Ya (.int p.2),_,rfl,λb o e=>?_,ai,by rw[Yq];exact Xb E,?_⟩
   ·rw[ak (ay e m),ak (ay (sm b o e) I)];exact sm b o e
   ·rw[aT s,OU G];refine i6.snoc (y.mono λa d e=>?_) ⟨q,rfl,?_⟩
    ·rw[ak (bV e g (by intro z;cases z)),ak (ay e I)];exact e
    ·rw[ak (cT A),ai]
  ·have G:¬ 0<p.2:=λz=>h (decide_eq_true z);refine⟨Ya (.int p.1),Ya (.int p.2),d,rfl,sm,g,aah E,?_⟩;rw[aT s,QZ G];exact y
 have fin:∀(D:Ye) (_:H D=Yb) (σ:St) (c:Hp),(∃v l d,σ=[v,l]/\aG H c/\c D=Ya (.lst d)/\d.length<=t.length/\i6 c d (eh (ps.take t.length)))->
   ∃(a:Ye) (d:List V) (C:List (Int×Int)),[V.ref D]=[.ref a]/\c a=Ya (.lst d)/\i6 c d C/\(C.map (·.1)).Nodup/\C.length<=1000/\∀p,c p=Yb->Q (.ref p) (upd c p (.dK (dI C))):=by
  rintro D m σ c ⟨v,l,d,rfl,sm,g,E,y⟩;rw[J,YM]at y;refine⟨D,d,eh ps,rfl,g,y,AS nd,cb (OH ps) u,λp B=>?_⟩;exact k _ p (sm.trans (aD B)) (sm.free B) ai
 rcases r with r|r
 ·refine⟨_,rfl,a,rfl,.inl ⟨⟨_,r⟩,λD m=>?_⟩⟩;exact bL (K:=K) (a:=a) (xs:=t) (λi σ c=>∃v l d,σ=[v,l]/\aG H c/\c D=Ya (.lst d)/\d.length<=i/\i6 c d (eh (ps.take i))) ⟨Yb,Yb,[],rfl,aD m,ai,Yj _,.nil⟩
   (λi σ c _ ⟨_,_,_,_,sm,_⟩=>sm.seq r) (turn D m) (fin D m)
 ·refine⟨_,rfl,a,rfl,.inr ⟨⟨_,r⟩,λD m=>?_⟩⟩;exact Ds (K:=K) (a:=a) (xs:=t) (λi σ c=>∃v l d,σ=[v,l]/\aG H c/\c D=Ya (.lst d)/\d.length<=i/\i6 c d (eh (ps.take i))) ⟨Yb,Yb,[],rfl,aD m,ai,Yj _,.nil⟩
   (λi σ c _ ⟨_,_,_,_,sm,_⟩=>KS sm r) (turn D m) (fin D m)
def uZ(K:Yc):Sp:=λb H Q _=>∃(d e:Ye) (m n:List (Int×Int)),b=[.ref d,.ref e]/\Rd H d (.dK (dI m))/\Rd H e (.dK (dI n))/\Ck m/\Ck n/\
 ∀(a:Hp) (p:Ye) (j:List (Int×Int)),aG H a->H p=Yb->a p=Ya (.dK (dI j))->Td j->(∀k,MY [m,n] k (ct j k))->Q (.ref p) a
theorem Jb:aE ["one","other"] wQ (ao yL):=eW
variable{mM:Ye}{jX:Yx}(yg:aF P w K mg base bx 1 mM jX FO (jD K))(eP:eD K mg "unpacked" mM jX FO)(PF:mg "max"=Yb)
include eV cO bN hZ dX yg eP PF in
theorem Hw(F:bH K "joined" "joined" yL f fd):aF P w K mg base bx 2 f fd wQ (uZ K):=by
 refine F.oj Jb ?_;rintro _ _ _ _ _ _ _ _ A _ _ _ ⟨d,e,m,n,rfl,h⟩;refine⟨_,(au (aL (a9 yg eP A (aa (bQ ["one","other","hand"] [Ya 0,Ya 1,Yb] rfl rfl (by kernel_rfl) (bJ (K:=K) rfl (a9 hZ dX A (aa (dQ (aa (pv 0) (aa (pv 1) af))) af))) (λ_ _ _ _ _ nd=>aP (i:=2) nd rfl (YB rfl)) (λ_ _ _ _ _=>ed) (λ_ _ _ _ _=>(cv (aa (pv 2) (aa (bj (Ij rfl) (by rfl) PF afg (aa (a9 cO bN A (aa (pv 0) (aa (pv 2) af))) (aa (a9 cO bN A (aa (pv 1) (aa (pv 2) af))) af))) af))))) af)))),?_⟩;obtain⟨hd,M,C,E,k⟩:=h;refine⟨_,rfl,_,rfl,by show 2<=sizeLine;decide,λR G=>?_⟩;have H:=aD (o:=.lst [V.ref d,.ref e]) G;refine⟨R,_,[m,n],rfl,bo.of ai,.cons ⟨d,rfl,cU H hd⟩ (.cons ⟨e,rfl,cU H M⟩ .nil),λx s=>?_,by show 2<=10;decide,λT l S U hl nd mem=>?_⟩
 ·rcases Ym.mp s with z|z
  ·rw[z];exact C
  ·rw[Yh.mp z];exact E
 have I:=H.trans U;have rg:∀j∈S,0<=j/\j<63:=λj g=>by
  rcases two.mp ((mem j).mp g)with z|z
  ·exact C.keys j z
  ·exact E.keys j z
 have Z:=iJ nd rg;refine⟨l,rfl,⟨_,bo.of hl⟩,λD N=>?_⟩;refine bL (K:=K) (a:=l) (xs:=S.map V.int) (λi σ t=>∃v r,σ=[Ya (.ref d),Ya (.ref e),v]/\aG T t/\t D=Ya (.lst r)/\r.length<=i/\i6 t r (Mn (S.take i) λj=>if ct n j>ct m j then ct n j else ct m j)) ⟨Yb,[],rfl,aD N,ai,Yj _,.nil⟩ ?_ ?_ ?_
 ·rintro i σ t _ ⟨_,_,_,q,_⟩;exact bo.of (q _ _ hl)
 ·rintro i x σ t s ⟨v,r,rfl,q,c,O,B⟩;obtain⟨j,g,rfl⟩:=fP s;have W:=(Yi.mp g).1;have Q:=I.trans q;refine AA ⟨_,rfl,_,rfl,_,rfl,d,m,j,rfl,cU Q hd,_,rfl,_,rfl,e,n,j,rfl,cU Q M,_,_,rfl,by show 2<=sizeLine;decide,λp hp=>?_⟩;have u:D≠p:=ay c hp;refine⟨r,by rw[ak u];exact c,aJ (by omega),Ya (.int j),_,rfl,λb o z=>?_,ai,by rw[Yq];exact Xb O,?_⟩
  ·rw[ak (ay z N),ak (ay (q b o z) hp)];exact q b o z
  ·rw[aT g];show i6 _ _ (ad6 _ (_++[j]));rw[Yt];refine i6.snoc (B.mono λa r z=>?_) ⟨p,rfl,?_⟩
   ·rw[ak (bV z c (by intro z;cases z)),ak (ay z hp)];exact z
   ·rw[ak (cT u),ai]
 rintro σ t ⟨v,r,rfl,q,c,O,B⟩;rw[show S.take (S.map V.int).length=S by rw[Yf,YM]]at B;refine⟨D,r,_,rfl,.inl (bo.of c),B,?_,by rw[kR];exact nd,λH2 p J L hp=>?_⟩
 ·show(ad6 _ S).length<=1000;rw[Yf];omega
 refine k _ p _ ((I.trans q).trans J) ((I.trans q).free L) hp (KC nd rg) λj=>?_;have mx:MY [m,n] j (if ct n j>ct m j then ct n j else ct m j):=by
  by_cases z:ct n j>ct m j
  ·rw[if_pos z];refine⟨⟨n,by simp,rfl⟩,λx s=>?_⟩;rcases Ym.mp s with y|y
   ·rw[y];omega
   ·rw[Yh.mp y];omega
  ·rw[if_neg z];refine⟨⟨m,by simp,rfl⟩,λx s=>?_⟩;rcases Ym.mp s with y|y
   ·rw[y];omega
   ·rw[Yh.mp y];omega
 by_cases g:j∈S
 ·rw[ME nd j g (by have:=C.ct j;have:=E.ct j;split<;>omega)];exact mx
 ·have X:ct m j=0:=mJ λz=>g ((mem j).mpr (two.mpr (.inl z)));have Y:ct n j=0:=mJ λz=>g ((mem j).mpr (two.mpr (.inr z)));rw[Hg g];rw[X,Y]at mx;exact mx
def gC(K:Yc):Sp:=λb H Q _=>∃(d a:Ye),b=[.ref d,.ref a]/\∃m n h c,Rd H d (.dK (dI m))/\bC K H a [.int n,.int h,.int c]/\Q (.bl (decide (c<=ct m h))) H
abbrev EH:List Yn:=["counts","name"]
theorem yw:aE ["counts","name"] EH (ao ke):=eW
include eV cO bN in
theorem yM(F:bH K "covers_name" "covers_name" ke f fd):aF P w K mg base bx 2 f fd EH (gC K):=by
 refine F.oj yw ?_;rintro _ _ _ _ _ _ _ _ b _ _ _ ⟨d,a,rfl,h⟩;refine⟨_,(au (aL (mi DP (a9 cO bN b (aa (pv 0) (aa (bp (br (K:=K) rfl) (pv 1) ax (λ_ _=>rfl)) af))) (bp (br (K:=K) rfl) (pv 1) ax (λ_ _=>rfl)) (bu _)))),?_⟩;obtain⟨m,n,h,c,hd,ha,k⟩:=h;lia;refine⟨d,m,h,rfl,hd,?_⟩;lia;exact k
def D4(K:Yc)(v:V):Prop:=∃a,v=.ref a/\∀H,bC K H a [.str "own",.str "heard",.str "one"]
def gS(K:Yc):Sp:=λd H Q _=>∃(p:Ye) (n c k w cs:V),d=[.ref p,n,c,k,w,cs]/\∃C b,iS K C/\H p=Ya (.ins C b [])/\∀a,FC p H a->a p=Ya (.ins C b (uk n c k w cs))->Q .non a
def iR(K:Yc):Sp:=λe H Q _=>∃(p:Ye) (n c k w cs:V),e=[.ref p,n,c,k,w,cs]/\∃C d,iS K C/\H p=Ya (.ins C d [])/\∀a t,(∀b o,H b=Ya o->b≠p->a b=Ya o)->a t=Ya (.tup [])->a p=Ya (.ins C d (uk n c k w (.ref t)))->Q .non a
abbrev xA:List Yn:=["self","number","caller","count","word","causes"]
theorem uP:aE ["self","number","caller","count","word","causes"] xA (ao iH):=eW
include eV in
theorem uJ(F:bH K "__init__" "Call.__init__" iH f fd):aF P w K mg base bx 1 f fd xA (gS K):=by
 refine F.oj uP ?_;rintro _ _ _ _ _ _ _ _ _ _ _ _ ⟨p,n,c,k,w,cs,rfl,h⟩;refine⟨_,(aj (cF (K:=K) rfl (pv 0) (pv 1) rfl)
   (aj (cF (K:=K) rfl (pv 0) (pv 2) rfl)
   (aj (cF (K:=K) rfl (pv 0) (pv 3) rfl)
   (aj (cF (K:=K) rfl (pv 0) (pv 4) rfl)
   (au (cF (K:=K) rfl (pv 0) (pv 5) rfl)))))),?_⟩
 obtain⟨C,l,⟨cl,n1,n2,n3,n4,n5⟩,hp,q⟩:=h;lia;intro m d o;lia;intro r e s;lia;intro t g u;lia;intro v i x;lia;intro y j a;rw[Of]at a;exact q _ (λb h=>(j b h).trans ((i b h).trans ((g b h).trans ((e b h).trans (d b h))))) a
theorem qr:aE ["self","number","caller","count","word","causes"] xA (ao fJ):=eW
variable{dW:Ye}{r9:Ye}{gU:Yx}(mV:aF P w K mg base bx 1 dW gU xA (gS K))(dU:Binds K gU xA [])(Fl:iS K r9)(Am:mg "Call"=Ya (.ref r9))(eS:MJ K r9 "__init__" dW)
include eV mV dU Fl Am eS in
theorem qp(F:bH K "__init__" "OwnCall.__init__" fJ f fd):aF P w K mg base bx 2 f fd xA (iR K):=by
 refine F.oj qr ?_;rintro _ _ _ _ _ _ _ _ g _ _ _ ⟨p,n,c,k,w,cs,rfl,h⟩;refine⟨_,(au (dC (Kn rfl Am eS mV dU g (aa (pv 0) (aa (pv 1) (aa (pv 2) (aa (pv 3) (aa (pv 4) (aa (cv af) af))))))))),?_⟩;obtain⟨C,i,T,hp,q⟩:=h;lia;intro t r s a j;lia;refine⟨p,n,c,k,w,_,rfl,C,i,T,a _ _ hp,λu d l=>?_⟩;lia;exact q _ t (λb o e m=>d.at m (a _ _ e)) (d.of (a _ _ hp) j (by intro z;cases z)) l
def xE(K:Yc):Sp:=λa H Q _=>∃(w:Int),a=[.int w]/\Q (.bl (decide ((if w<0 then-w else w)<10^(60:Int).toNat))) H
def Rq(mg:Yn->Option Yd)(kd:Yn)(C:Ye):Prop:=(kd="own"/\mg "OwnCall"=Ya (.ref C))∨(kd="heard"/\mg "HeardCall"=Ya (.ref C))∨(kd="one"/\mg "OneCall"=Ya (.ref C))
def mC(K:Yc)(mg:Yn->Option Yd):Sp:=λe H Q _=>∃(n c k:Int) (kd:Yn) (w:Int) (t:Ye),e=[.int n,.int c,.int k,.str kd,.int w,.ref t]/\∃b,(kd="own"∨kd="heard"∨kd="one")/\(if w<0 then-w else w)<10^(60:Int).toNat/\H t=Ya (.tup b)/\
 ∀a p C f d,aG H a->H p=Yb->Rq mg kd C->iS K C->a p=Ya (.ins C f (uk (.int n) (.int c) (.int k) (.int w) (.ref d)))->a d=Ya (.tup (if kd="own"then[]else b))->Q (.ref p) a
def vD(K:Yc):Sp:=λa H Q _=>∃(w:Int),a=[.int w]/\Q (.bl true) H
theorem Ep:aE ["value"] ["value"] (ao rQ):=eW
variable(x8:mg "bool"=Yb)(Ht:mg "int"=Yb)(cg:mg "isinstance"=Yb)
include eV x8 Ht cg in
theorem DI(F:bH K "is_whole" "is_whole" rQ f fd):aF P w K mg base bx 1 f fd ["value"] (vD K):=by
 refine F.oj Ep ?_;rintro _ _ _ _ _ _ _ _ _ _ _ _ ⟨w,rfl,h⟩;refine⟨_,(au (aL (Bv (bj (fM (K:=K) rfl) (by rfl) cg xp (aa (pv 0) (aa (jG Ht acT) af))) (yx (J1 (bj (fM (K:=K) rfl) (by rfl) cg xp (aa (pv 0) (aa (jG x8 aaV) af)))))))),?_⟩;lia;refine⟨_,_,_,true,rfl,.int _,(by kernel_rfl),?_⟩;lia;refine⟨_,_,_,false,rfl,.int _,(by kernel_rfl),?_⟩;lia;exact h
theorem E6:aE ["word"] ["word"] (ao uw):=eW
variable{wN:Ye}{vE:Yx}(xV:aF P w K mg base bx 1 wN vE ["value"] (vD K))(yD:eD K mg "is_whole" wN vE ["value"])(Qc:mg "abs"=Yb)
include eV xV yD Qc in
theorem Fi(F:bH K "is_word" "is_word" uw f fd):aF P w K mg base bx 2 f fd ["word"] (xE K):=by
 refine F.oj E6 ?_;rintro _ _ _ _ _ _ _ _ a _ _ _ ⟨w,rfl,h⟩;refine⟨_,(au (aL (Bv (a9 xV yD a (aa (pv 0) af)) (yx (mi yl (bj Mo (by rfl) Qc afh (aa (pv 0) af)) (aW Bg ax ax) (bu _)))))),?_⟩;lia;refine⟨w,rfl,?_⟩;lia;refine⟨_,rfl,?_⟩;lia;exact h
abbrev HU:List Yn:=["number","caller","count","kind","word","causes"]
theorem Bl:aE ["number","caller","count","kind","word","causes"] HU (ao p6):=eW
variable{jj:Ye}{zH:Ye}{bf:Ye}{bF:Ye}{bE:Ye}{iQ:Yx}{xh:Yx}{BR:V}{CJ:Yd}(fH:aF P w K mg base bx 2 dW gU xA (gS K))(jq:aF P w K mg base bx 2 jj iQ xA (iR K))(jr:Binds K iQ xA [])(Ah:aF P w K mg base bx 3 zH xh ["word"] (xE K))(Af:eD K mg "is_word" zH xh ["word"])(av:iS K bf)(az:iS K bF)(aA:iS K bE)(aw:mg "HeardCall"=Ya (.ref bf))(aB:mg "OneCall"=Ya (.ref bF))(aC:mg "OwnCall"=Ya (.ref bE))(jO:Mk K bf dW)(qf:Mk K bF dW)(qi:Mk K bE jj)(ug:mg "KINDS"=Ya CJ)(ti:RelV BR CJ)(sv:D4 K BR)
include eV fH dU jq jr Ah Af av az aA aw aB aC jO qf qi ug ti sv in
theorem Ao(F:bH K "make_call" "make_call" p6 f fd):aF P w K mg base bx 4 f fd HU (mC K mg):=by
 refine F.oj Bl ?_;rintro _ _ _ _ H _ _ _ r d _ _ ⟨n,c,k,kd,w,t,rfl,h⟩;refine⟨_,(aj (dg (bc (Nk (K:=K) rfl d) (pv 3) (Gu rfl ug ti) (by rfl)) (au Eo) bD)
   (aj (dg (mE (cK K rfl (a9 Ah Af r (aa (pv 4) af)))) (au Eo) bD)
   (aj (dg (bc oP (pv 3) gF (bu _)) (au (aL (qd qi jq r rfl aC jr .nil nH (aa (pv 0) (aa (pv 1) (aa (pv 2) (aa (pv 4) (aa (pv 5) af)))))))) bD)
   (aj (dg (bc oP (pv 3) gF (bu _)) (au (aL (qd jO fH r rfl aw dU .nil nH (aa (pv 0) (aa (pv 1) (aa (pv 2) (aa (pv 4) (aa (pv 5) af)))))))) bD)
   (au (aL (qd qf fH r rfl aB dU .nil nH (aa (pv 0) (aa (pv 1) (aa (pv 2) (aa (pv 4) (aa (pv 5) af)))))))))))),?_⟩
 obtain⟨D,g,hw,x,q⟩:=h;obtain⟨E,rfl,z⟩:=sv;have u:=z H;lia;refine Pn g u ?_;lia;refine⟨w,rfl,?_⟩;lia;rw[decide_eq_true hw];lia;rcases g with rfl|rfl|rfl
 ·rw[Vd];lia;intro p a y hp i j;refine⟨p,_,_,_,_,_,rfl,_,a,aA,j,λs A B l C=>⟨rfl,?_⟩⟩;refine q _ p _ a A (λb o e=>B _ _ (i _ _ e) (ay e hp)) hp (.inl ⟨rfl,aC⟩) aA C ?_;rw[if_pos rfl];exact l
 ·rw[UE];lia;rw[Ux];lia;intro p a y hp i j;refine⟨p,_,_,_,_,_,rfl,_,a,av,j,λs v l=>⟨rfl,?_⟩⟩;have m:aG H s:=λb o e=>v.at (ay e hp) (i _ _ e);refine q _ p _ a t m hp (.inr (.inl ⟨rfl,aw⟩)) av l ?_;rw[if_neg (by decide +kernel)];exact m _ _ x
 ·rw[Tx];lia;rw[UW];lia;intro p a y hp i j;refine⟨p,_,_,_,_,_,rfl,_,a,az,j,λs v l=>⟨rfl,?_⟩⟩;have m:aG H s:=λb o e=>v.at (ay e hp) (i _ _ e);refine q _ p _ a t m hp (.inr (.inr ⟨rfl,aB⟩)) az l ?_;rw[if_neg (by decide +kernel)];exact m _ _ x
def iD(K:Yc):Sp:=λa H Q _=>∃(p d:Ye),a=[.ref p,.ref d]/\∃C b m n c k w cs,iS K C/\H p=Ya (.ins C b (uk n (.int c) (.int k) w cs))/\Rd H d (.dK (dI m))/\Q (.bl (decide (ct m c=k-1))) H
def tI(K:Yc)(mg:Yn->Option Yd):Sp:=λa H Q _=>∃(p d:Ye),a=[.ref p,.ref d]/\∃C b m n c k w cs,mg "OwnCall"=Ya (.ref C)/\H p=Ya (.ins C b (uk n (.int c) (.int k) w cs))/\Rd H d (.dK (dI m))/\Q (.bl (decide (ct m c=k-1))) H
def j9(K:Yc)(mg:Yn->Option Yd):Sp:=λe H Q _=>∃(p d:Ye),e=[.ref p,.ref d]/\∃C f m n c k w t a ps,(mg "HeardCall"=Ya (.ref C)∨mg "OneCall"=Ya (.ref C))/\H p=Ya (.ins C f (uk n (.int c) (.int k) w (.ref t)))/\Rd H d (.dK (dI m))/\H t=Ya (.tup a)/\i6 H a ps/\Ck m/\Ck ps/\∀b,aG H b->Q (.bl (decide (ct m c=k-1)&&cov m (eh ps))) b
theorem FE{ps:List (Int×Int)}(c:Ck ps):Ck (eh ps):=⟨AS c.nd,λp hp=>c.nn p ((Y4.mp hp).1),λp hp=>c.rg p ((Y4.mp hp).1)⟩
abbrev r6:List Yn:=["self","counts"]
theorem wk:aE ["self","counts"] r6 (ao jm):=eW
include eV cO bN in
theorem vP(F:bH K "in_turn" "Call.in_turn" jm f fd):aF P w K mg base bx 2 f fd r6 (iD K):=by
 refine F.oj wk ?_;rintro _ _ _ _ _ _ _ _ a _ _ _ ⟨p,d,rfl,h⟩;refine⟨_,(au (aL (mi oP (a9 cO bN a (aa (pv 1) (aa (aH (K:=K) rfl (pv 0) rfl) af))) (aW xT (aH (K:=K) rfl (pv 0) rfl) ax) (bu _)))),?_⟩;obtain⟨C,b,m,n,c,k,w,cs,⟨cl,n1,n2,n3,n4,n5⟩,hp,hd,q⟩:=h;lia;refine⟨d,m,c,rfl,hd,?_⟩;lia;exact q
theorem Au:aE ["self","counts"] r6 (ao oW):=eW
variable{gj:Ye}{m9:Yx}(eQ:aF P w K mg base bx 2 gj m9 r6 (iD K))(eI:Binds K m9 r6 [])(dP:bB K bE "in_turn" gj)
include eV eQ eI aA aC dP in
theorem Bn(F:bH K "free" "Call.free" oW f fd):aF P w K mg base bx 3 f fd r6 (tI K mg):=by
 refine F.oj Au ?_;rintro _ _ _ _ _ _ _ _ a _ _ _ ⟨p,d,rfl,h⟩;refine⟨_,(au (aL (bP (bU.cons aA.cl dP eQ eI bU.nil) (pv 0) a (aa (pv 1) af)))),?_⟩;obtain⟨C,b,m,n,c,k,w,cs,e,hp,hd,q⟩:=h;rw[aC]at e;cases e;lia;exact⟨p,d,rfl,_,b,m,n,c,k,w,cs,aA,hp,hd,q⟩
theorem tV:aE ["self","counts"] r6 (ao gX):=eW
variable{CN:Ye}{zv:Yx}(Es:aF P w K mg base bx 2 CN zv wQ (vd K))(Dt:eD K mg "covers" CN zv wQ)(ic:aF P w K mg base bx 2 mM jX FO (jD K))(dy:bB K bf "in_turn" gj)(dH:bB K bF "in_turn" gj)
include eV Es Dt ic eP eQ eI av az aw aB dy dH in
theorem si(F:bH K "free" "HeardCall.free" gX f fd):aF P w K mg base bx 3 f fd r6 (j9 K mg):=by
 refine F.oj tV ?_;rintro _ _ _ _ H _ _ _ o _ _ _ ⟨p,d,rfl,h⟩;refine⟨_,(au (aL (Bv (bP (bU.cons av.cl dy eQ eI (bU.cons az.cl dH eQ eI bU.nil)) (pv 0) o (aa (pv 1) af)) (yx (a9 Es Dt o (aa (pv 1) (aa (a9 ic eP o (aa (aH (K:=K) rfl (pv 0) rfl) af)) af))))))),?_⟩;obtain⟨C,A,m,n,c,k,w,t,s,ps,e,hp,hd,u,v,B,g,q⟩:=h;have T:iS K C:=by
  rcases e with e|e
  ·rw[aw]at e;cases e;exact av
  ·rw[aB]at e;cases e;exact az
 have go:∀{i:VK},(i (.bl (decide (ct m c=k-1))) H)->iD K [.ref p,.ref d] H i E0:=λz=>⟨p,d,rfl,_,A,m,n,c,k,w,_,T,hp,hd,z⟩;obtain⟨cl,n1,n2,n3,n4,n5⟩:=id T;have tail:∀{i:VK},(∀x,aG H x->i (.bl (cov m (eh ps))) x)->∀e a,aG H a->a e=Ya (.dK (dI (eh ps)))->vd K [.ref d,.ref e] a i E0:=λz e a b j=>⟨d,e,m,eh ps,rfl,cU b hd,.inl j,B,FE g,λy l=>z _ (b.trans l)⟩;rcases e with e|e
 ·rw[aw]at e;cases e;lia;refine go ?_;lia;refine du (λh1=>?_) λh1=>?_
  ·lia;refine⟨t,s,ps,rfl,.inr (bC.of u),v,by have:=g.len;omega,g.nd,λa D b r j=>?_⟩;lia;refine tail (λy l=>?_) _ _ b j;have:=q _ l;rw[h1,abH]at this;exact this
  ·have h1:=Xq.mpr h1;have:=q _ (aG.refl H);rw[h1,XO]at this;exact this
 ·rw[aB]at e;cases e;lia;refine go ?_;lia;refine du (λh1=>?_) λh1=>?_
  ·lia;refine⟨t,s,ps,rfl,.inr (bC.of u),v,by have:=g.len;omega,g.nd,λa D b r j=>?_⟩;lia;refine tail (λy l=>?_) _ _ b j;have:=q _ l;rw[h1,abH]at this;exact this
  ·have h1:=Xq.mpr h1;have:=q _ (aG.refl H);rw[h1,XO]at this;exact this
abbrev Cw(m:List (Int×Int))(p:Nm):Prop:=p.2.2<=ct m p.2.1
def kh(K:Yc):Sp:=λc H Q _=>∃(a d:Ye) (i:Nat),c=[.ref a,.ref d,.int i]/\∃b m ns,(bo K H a b∨bC K H a b)/\Rd H d (.dK (dI m))/\nZ H b ns/\i<=ns.length/\(∀k (e:k<ns.length),k<i->Cw m ns[k])/\
 ∀j:Nat,j<=ns.length->(∀k (e:k<ns.length),k<j->Cw m ns[k])->(∀f:j<ns.length,¬ Cw m ns[j])->Q (.int j) H
abbrev Hy:List Yn:=["places","counts","start"]
theorem kN:aE ["places","counts","start","at"] Hy (ao mw):=eW
variable{hW:Ye}{fT:Yx}(ik:aF P w K mg base bx 2 hW fT EH (gC K))(cW:eD K mg "covers_name" hW fT EH)(d5:mg "len"=Yb)
include eV ik cW d5 in
theorem y8(F:bH K "first_open" "first_open" mw f fd):aF P w K mg base bx 3 f fd Hy (kh K):=by
 refine F.oj kN ?_;rintro _ _ _ _ H _ _ _ q _ _ _ ⟨a,d,i,rfl,h⟩;refine⟨_,(aj (aX (i:=3) kN.nd rfl (YB rfl) (pv 2))
   (aj (yK Ws (PW.pt (w5 (bc yl (pv 3) (bj (cY (K:=K) rfl) (by rfl) d5 Wr (aa (pv 0) af)) (bu _)) (ue (cK K rfl (a9 ik cW q (aa (pv 1) (aa (bp (Gq (K:=K) rfl) (pv 0) (pv 3) (λ_ _=>rfl)) af)))))))
   (au (aX (i:=3) kN.nd rfl (YB rfl) (aW d0 (pv 3) ax))))
   (au (aL (pv 3))))),?_⟩
 obtain⟨e,m,ns,v,hd,hn,r,g,k⟩:=h;lia;have hl:=hn.len;refine⟨λM σ n=>∃j:Nat,M=ns.length-j/\j<=ns.length/\σ=[Ya (.ref a),Ya (.ref d),Ya (.int i),Ya (.int j)]/\n=H/\(∀k (o:k<ns.length),k<j->Cw m ns[k]),⟨_,i,rfl,r,rfl,rfl,g⟩,?_⟩;rintro M σ n ⟨j,rfl,p,rfl,rfl,l⟩;lia;refine du (λh1=>?_) λh1=>?_
 ·have h1:(j:Int)<(e.length:Nat):=of_decide_eq_true h1;have c:j<ns.length:=by omega
  obtain⟨x,s,b,rfl,t⟩:=hn.at c;have u:sf e (j:Int)=Ya (.ref b):=cE s;lia;refine⟨d,b,rfl,m,_,_,_,hd,bC.of t,?_⟩;lia;refine du (λh2=>?_) λh2=>?_
  ·have h2:Cw m ns[j]:=of_decide_eq_true h2;refine⟨_,λ_ _ z=>z,?_⟩;lia;refine⟨ns.length-(j+ 1),by omega,j+ 1,rfl,c,rfl,rfl,λk o h=>?_⟩;rcases XS k j with z|z
   ·exact l k o z
   ·obtain rfl:k=j:=by omega
    exact h2
  ·have h2:¬ Cw m ns[j]:=λz=>h2 (decide_eq_true z);lia;exact k j p l λ_=>h2
 ·have h1:¬ (j:Int)<(e.length:Nat):=λz=>h1 (decide_eq_true z);lia;exact k j p l λz=>absurd z (by omega)
def rT(K:Yc):Sp:=λc H Q _=>∃(a:Ye) (i:Int),c=[.ref a,.int i]/\∃b,(bo K H a b∨bC K H a b)/\0<=i/\(∀v,b[i.toNat]?=Ya v->Q v H)/\(b.length<=i.toNat->Q .non H)
abbrev Kp:List Yn:=["places","at"]
theorem Fc:aE ["places","at"] Kp (ao uX):=eW
include eV d5 in
theorem Ez(F:bH K "name_at" "name_at" uX f fd):aF P w K mg base bx 1 f fd Kp (rT K):=by
 refine F.oj Fc ?_;rintro _ _ _ _ _ _ _ _ _ _ _ _ ⟨a,i,rfl,h⟩;refine⟨_,(au (aL (xv (bc yl (pv 1) (bj (cY (K:=K) rfl) (by rfl) d5 Wr (aa (pv 0) af)) (bu _)) (bp (Gq (K:=K) rfl) (pv 0) (pv 1) (λ_ _=>rfl)) pX))),?_⟩;obtain⟨b,k,d,e,g⟩:=h;lia;refine du (λh1=>?_) λh1=>?_
 ·have h1:i<(b.length:Nat):=of_decide_eq_true h1;have c:i.toNat<b.length:=by omega
  have j:sf b i=Ya b[i.toNat]:=Gn d (Yk c);lia;exact e _ (Yk c)
 ·have h1:¬ i<(b.length:Nat):=λz=>h1 (decide_eq_true z);lia;exact g (by omega)
structure bM where
 kd:Yn
 n:Int
 c:Int
 k:Int
 w:Int
 cs:List (Int×Int)
variable{L:Int->Int->Option (V×bM)}{q:V×bM}{n:List (Int×Int)}{zs rw Zi Zu:List (V×bM)}{c:bM}{mk ex:List bM}{es:List (bM×V)}{res:List (Nat×List (V×bM))}
def gK(K:Yc)(mg:Yn->Option Yd)(H:Hp)(v:V)(x:bM):Prop:=∃p C b t a,v=.ref p/\Rq mg x.kd C/\iS K C/\H p=Ya (.ins C b (uk (.int x.n) (.int x.c) (.int x.k) (.int x.w) (.ref t)))/\H t=Ya (.tup a)/\i6 H a x.cs/\Ck x.cs
def S7(H a:Hp):Prop:=(∀p C b fs,H p=Ya (.ins C b fs)->a p=Ya (.ins C b fs))/\dF H a
theorem S7.same(s:aG H H'):S7 H H':=⟨λ_ _ _ _ e=>s _ _ e,.same s⟩
theorem gK.up(s:S7 H H'){x:bM}(h:gK K mg H v x):gK K mg H' v x:=by
 obtain⟨p,C,a,t,b,c,d,e,f,g,i,j⟩:=h;exact⟨p,C,a,t,b,c,d,e,s.1 _ _ _ _ f,s.2 _ _ g,i.mono s.2,j⟩
def cV(K:Yc):Sp:=λb H Q _=>∃(p:Ye),b=[.ref p]/\∃C d n c k w cs,iS K C/\H p=Ya (.ins C d (uk n c k w cs))/\∀a t,aG H a->H t=Yb->a t=Ya (.tup [n,c,k])->Q (.ref t) a
abbrev aO:List Yn:=["self"]
theorem AN:aE ["self"] aO (ao pd):=eW
include eV in
theorem Bu(F:bH K "name" "Call.name" pd f fd):aF P w K mg base bx 1 f fd aO (cV K):=by
 refine F.oj AN ?_;rintro _ _ _ _ _ _ _ _ _ _ _ _ ⟨p,rfl,h⟩;refine⟨_,(au (aL (cv (aa (aH (K:=K) rfl (pv 0) rfl) (aa (aH (K:=K) rfl (pv 0) rfl) (aa (aH (K:=K) rfl (pv 0) rfl) af)))))),?_⟩;obtain⟨C,g,n,c,k,w,cs,⟨cl,n1,n2,n3,n4,n5⟩,hp,q⟩:=h;lia;intro t a b d e;exact q a t d b e
def sI(K:Yc):Sp:=λb H Q _=>∃(p:Ye),b=[.ref p]/\∃C d n c k w cs,iS K C/\H p=Ya (.ins C d (uk n c k w cs))/\∀a t,aG H a->H t=Yb->a t=Ya (.tup [c,k])->Q (.ref t) a
theorem Br:aE ["self"] aO (ao oU):=eW
include eV in
theorem Ax(F:bH K "rank" "Call.rank" oU f fd):aF P w K mg base bx 1 f fd aO (sI K):=by
 refine F.oj Br ?_;rintro _ _ _ _ _ _ _ _ _ _ _ _ ⟨p,rfl,h⟩;refine⟨_,(au (aL (cv (aa (aH (K:=K) rfl (pv 0) rfl) (aa (aH (K:=K) rfl (pv 0) rfl) af))))),?_⟩;obtain⟨C,g,n,c,k,w,cs,⟨cl,n1,n2,n3,n4,n5⟩,hp,q⟩:=h;lia;intro t a b d e;exact q a t d b e
def fL(K:Yc):Sp:=λa H Q _=>∃(p:Ye),a=[.ref p]/\Q (.bl false) H
def dZ(K:Yc):Sp:=λa H Q _=>∃(p:Ye),a=[.ref p]/\Q (.bl true) H
theorem rD:aE ["self"] aO (ao gi):=eW
include eV in
theorem rM(F:bH K "asks_place" "Call.asks_place" gi f fd):aF P w K mg base bx 1 f fd aO (fL K):=by
 refine F.oj rD ?_;rintro _ _ _ _ _ _ _ _ _ _ _ _ ⟨p,rfl,h⟩;refine⟨_,(au (aL i8)),?_⟩;lia;exact h
theorem nY:aE ["self"] aO (ao eM):=eW
include eV in
theorem nV(F:bH K "asks_place" "OneCall.asks_place" eM f fd):aF P w K mg base bx 1 f fd aO (dZ K):=by
 refine F.oj nY ?_;rintro _ _ _ _ _ _ _ _ _ _ _ _ ⟨p,rfl,h⟩;refine⟨_,(au (aL i8)),?_⟩;lia;exact h
def Oq(m:List (Int×Int))(x:bM):Bool:=decide (ct m x.c=x.k-1)&&(decide (x.kd="own")||cov m (eh x.cs))
def Cp(m:List (Int×Int))(x:bM)(o:Option Nm):Bool:=Oq m x&&(!decide (x.kd="one")||decide (o=Ya (x.n,x.c,x.k)))
def QH(H:Hp)(v:V):Option Nm->Prop
 |none=>v=.non
 |some q=>wy H v q
theorem QH.up(s:dF H H'){o:Option Nm}(h:QH H v o):QH H' v o:=by
 cases o with
 |none=>exact h
 |some q=>obtain⟨a,b,c⟩:=h;exact⟨a,b,s _ _ c⟩
def UM:Option Nm->Xt
 |none=>.none
 |some q=>Gg q
theorem T8{K:Yc}{o:Option Nm}(h:QH H v o):Dl K H v (UM o):=by
 cases o with
 |none=>obtain rfl:v=.non:=h;exact .inl .none
 |some q=>exact .inl (wy.dp h)
theorem Qz(o:Option Nm):(UM o).canLay0=true:=by
 cases o with
 |none=>rfl
 |some q=>exact EV q
theorem Qu(o:Option Nm):(UM o).depth<=60:=by
 cases o with
 |none=>show 0<=60;decide
 |some q=>show 1<=60;decide
theorem Uh(q r:Nm):(Gg q).eqv (Gg r)=decide (r=q):=by
 have e:(Gg q).eqv (Gg r)=(decide (q.1=r.1)&&(decide (q.2.1=r.2.1)&&(decide (q.2.2=r.2.2)&&true))):=by rfl
 rw[e];obtain⟨a,b,c⟩:=q;obtain⟨x,y,z⟩:=r;by_cases h:(x,y,z)=(a,b,c)
 ·cases h;simp
 ·rw[decide_eq_false h];simp at h⊢;intro h1 h2 h3;exact h h1.symm h2.symm h3.symm
theorem TH(q:Nm)(o:Option Nm):(Gg q).eqv (UM o)=decide (o=Ya q):=by
 cases o with
 |none=>rfl
 |some r=>
  show(Gg q).eqv (Gg r)=_;rw[Uh];by_cases z:r=q
  ·rw[z,decide_eq_true rfl,decide_eq_true rfl]
  ·rw[decide_eq_false z,decide_eq_false (λw=>z (YC w))]
def rG(K:Yc)(mg:Yn->Option Yd):Sp:=λb H Q _=>∃(v:V),b=[v]/\∃x,gK K mg H v x/\∀a t,aG H a->H t=Yb->a t=Ya (.tup [.int x.c,.int x.k])->Q (.ref t) a
abbrev pq:List Yn:=["call"]
theorem EO:aE ["call"] pq (ao uu):=eW
variable{jZ:Ye}{tL:Yx}(jS:aF P w K mg base bx 1 jZ tL aO (sI K))(j7:Binds K tL aO [])(ef:bB K bf "rank" jZ)(fA:bB K bF "rank" jZ)(fy:bB K bE "rank" jZ)
include eV jS j7 av az aA aw aB aC ef fA fy in
theorem EZ(F:bH K "rank_of" "rank_of" uu f fd):aF P w K mg base bx 2 f fd pq (rG K mg):=by
 refine F.oj EO ?_;rintro _ _ _ _ _ _ _ _ d _ _ _ ⟨v,rfl,h⟩;refine⟨_,(au (aL (bA (bU.cons aA.cl fy jS j7 (bU.cons av.cl ef jS j7 (bU.cons az.cl fA jS j7 bU.nil))) (pv 0) d))),?_⟩;obtain⟨x,⟨p,C,a,t,i,rfl,g,b,hp,j,k,l⟩,c⟩:=h;rcases g with⟨_,e⟩|⟨_,e⟩|⟨_,e⟩
 ·rw[aC]at e;cases e;lia;exact⟨p,rfl,_,a,_,_,_,_,_,b,hp,c⟩
 ·rw[aw]at e;cases e;lia;exact⟨p,rfl,_,a,_,_,_,_,_,b,hp,c⟩
 ·rw[aB]at e;cases e;lia;exact⟨p,rfl,_,a,_,_,_,_,_,b,hp,c⟩
theorem UC:decide (("own":Yn)="own")=true:=by decide +kernel
theorem TU:decide (("heard":Yn)="own")=false:=by decide +kernel
theorem JV:decide (("one":Yn)="own")=false:=by decide +kernel
theorem PQ:decide (("own":Yn)="one")=false:=by decide +kernel
theorem PX:decide (("heard":Yn)="one")=false:=by decide +kernel
theorem Qf:decide (("one":Yn)="one")=true:=by decide +kernel
def nU(K:Yc)(mg:Yn->Option Yd):Sp:=λb H Q _=>∃(v:V) (d:Ye) (y:V),b=[v,.ref d,y]/\∃x m o,gK K mg H v x/\Rd H d (.dK (dI m))/\Ck m/\QH H y o/\∀a,aG H a->Q (.bl (Cp m x o)) a
abbrev DJ:List Yn:=["call","counts","name"]
theorem we:aE ["call","counts","name"] DJ (ao jh):=eW
variable{vj:Ye}{gN:Ye}{eE:Ye}{d7:Ye}{eJ:Ye}{sW:Yx}{jC:Yx}{gw:Yx}{fK:Yx}{dY:Yx}(j0:aF P w K mg base bx 3 vj sW r6 (tI K mg))(j8:Binds K sW r6 [])(cZ:aF P w K mg base bx 3 gN jC r6 (j9 K mg))(cX:Binds K jC r6 [])(jP:aF P w K mg base bx 3 eE gw aO (cV K))(bw:Binds K gw aO [])(cL:aF P w K mg base bx 3 d7 fK aO (fL K))(bG:Binds K fK aO [])(dz:aF P w K mg base bx 3 eJ dY aO (dZ K))(bT:Binds K dY aO [])(aQ:bB K bf "asks_place" d7)(bX:bB K bf "free" gN)(aV:bB K bf "name" eE)(a8:bB K bF "asks_place" eJ)(cN:bB K bF "free" gN)(bh:bB K bF "name" eE)(a7:bB K bE "asks_place" d7)(cP:bB K bE "free" vj)(bg:bB K bE "name" eE)
include eV j0 j8 cZ cX jP bw cL bG dz bT av az aA aw aB aC aQ bX aV a8 cN bh a7 cP bg in
theorem wu(F:bH K "can_be_taken" "can_be_taken" jh f fd):aF P w K mg base bx 4 f fd DJ (nU K mg):=by
 refine F.oj we ?_;rintro _ _ _ _ H _ _ _ z g _ _ ⟨v,d,y,rfl,h⟩;refine⟨_,(au (aL (Bv (bP (bU.cons aA.cl cP j0 j8 (bU.cons av.cl bX cZ cX (bU.cons az.cl cN cZ cX bU.nil))) (pv 0) z (aa (pv 1) af)) (yx (UB (J1 (bA (bU.cons aA.cl a7 cL bG (bU.cons av.cl aQ cL bG (bU.cons az.cl a8 dz bT bU.nil))) (pv 0) z)) (yx (mi (R1 (K:=K) rfl g) (bA (bU.cons aA.cl bg jP bw (bU.cons av.cl aV jP bw (bU.cons az.cl bh jP bw bU.nil))) (pv 0) z) (pv 2) (bu _)))))))),?_⟩;obtain⟨x,m,o,⟨p,C,i,t,A,rfl,B,I,hp,D,q,r⟩,hd,E,J,a⟩:=h;obtain⟨kd,n,c,k,w,cs⟩:=x;have B:Rq mg kd C:=B;have hp:H p=Ya (.ins C i (uk (.int n) (.int c) (.int k) (.int w) (.ref t))):=hp;have q:i6 H A cs:=q;have r:Ck cs:=r;rcases B with⟨rfl,e⟩|⟨rfl,e⟩|⟨rfl,e⟩
 ·have j:Cp m ⟨"own",n,c,k,w,cs⟩ o=decide (ct m c=k-1):=by
   unfold Cp Oq;rw[UC,PQ];simp
  rw[j]at a;rw[aC]at e;cases e;lia;refine⟨p,d,rfl,_,i,m,_,c,k,_,_,aC,hp,hd,?_⟩;lia;refine du (λh1=>?_) λh1=>?_
  ·lia;refine⟨p,rfl,?_⟩;lia;have:=a H (.refl _);rw[h1]at this;exact this
  ·have h1:=Xq.mpr h1;have:=a H (.refl _);rw[h1]at this;exact this
 ·have j:Cp m ⟨"heard",n,c,k,w,cs⟩ o=(decide (ct m c=k-1)&&cov m (eh cs)):=by
   unfold Cp Oq;rw[TU,PX];simp
  rw[j]at a;rw[aw]at e;cases e;lia;refine⟨p,d,rfl,_,i,m,_,c,k,_,t,A,cs,.inl aw,hp,hd,D,q,E,r,λs b=>?_⟩;have l:=b _ _ hp;lia;refine du (λh1=>?_) λh1=>?_
  ·lia;refine⟨p,rfl,?_⟩;lia;have:=a s b;rw[h1]at this;exact this
  ·have h1:=Xq.mpr h1;have:=a s b;rw[h1]at this;exact this
 ·have j:Cp m ⟨"one",n,c,k,w,cs⟩ o=((decide (ct m c=k-1)&&cov m (eh cs))&&decide (o=Ya (n,c,k))):=by
   unfold Cp Oq;rw[JV,Qf];simp
  rw[j]at a;rw[aB]at e;cases e;lia;refine⟨p,d,rfl,_,i,m,_,c,k,_,t,A,cs,.inr aB,hp,hd,D,q,E,r,λs b=>?_⟩;have l:=b _ _ hp;lia;refine du (λh1=>?_) λh1=>?_
  ·lia;refine⟨p,rfl,?_⟩;lia;refine⟨p,rfl,_,i,_,_,_,_,_,I,l,λL u G M N=>?_⟩;lia;refine⟨Gg (n,c,k),UM o,.inl (wy.dp ⟨u,rfl,N⟩),T8 (J.up (.same (b.trans G))),EV _,Qz _,by have:=Qu o;omega,?_⟩;rw[TH];have:=a L (b.trans G);rw[h1,abH]at this;exact this
  ·have h1:=Xq.mpr h1;have:=a s b;rw[h1,XO]at this;exact this
theorem Gf{td ty:TE}(h:td σ H λx b=>∃a,x=.ref a/\SY b a/\ty σ b λy c=>∃o,iy c a y o/\Q (o.getD .non) c):Kj td ty σ H Q:=h
structure RX(K:Yc)(mg:Yn->Option Yd)(H:Hp)(D:Ye)(L:Int->Int->Option (V×bM)):Prop where
 dc:∃kvs,H D=Ya (.dT kvs)/\∀a b,d3 kvs [YD a,YD b]=(L a b).map (·.1)
 cl:∀a b v x,L a b=Ya (v,x)->gK K mg H v x/\x.c=a/\x.k=b
theorem RX.same{D:Ye}(h:RX K mg H D L)(s:aG H H'):RX K mg H' D L:=by
 obtain⟨⟨c,f,g⟩,d⟩:=h;exact⟨⟨c,s _ _ f,g⟩,λa b v x e=>⟨(d a b v x e).1.up (.same s),(d a b v x e).2⟩⟩
def Dd(L:Int->Int->Option (V×bM))(m:List (Int×Int))(o:Option Nm)(h:Int):Option (V×bM):=(L h (ct m h+ 1)).bind λq=>if Cp m q.2 o=true then Ya q else Yb
def fst(hs:List Int)(L:Int->Int->Option (V×bM))(m:List (Int×Int))(o:Option Nm):Option (V×bM):=hs.findSome? (Dd L m o)
def Pu:Option (V×bM)->V
 |none=>.non
 |some q=>q.1
def lq(K:Yc)(mg:Yn->Option Yd):Sp:=λc H Q _=>∃(a D d:Ye) (y:V),c=[.ref a,.ref D,.ref d,y]/\∃hs L m o,bo K H a (hs.map V.int)/\RX K mg H D L/\Rd H d (.dK (dI m))/\Ck m/\QH H y o/\∀b,aG H b->Q (Pu (fst hs L m o)) b
abbrev Du:List Yn:=["callers","ranked","counts","name"]
theorem gR:aE ["callers","ranked","counts","name","caller","call"] Du (ao iM):=eW
variable{pY:Ye}{nB:Yx}(hV:aF P w K mg base bx 4 rY oV IK (pZ K))(pG:aF P w K mg base bx 4 pY nB DJ (nU K mg))(oC:eD K mg "can_be_taken" pY nB DJ)
include eV hV bN pG oC av az aA aw aB aC in
theorem uE(F:bH K "first_to_take" "first_to_take" iM f fd):aF P w K mg base bx 5 f fd Du (lq K mg):=by
 refine F.oj gR ?_;rintro _ A _ _ H _ _ _ E _ _ N ⟨a,D,d,y,rfl,h⟩;refine⟨_,(aj (kC Ws rfl (bJ (K:=K) rfl (pv 0)) (aP (i:=4) gR.nd rfl (YB rfl))
   (aj (aX (i:=5) gR.nd rfl (YB rfl) (BX N (pv 1) (cv (aa (pv 4) (aa (aW d0 (a9 hV bN E (aa (pv 2) (aa (pv 4) af))) ax) af))) ⟨rfl,rfl,rfl,rfl⟩))
   (au (dg (PW.pt (w5 (bc wB (pv 5) pX (bu _)) (ue (cK K rfl (a9 pG oC E (aa (pv 5) (aa (pv 2) (aa (pv 3) af)))))))) (au (aL (pv 5))) bD))))
   (au (aL pX))),?_⟩
 obtain⟨hs,L,m,o,O,R,hd,Q,S,G⟩:=h;refine tW ?_;lia;refine lu (xs:=hs.map V.int) (λi σ A=>∃l n,σ=[Ya (.ref a),Ya (.ref D),Ya (.ref d),Ya y,l,n]/\aG H A/\(hs.take i).findSome? (Dd L m o)=Yb) ⟨Yb,Yb,rfl,.refl _,rfl⟩ (λi σ A _ z=>by obtain⟨_,_,_,z,_⟩:=z;exact z.seq O) ?_ ?_
 ·rintro i x σ A T ⟨l,n,rfl,b,hn⟩;obtain⟨h,j,rfl⟩:=fP T;have U:=R.same b;have g:=cU b hd;obtain⟨⟨r,I,W⟩,X⟩:=id U;have Y:fst hs L m o=((Dd L m o h).or ((hs.drop (i+ 1)).findSome? (Dd L m o))):=by
   unfold fst;have Z:=(Yi.mp j).1;have e:hs=hs.take i++(h::hs.drop (i+ 1)):=by
    conv=>lhs;rw[←List.take_append_drop i hs,abW Z,(Yi.mp j).2]
   conv=>lhs;rw[e,aa5,hn,aaQ,abo]
   cases Dd L m o h<;>rfl
  refine tW ?_;lia;refine Gf ?_;lia;refine⟨D,rfl,.inr ⟨r,.inl I⟩,?_⟩;lia;refine⟨d,m,h,rfl,g,?_⟩;lia;intro t A1 ht c g1;have s:=c _ _ I;refine⟨_,iy.t (k:=[YD h,YD (ct m h+ 1)]) s g1,?_⟩;rw[W];cases z:L h (ct m h+ 1)with
  |none=>
   have u:Dd L m o h=none:=by unfold Dd;rw[z];rfl
   rw[Option.map_none,ab4];lia;rw[show decide (V.non=V.non)=true from decide_eq_true rfl];lia;refine⟨_,_,rfl,b.trans c,?_⟩;rw[aT j,aa5,hn,aaQ,abo,u];rfl
  |some q=>
   obtain⟨v,x⟩:=q;have J:=(X _ _ _ _ z).1;obtain⟨p,C,dx,t',ab,ev,_⟩:=id J;have B:=J.up (.same c);subst ev;rw[XI,aca];lia;rw[show decide (V.ref p=V.non)=false from decide_eq_false (by intro z;cases z)];lia;refine⟨.ref p,d,y,rfl,x,m,o,B,cU c g,Q,S.up (.same (b.trans c)),λA2 M=>?_⟩;lia;refine du (λh2=>?_) λh2=>?_
   ·have ts:Dd L m o h=Ya (.ref p,x):=by unfold Dd;rw[z];show(if Cp m x o=true then _ else _)=_;rw[if_pos h2]
    lia;have:=G A2 (b.trans (c.trans M));rw[Y,ts]at this;exact this
   ·have u:Dd L m o h=none:=by unfold Dd;rw[z];show(if Cp m x o=true then _ else _)=_;rw[if_neg h2]
    refine⟨_,_,rfl,b.trans (c.trans M),?_⟩;rw[aT j,aa5,hn,aaQ,abo,u];rfl
 rintro σ A ⟨l,n,rfl,b,hn⟩;rw[show hs.take (hs.map V.int).length=hs by rw[Yf,YM]]at hn;lia;have:=G A b;unfold fst at this;rw[hn]at this;exact this
def QF(hs:List Int)(l:Int):List Int:=(hs.filter λh=>decide (l<=h))++hs.filter λh=>decide (h<l)
def nP(K:Yc):Sp:=λc H Q _=>∃(a:Ye) (l:Int),c=[.ref a,.int l]/\∃hs:List Int,bo K H a (hs.map V.int)/\hs.length<=400/\∀b q,aG H b->H q=Yb->b q=Ya (.lst ((QF hs l).map V.int))->Q (.ref q) b
abbrev Dq:List Yn:=["callers","last"]
theorem wb:aE ["callers","last"] Dq (ao ja):=eW
include eV in
theorem vS(F:bH K "callers_from" "callers_from" ja f fd):aF P w K mg base bx 1 f fd Dq (nP K):=by
 refine F.oj wb ?_;rintro _ A _ _ H _ _ _ _ _ _ _ ⟨a,l,rfl,h⟩;refine⟨_,(au (aL (aW FF (bQ ["last","caller"] [Ya 1,Yb] rfl rfl (by kernel_rfl) (bJ (K:=K) rfl (pv 0)) (λ_ _ _ _ _ nd=>aP (i:=1) nd rfl (YB rfl)) (λ_ _ _ _ _=>(eY (bc DP (pv 1) (pv 0) (bu _)))) (λ_ _ _ _ _=>(pv 1))) (bQ ["last","caller"] [Ya 1,Yb] rfl rfl (by kernel_rfl) (bJ (K:=K) rfl (pv 0)) (λ_ _ _ _ _ nd=>aP (i:=1) nd rfl (YB rfl)) (λ_ _ _ _ _=>(eY (bc yl (pv 1) (pv 0) (bu _)))) (λ_ _ _ _ _=>(pv 1)))))),?_⟩;obtain⟨hs,p,J,t⟩:=h;lia;intro D r;refine bL (K:=K) (a:=a) (xs:=hs.map V.int) (λi σ A=>∃v,σ=[Ya (.int l),v]/\aG H A/\A D=Ya (.lst (((hs.take i).filter λh=>decide (l<=h)).map V.int))) ⟨Yb,rfl,aD r,ai⟩ ?_ ?_ ?_
 ·rintro i σ A _ ⟨_,_,z,_⟩;exact z.seq p
 ·rintro i x σ A m ⟨v,rfl,d,g⟩;obtain⟨h,c,rfl⟩:=fP m;have u:=(Yi.mp c).1;have y:=YQ (λh=>decide (l<=h)) (hs.take i);have lt:=XX i hs;lia;refine du (λh1=>?_) λh1=>?_
  ·lia;refine⟨_,g,by rw[Yf];exact aJ (by omega),_,rfl,λb o z=>?_,?_⟩
   ·rw[ak (ay z r)];exact d b o z
   ·rw[ai,aT c,YS,Yt];congr 2;simp at h1;simp[h1]
  ·refine⟨_,rfl,d,?_⟩;rw[g,aT c,YS,Yt];congr 1;simp at h1;simp[h1]
 rintro σ A ⟨v,rfl,d,g⟩;rw[show hs.take (hs.map V.int).length=hs by rw[Yf,YM]]at g;have n:=d.seq p;lia;intro C j;refine bL (K:=K) (a:=a) (xs:=hs.map V.int) (λi σ B=>∃v,σ=[Ya (.int l),v]/\aG A B/\B C=Ya (.lst (((hs.take i).filter λh=>decide (h<l)).map V.int))) ⟨Yb,rfl,aD j,ai⟩ ?_ ?_ ?_
 ·rintro i σ B _ ⟨_,_,z,_⟩;exact z.seq n
 ·rintro i x σ B m ⟨v,rfl,e,k⟩;obtain⟨h,c,rfl⟩:=fP m;have u:=(Yi.mp c).1;have y:=YQ (λh=>decide (h<l)) (hs.take i);have lt:=XX i hs;lia;refine du (λh1=>?_) λh1=>?_
  ·lia;refine⟨_,k,by rw[Yf];exact aJ (by omega),_,rfl,λb o z=>?_,?_⟩
   ·rw[ak (ay z j)];exact e b o z
   ·rw[ai,aT c,YS,Yt];congr 2;simp at h1;simp[h1]
  ·refine⟨_,rfl,e,?_⟩;rw[k,aT c,YS,Yt];congr 1;simp at h1;simp[h1]
 rintro σ B ⟨v,rfl,e,k⟩;rw[show hs.take (hs.map V.int).length=hs by rw[Yf,YM]]at k;have L:=YQ (λh=>decide (l<=h)) hs;have M:=YQ (λh=>decide (h<l)) hs;refine M5 (e _ _ g) k (by rw[Yf,Yf];omega) λq E G I s=>?_;rw[←Yt]at s;exact t E q (d.trans (e.trans I)) ((d.trans e).free G) s
def Et(ns:List Nm)(m:List (Int×Int)):Option Nm:=ns.find? λp=>!decide (Cw m p)
theorem Lg{m:List (Int×Int)}:∀{ns:List Nm} {j:Nat},(∀k (hk:k<ns.length),k<j->Cw m ns[k])->(∀a:j<ns.length,¬ Cw m ns[j])->j<=ns.length->Et ns m=ns[j]?
 |[],j,_,_,_=>by simp[Et]
 |p::ns,0,_,h,_=>by
  have:=h (by simp);unfold Et;rw[acE (by simpa using this)];rfl
 |p::ns,j+ 1,h1,h2,h3=>by
  have hp:=h1 0 (by simp) (by omega);have b:=Lg (m:=m) (ns:=ns) (j:=j) (λk hk c=>h1 (k+ 1) (ad7 hk) (by omega)) (λa=>h2 (ad7 a)) (by simpa using h3);unfold Et at b⊢;rw[List.find?_cons_of_neg (by simpa using hp),b];simp
def S6(hs:List Int):Option Int->List Int
 |none=>hs
 |some l=>QF hs l
def yZ(cs:List (V×bM))(a b:Int):Option (V×bM):=cs.reverse.find? λq=>decide (q.2.c=a/\q.2.k=b)
inductive Fw (hs:List Int) (L:Int->Int->Option (V×bM)) (ns:List Nm) (m0:List (Int×Int)):List (V×bM)->Option Int->List (Int×Int)->Prop
 |start:Fw hs L ns m0 [] Yb m0
 |step {rw:List (V×bM)} {Zh:Option Int} {m:List (Int×Int)} {v:V} {x:bM}:Fw hs L ns m0 rw Zh m->fst (S6 hs Zh) L m (Et ns m)=Ya (v,x)->Fw hs L ns m0 (rw++[(v,x)]) (Ya x.c) (dR m x.c x.k)
theorem flt{α:Type}{p q:α->Bool}:∀{l:List α},(∀a∈l,q a=true->p a=true)->∀{x:α},x∈l->p x=true->q x=false->(l.filter q).length<(l.filter p).length
 |a::l,h,x,hx,px,qx=>by
  have hl:(l.filter q).length<=(l.filter p).length:=by
   have:∀(c:List α),(∀a∈c,q a=true->p a=true)->(c.filter q).length<=(c.filter p).length:=by
    intro c
    induction c with
    |nil=>intro _;exact Yj _
    |cons b c ih=>
     intro d;have i:=ih λa ha=>d a (Yp _ ha);have:=d b Ys;rw[GV,GV];cases z:q b
     ·cases w:p b<;>simp<;>omega
     ·rw[this z];simp;omega
   exact this l λb d=>h b (Yp _ d)
  rcases Ym.mp hx with z|z
  ·rw[←z,GV,GV,px,qx];simp;omega
  ·have i:=flt (l:=l) (λb d=>h b (Yp _ d)) z px qx;have ha:=h a Ys;rw[GV,GV];cases y:q a
   ·cases w:p a<;>simp<;>omega
   ·rw[ha y];simp;omega
def mz(cs:List bM)(m:List (Int×Int)):Nat:=(cs.filter λq=>decide (ct m q.c<q.k)).length
theorem Ls{cs:List bM}{x:bM}(a:x∈cs)(hk:x.k=ct m x.c+ 1):mz cs (dR m x.c x.k)<mz cs m:=by
 unfold mz;refine flt (λq _ h=>?_) a (decide_eq_true (by omega)) (decide_eq_false ?_)
 ·have h:=of_decide_eq_true h;rw[uT]at h;refine decide_eq_true ?_;by_cases z:q.c=x.c
  ·rw[if_pos z]at h;rw[z];omega
  ·rw[if_neg z]at h;exact h
 ·rw[uT,if_pos rfl];omega
theorem wF{hs:List Int}{o:Option Nm}{x:bM}(h:fst hs L m o=Ya (v,x)):∃h∈hs,L h (ct m h+ 1)=Ya (v,x)/\Cp m x o=true:=by
 unfold fst at h;obtain⟨a,hm,e⟩:=List.exists_of_findSome?_eq_some h;refine⟨a,hm,?_⟩;unfold Dd at e;cases z:L a (ct m a+ 1)with
 |none=>rw[z]at e;cases e
 |some q=>
  rw[z]at e;have e:(if Cp m q.2 o=true then Ya q else Yb)=Ya (v,x):=e;by_cases w:Cp m q.2 o=true
  ·rw[if_pos w]at e;cases e;exact⟨rfl,w⟩
  ·rw[if_neg w]at e;cases e
theorem qj{cs:List (V×bM)}{a b:Int}(h:yZ cs a b=Ya q):q∈cs/\q.2.c=a/\q.2.k=b:=by
 unfold yZ at h;have h1:=List.mem_of_find?_eq_some h;have h2:=List.find?_some h;have h2:=of_decide_eq_true h2;exact⟨ad8.mp h1,h2⟩
theorem IU{k:List bK}:∀(ps:List (List bK×V)) (a:List (List bK×V)),d3 (ps.foldl (λa p=>gy a p.1 p.2) a) k=((ps.reverse.find? λp=>decide (p.1=k)).map (·.2)).or (d3 a k):=by
 intro ps
 induction ps with
 |nil=>intro a;rfl
 |cons p ps ih=>
  intro a;rw[Xm,ih,adM,adQ];cases z:ps.reverse.find? λp=>decide (p.1=k)with
  |some q=>rfl
  |none=>
   rw[aaQ,KH,XH];by_cases w:k=p.1
   ·rw[if_pos w,decide_eq_true w.symm];rfl
   ·rw[if_neg w,decide_eq_false (λu=>w u.symm)];rfl
abbrev CZ(K:Yc)(mg:Yn->Option Yd)(H:Hp):List V->List bM->Prop:=Paired (gK K mg H)
theorem pL(s:S7 H H'){vs:List V}{cs:List bM}(h:CZ K mg H vs cs):CZ K mg H' vs cs:=Paired.mapP h λ_ _ z=>z.up s
def Sz(q:V×bM):List bK×V:=([YD q.2.c,YD q.2.k],q.1)
theorem Pf(cs:List (V×bM))(a b:Int):d3 (i7 (cs.map Sz)) [YD a,YD b]=(yZ cs a b).map (·.1):=by
 unfold i7;rw[IU];have e:(d3 ([]:List (List bK×V)) [YD a,YD b])=none:=rfl;rw[e,Option.or_none,←List.map_reverse,List.find?_map,aeC];unfold yZ;have c:((λp:List bK×V=>decide (p.1=[YD a,YD b]))∘Sz)=λq:V×bM=>decide (q.2.c=a/\q.2.k=b):=by
  funext q;show decide (([YD q.2.c,YD q.2.k]:List bK)=[YD a,YD b])=_;congr 1;simp
 rw[c];rfl
theorem Bp(s:dF H H')(h:Cd H xs ps):Cd H' xs ps:=Paired.mapP h λ_ _ ⟨a,b,c,d,e⟩=>⟨a,b,c,s _ _ d,s _ _ e⟩
theorem u6{H:Hp}:∀{xs:List V} {ps:List (List bK×V)} {x:V} {p:List bK×V},Cd H xs ps->(∃a b,x=.ref a/\H a=Ya (.tup [.ref b,p.2])/\H b=Ya (.tup (p.1.map kV)))->Cd H (xs++[x]) (ps++[p])
 |_,_,_,_,.nil,h=>.cons h .nil
 |_,_,_,_,.cons r t,h=>.cons r (u6 t h)
theorem Cs{α β:Type}:∀(l:List α) (m:List β) (i:Nat) {a:α} {b:β},l[i]?=Ya a->m[i]?=Ya b->(l.zip m).take (i+ 1)=(l.zip m).take i++[(a,b)]:=by
 intro l m i a b h1 h2;exact aT (by rw[abV];exact⟨h1,h2⟩)
theorem zm{k b:Int}(h:MY [m,n] k b):b=max (ct m k) (ct n k):=by
 obtain⟨⟨q,a,e⟩,u⟩:=h;have c:=u m (by simp);have d:=u n (by simp);simp at a;rcases a with z|z<;>rw[z]at e<;>omega
theorem sC{α β:Type}{F:α->β->Prop}:∀{l:List α} {m:List β} {q:α×β},Paired F l m->q∈l.zip m->F q.1 q.2
 |_,_,_,.nil,h=>by simp at h
 |_,_,q,.cons r t,h=>by
  rw[abA]at h;rcases Ym.mp h with z|z
  ·rw[z];exact r
  ·exact sC t z
theorem DD{K:Yc}(s:∀o,H b=Ya o->A b=Ya o)(h:bo K H b xs∨bC K H b xs):bo K A b xs∨bC K A b xs:=by
 rcases h with h|h
 ·refine .inl ?_;rcases h with(h|⟨z,h⟩)|h
  ·exact .inl (.inl (s _ h))
  ·exact .inl (.inr ⟨z,s _ h⟩)
  ·exact .inr h
 ·refine .inr ?_;rcases h with(h|⟨z,h⟩)|h
  ·exact .inl (.inl (s _ h))
  ·exact .inl (.inr ⟨z,s _ h⟩)
  ·exact .inr h
theorem Fy{k v:Int}(t:Td m)(a:0<=k)(b:k<63)(c:0<v):Td (dR m k v):=by
 refine⟨t.toCk.put a b (by omega),λe d=>?_⟩;rcases tD _ _ _ _ d with z|z
 ·rw[z];exact c
 ·exact t.ps e z
theorem Ca{K:Yc}{c:VK}(d:bo K A b xs∨bC K A b xs)(hn:nZ A xs ns)(h1:j<=ns.length)(h2:∀k (hk:k<ns.length),k<j->Cw m ns[k])(h3:∀g:j<ns.length,¬ Cw m ns[j])(q:∀y,QH A y (Et ns m)->c y A):rT K [.ref b,.int j] A c E0:=by
 have e:=Lg h2 h3 h1;refine⟨b,j,rfl,xs,d,by omega,λv a=>q v ?_,λa=>q .non ?_⟩
 ·rw[YH]at a;obtain⟨p,hp,f⟩:=hn.get a;rw[e,hp];exact f
 ·rw[YH]at a;have:=hn.len;rw[e,Xe (by omega)];rfl
def FD(K:Yc)(mg:Yn->Option Yd):Sp:=λn H Q _=>∃(d a b:Ye),n=[.ref d,.ref a,.ref b]/\∃m f cs g ns,Rd H d (.dK (dI m))/\Ck m/\bo K H a f/\CZ K mg H f cs/\cs.length<=60/\(∀x∈cs,0<=x.c/\x.c<63)/\(bo K H b g∨bC K H b g)/\nZ H g ns/\
 ∀c t l r hs i rw j e,aG H c->H l=Yb->H r=Yb->c t=Ya (.tup [.ref l,.ref r])->c l=Ya (.lst ((rw:List (V×bM)).map (·.1)))->c r=Ya (.dK (dI e))->Td e->hs.Pairwise (·<·)->(∀h,h∈hs↔∃x∈cs,x.c=h)->Td i->(∀k,ct i k=ct m k)->Fw hs (yZ (f.zip cs)) ns i rw j e->fst (S6 hs j) (yZ (f.zip cs)) e (Et ns e)=Yb->Q (.ref t) c
abbrev pJ:List Yn:=["counts","calls","places"]
theorem l8:aE ["counts","calls","places","reached","ranked","callers","row","at","call"] pJ (ao MC):=eW
variable{xG:Ye}{lX:Ye}{zN:Ye}{uI:Ye}{nM:Ye}{oR:Ye}{uy:Yx}{kg:Yx}{yC:Yx}{rR:Yx}{kY:Yx}{nr:Yx}(Ej:aF P w K mg base bx 5 xG uy wQ (uZ K))(sU:eD K mg "joined" xG uy wQ)(lU:aF P w K mg base bx 5 lX kg Hy (kh K))(fX:eD K mg "first_open" lX kg Hy)(ux:aF P w K mg base bx 5 zN yC Kp (rT K))(uH:eD K mg "name_at" zN yC Kp)(zS:aF P w K mg base bx 5 uI rR pq (rG K mg))(fO:eD K mg "rank_of" uI rR pq)(iP:aF P w K mg base bx 5 nM kY Du (lq K mg))(iE:eD K mg "first_to_take" nM kY Du)(oM:aF P w K mg base bx 5 oR nr Dq (nP K))(pP:eD K mg "callers_from" oR nr Dq)
include eV Ej sU lU fX ux uH zS fO iP iE oM pP iI GQ iA av az aA aw aB aC in
theorem Q8(F:bH K "run" "run" MC f fd):aF P w K mg base bx 6 f fd pJ (FD K mg):=by
 refine F.oj l8 ?_;rintro _ A _ _ H _ _ E I aw _ hu ⟨d,a,b,rfl,h⟩;refine⟨_,(aj (aX (i:=3) l8.nd rfl (YB rfl) (a9 Ej sU I (aa (pv 0) (aa pE af))))
   (aj (aX (i:=4) l8.nd rfl (YB rfl) (bO (vk rfl (X6 (aaw (by decide) _) aw)) (by rfl) iI W5 (aa (bQ ["call"] [Yb] rfl rfl (by kernel_rfl) (bJ (K:=K) rfl (pv 1)) (λ_ _ _ _ _ nd=>aP (i:=0) nd rfl (YB rfl)) (λ_ _ _ _ _=>ed) (λ_ _ _ _ _=>(cv (aa (a9 zS fO I (aa (pv 0) af)) (aa (pv 0) af))))) af)))
   (aj (aX (i:=5) l8.nd rfl (YB rfl) (bj (tN rfl) (by rfl) iA XU (aa (bO (Aa rfl) (by rfl) GQ (show Xk "set"=Ya (.type "set") by decide +kernel) (aa (bQ ["call"] [Yb] rfl rfl (by kernel_rfl) (bJ (K:=K) rfl (pv 1)) (λ_ _ _ _ _ nd=>aP (i:=0) nd rfl (YB rfl)) (λ_ _ _ _ _=>ed) (λ_ _ _ _ _=>(aH (K:=K) rfl (pv 0) rfl))) af)) af)))
   (aj (aX (i:=6) l8.nd rfl (YB rfl) (dQ af))
   (aj (aX (i:=7) l8.nd rfl (YB rfl) (a9 lU fX I (aa (pv 2) (aa (pv 3) (aa ax af)))))
   (aj (aX (i:=8) l8.nd rfl (YB rfl) (a9 iP iE I (aa (pv 5) (aa (pv 4) (aa (pv 3) (aa (a9 ux uH I (aa (pv 2) (aa (pv 7) af))) af))))))
   (aj (yK Ws (bc wB (pv 8) pX (bu _))
   (aj (dC (rO (K:=K) rfl (F5 X0 X5 aaM qm (pv 6) (aa (pv 8) af))))
   (aj (mD hu (pv 3) (aH (K:=K) rfl (pv 8) rfl) (aH (K:=K) rfl (pv 8) rfl) rfl)
   (aj (aX (i:=7) l8.nd rfl (YB rfl) (a9 lU fX I (aa (pv 2) (aa (pv 3) (aa (pv 7) af)))))
   (au (aX (i:=8) l8.nd rfl (YB rfl) (a9 iP iE I (aa (a9 oM pP I (aa (pv 5) (aa (aH (K:=K) rfl (pv 8) rfl) af))) (aa (pv 4) (aa (pv 3) (aa (a9 ux uH I (aa (pv 2) (aa (pv 7) af))) af)))))))))))
   (au (aL (cv (aa (pv 6) (aa (pv 3) af)))))))))))),?_⟩
 obtain⟨m,g,cs,xs,ns,hd,cm,hS,hc,lc,rg,hP,hn,kk⟩:=h;have lw:g.length=cs.length:=Y0 hc;have lx:=hn.len;lia;intro e0 H1 bm s1 g1;lia;refine⟨d,e0,m,[],rfl,cU s1 hd,.inl g1,cm,Ck.nil,λH2 r m0 s2 I g2 ae mx=>?_⟩;have az:∀k,ct m0 k=ct m k:=λk=>by
  have:=zm (mx k);have c0:=cm.ct k;have e:ct [] k=0:=rfl;rw[e]at this;omega
 have T:=s1.trans s2;have aA:=T.seq hS;have aB:=pL (.same T) hc;lia;intro E hE;refine bL (K:=K) (a:=a) (xs:=g) (λi σ A=>∃v B,σ=[v]/\aG H2 A/\A E=Ya (.lst B)/\B.length=i/\Cd A B (((g.zip cs).take i).map Sz)) ⟨Yb,[],rfl,aD hE,ai,rfl,.nil⟩ ?_ ?_ ?_
 ·rintro i σ A _ ⟨_,_,_,z,_⟩;exact z.seq aA
 ·rintro i x σ A hx ⟨v,B,rfl,sA,gE,ly,pr⟩;obtain⟨y,U,cy⟩:=dD aB hx;have hi:=(Yi.mp U).1;lia;refine⟨x,rfl,y,cy.up (.same sA),λA1 t t1 ht ag=>?_⟩;lia;intro u S bn t2 J;have L:=t2 _ _ (t1 _ _ gE);have kp:dF S (upd S E (.lst (B++[V.ref u]))):=dF.lst L;refine⟨B,L,aJ (by omega),_,B++[.ref u],rfl,λb' o z=>?_,ai,by rw[Yq,ly];rfl,?_⟩
  ·rw[ak (ay z hE)];exact t2 _ _ (t1 _ _ (sA b' o z))
  ·rw[Cs g cs i hx U,Yt];exact u6 (Bp (λa xs z=>kp _ _ (t2 _ _ (t1 _ _ z))) pr) ⟨u,t,rfl,kp _ _ J,kp _ _ (t2 _ _ ag)⟩
 rintro σ H3 ⟨v,B,rfl,s3,gE,ly,pr⟩;rw[show(g.zip cs).take g.length=g.zip cs by rw[aac];rw[aes];omega]at pr;refine⟨E,B,_,rfl,gE,pr,by have:=Y0 pr;omega,λD hD=>?_⟩;have s4:=aD (o:=.dT (i7 ((g.zip cs).map Sz))) hD;have gD:(upd H3 D (.dT (i7 ((g.zip cs).map Sz)))) D=Ya (.dT (i7 ((g.zip cs).map Sz))):=ai;generalize upd H3 D (.dT (i7 ((g.zip cs).map Sz)))=H4 at s4 gD⊢;have N:aG H2 H4:=s3.trans s4;have aC:=pL (.same N) aB;have RK:RX K mg H4 D (yZ (g.zip cs)):=⟨⟨_,gD,Pf _⟩,λa b v x e=>by
  obtain⟨e1,e2,e3⟩:=qj e;exact⟨sC aC e1,e2,e3⟩⟩
 have a8:=N.seq aA;lia;intro E2 aI;refine bL (K:=K) (a:=a) (xs:=g) (λi σ A=>∃v,σ=[v]/\aG H4 A/\A E2=Ya (.lst (((cs.take i).map (·.c)).map V.int))) ⟨Yb,rfl,aD aI,ai⟩ ?_ ?_ ?_
 ·rintro i σ A _ ⟨_,_,z,_⟩;exact z.seq a8
 ·rintro i x σ A hx ⟨v,rfl,sA,gA⟩;obtain⟨y,U,cy⟩:=dD aC hx;have hi:=(Yi.mp U).1;obtain⟨p,C,dx,t,ba,rfl,hk,hT,hp,_⟩:=cy.up (.same sA);obtain⟨cl,n1,n2,n3,n4,n5⟩:=id hT;lia;refine⟨_,gA,?_,_,rfl,λb o z=>?_,?_⟩
  ·rw[Yf,Yf,Y8];exact aJ (by omega)
  ·rw[ak (ay z aI)];exact sA b o z
  ·rw[ai,aT U,Yt,Yt];rfl
 rintro σ H5 ⟨v,rfl,s5,L⟩;rw[lw,YM]at L;refine⟨E2,cs.map (·.c),rfl,bo.of L,by rw[Yf];omega,λq ks hq W mk=>?_⟩;refine⟨q,ks,rfl,ai,W,?_,λcl hs ah pm so=>?_⟩
 ·exact iJ W λk hk=>by
   obtain⟨x,hx,e⟩:=YL.mp ((mk k).mp hk);rw[←e];exact rg x hx
 generalize Lu _ _ q ks=so' at ah⊢;have aK:=aD (o:=so') hq;have s6:=aD (o:=.lst (hs.map V.int)) ah;have g6:(upd (upd H5 q so') cl (.lst (hs.map V.int))) cl=Ya (.lst (hs.map V.int)):=ai;generalize upd (upd H5 q so') cl (.lst (hs.map V.int))=H6 at s6 g6⊢;generalize upd H5 q so'=H5' at aK s6 ah;have X:aG H4 H6:=s5.trans (aK.trans s6);have bb:hs.Pairwise (·<·):=by
  have:=acU.mpr ⟨so,pm.nodup_iff.mpr W⟩;exact this.imp λh=>by omega
 have aN:∀h,h∈hs↔∃x∈cs,x.c=h:=λh=>by
  rw[pm.mem_iff,mk h];exact YL
 have lhs:hs.length<=400:=by
  have:hs.length<64:=iJ (pm.nodup_iff.mpr W) λk hk=>by
   obtain⟨x,hx,e⟩:=(aN k).mp hk;rw[←e];exact rg x hx
  omega
 lia;intro l H7 hl s7 g7;have aQ:aG H2 H7:=N.trans (X.trans s7);have al:=T.trans aQ;have am:=aQ _ _ g2;have an:bo K H7 b xs∨bC K H7 b xs:=DD (λo e=>al _ _ e) hP;have ap:nZ H7 xs ns:=hn.up (.same al);have aR:=s7 _ _ g6;have aS:=RK.same (X.trans s7);have aU:l≠r:=λz=>by rw[z,(N.trans X) _ _ g2]at hl;cases hl
 have aV:cl≠l:=λz=>by rw[←z,g6]at hl;cases hl
 lia;refine⟨b,r,0,rfl,xs,m0,ns,an,.inl am,ap,Y6 _,λk _ h=>absurd h (abg _),λj j1 j2 j3=>?_⟩;lia;refine Ca an ap j1 j2 j3 λy U=>?_;lia;refine⟨cl,D,r,y,rfl,hs,_,m0,Et ns m0,bo.of aR,aS,.inl am,ae.toCk,U,λH8 s8=>?_⟩;have aY:=s8 _ _ g7;have Y:=s8 _ _ am;have G:=s8 _ _ aR;have bd:=aS.same s8;have bt:bo K H8 b xs∨bC K H8 b xs:=DD (λo e=>s8 _ _ e) an;have be:nZ H8 xs ns:=ap.up (.same s8);have aq:=al.trans s8;have QF:H l=none:=(T.trans (N.trans X)).free hl;have Z:H r=none:=s1.free I;have bl:∀o,H8 b=Ya o->(bo K H b xs∨bC K H b xs)->True:=λ_ _ _=>trivial;lia;refine⟨λM σ A=>∃rw Zh c j,M=mz cs c/\σ=[Ya (.ref d),Ya (.ref a),Ya (.ref b),Ya (.ref r),Ya (.ref D),Ya (.ref cl),Ya (.ref l),Ya (.int (j:Nat)),Ya (Pu (fst (S6 hs Zh) (yZ (g.zip cs)) c (Et ns c)))]/\(∀x o,H8 x=Ya o->x≠l->x≠r->A x=Ya o)/\A l=Ya (.lst ((rw:List (V×bM)).map (·.1)))/\A r=Ya (.dK (dI c))/\Td c/\Fw hs (yZ (g.zip cs)) ns m0 rw Zh c/\j<=ns.length/\(∀k (hk:k<ns.length),k<j->Cw c ns[k])/\rw.length+ mz cs c<=60,⟨_,[],Yb,m0,j,rfl,rfl,λx o e _ _=>e,aY,Y,ae,.start,j1,j2,?_⟩,?_⟩
 ·have:=YQ (λq:bM=>decide (ct m0 q.c<q.k)) cs;unfold mz;rw[W0];omega
 rintro M σ A ⟨ab,Zh,c,j',rfl,rfl,kA,gl,gr,O,fw,q1,q2,q3⟩;have ar:∀{x:Ye} {o:HO},H8 x=Ya o->(∀B,o≠.lst B)->(∀n,o≠.dK n)->A x=Ya o:=λe n1 n2=>kA _ _ e (λz=>by rw[z,aY]at e;cases e;exact n1 _ rfl) (λz=>by rw[z,Y]at e;cases e;exact n2 _ rfl);have a0:S7 H8 A:=⟨λp C dx fs e=>ar e (by intro _ z;cases z) (by intro _ z;cases z),λa xs e=>ar e (by intro _ z;cases z) (by intro _ z;cases z)⟩;have bv:bo K A b xs∨bC K A b xs:=by
  refine DD (λo e=>?_) hP;exact kA _ _ (aq _ _ e) (λz=>by rw[z,QF]at e;cases e) (λz=>by rw[z,Z]at e;cases e)
 have bf:nZ A xs ns:=be.up a0.2;have bw:=kA _ _ G aV (λz=>by rw[z,Y]at G;cases G);have a4:RX K mg A D (yZ (g.zip cs)):=by
  obtain⟨⟨n,e1,e2⟩,e3⟩:=bd;exact⟨⟨n,ar e1 (by intro _ z;cases z) (by intro _ z;cases z),e2⟩,λa b v x e=>⟨(e3 a b v x e).1.up a0,(e3 a b v x e).2⟩⟩
 cases z:fst (S6 hs Zh) (yZ (g.zip cs)) c (Et ns c)with
 |none=>
  lia;rw[show decide (Pu Yb=V.non)=true from decide_eq_true rfl];lia;intro t A1 ht s9 g9;refine kk A1 t l r hs m0 ab Zh c (λx o e=>s9 _ _ (kA _ _ (aq _ _ e) (λz=>by rw[z,QF]at e;cases e) (λz=>by rw[z,Z]at e;cases e))) QF Z g9 (s9 _ _ gl) (s9 _ _ gr) O bb aN ae az fw z
 |some q=>
  obtain⟨v,x⟩:=q;obtain⟨hh,bE,eL,tk⟩:=wF z;obtain⟨cx,ec,ek⟩:=a4.cl _ _ _ _ eL;obtain⟨p,C,dx,t,ba,rfl,hk,hT,hp,ht,bF,bG⟩:=id cx;obtain⟨bN,n1,n2,n3,n4,n5⟩:=id hT;have xm:x∈cs:=by
   have:=(qj eL).1;exact(X4 this).2
  have xr:=rg x xm;have bg:x.k=ct c x.c+ 1:=by rw[ek,ec]
  have bh:0<x.k:=by have:=O.toCk.ct x.c;omega
  have ml:=Ls xm bg;rw[show Pu (Ya (V.ref p,x))=V.ref p from rfl];lia;rw[show decide (V.ref p=V.non)=false from decide_eq_false (by intro z;cases z)];refine du (λ_=>?_) λz=>absurd rfl z;refine⟨_,λ_ _ z=>z,?_⟩;have ls:(ab.map (·.1)).length<sizeLine:=aJ (by rw[Yf];omega);lia;intro A1 b1 ag;have bR:=b1.of gl hp (by intro z;cases z);have bT:=b1.at aU.symm gr;have nd:=O.nd;have lm:=O.toCk.len;lia;intro S b2 J;have as:∀x o,H8 x=Ya o->x≠l->x≠r->S x=Ya o:=λx o e n1 n2=>b2.at n2 (b1.at n1 (kA x o e n1 n2));have Q:∀{x:Ye} {o:HO},A x=Ya o->(∀B,o≠.lst B)->(∀n,o≠.dK n)->S x=Ya o:=λe n1 n2=>b2.at (λz=>by rw[z,gr]at e;cases e;exact n2 _ rfl) (b1.at (λz=>by rw[z,gl]at e;cases e;exact n1 _ rfl) e);have R:S7 A S:=⟨λp C dx fs e=>Q e (by intro _ z;cases z) (by intro _ z;cases z),λa xs e=>Q e (by intro _ z;cases z) (by intro _ z;cases z)⟩;have ac:bo K S b xs∨bC K S b xs:=by
   refine DD (λo e=>?_) hP;exact as _ _ (aq _ _ e) (λz=>by rw[z,QF]at e;cases e) (λz=>by rw[z,Z]at e;cases e)
  have ad:nZ S xs ns:=bf.up R.2;have a5:=as _ _ G aV (λz=>by rw[z,Y]at G;cases G);have bW:=R.1 _ _ _ _ hp;have a6:RX K mg S D (yZ (g.zip cs)):=by
   obtain⟨⟨n,e1,e2⟩,e3⟩:=a4;exact⟨⟨n,Q e1 (by intro _ z;cases z) (by intro _ z;cases z),e2⟩,λa b v x e=>⟨(e3 a b v x e).1.up R,(e3 a b v x e).2⟩⟩
  have a7:=Fy O xr.1 xr.2 bh;have mono:∀k,ct c k<=ct (dR c x.c x.k) k:=λk=>by
   rw[uT];by_cases w:k=x.c
   ·rw[if_pos w,w];omega
   ·rw[if_neg w];exact Xi _
  lia;refine⟨b,r,j',rfl,xs,dR c x.c x.k,ns,ac,.inl J,ad,q1,λk hk h=>adt (q2 k hk h) (mono _),λj2 a1 a2 a3=>?_⟩;lia;refine⟨cl,x.c,rfl,hs,bo.of a5,lhs,λA3 cf s bX bi=>?_⟩;lia;refine Ca (DD (λo e=>s _ _ e) ac) (ad.up (.same s)) a1 a2 a3 λy U=>?_;lia;refine⟨cf,D,r,y,rfl,_,_,dR c x.c x.k,Et ns (dR c x.c x.k),bo.of bi,a6.same s,.inl (s _ _ J),a7.toCk,U,λA4 av=>?_⟩;refine⟨mz cs (dR c x.c x.k),ml,ab++[(.ref p,x)],Ya x.c,dR c x.c x.k,j2,rfl,rfl,λx o e n1 n2=>av _ _ (s _ _ (as x o e n1 n2)),?_,av _ _ (s _ _ J),a7,.step fw z,a1,a2,?_⟩
  ·rw[Yt];exact av _ _ (s _ _ (b2.at aU ag))
  ·rw[Yq];show ab.length+ 1+ _<=60;omega
def jB(m:List (Int×Int))(x:bM):Bool:=decide (x.kd="one")&&Oq m x
def Qy(zs:List (V×bM))(m:List (Int×Int)):Option (V×bM)->Prop
 |none=>∀q∈zs,jB m q.2=false
 |some q=>q∈zs/\jB m q.2=true/\∀a∈zs,jB m a.2=true->HT.d6 [a.2.c,a.2.k] [q.2.c,q.2.k]=false
def m7(K:Yc)(mg:Yn->Option Yd):Sp:=λe H Q _=>∃(a d:Ye),e=[.ref a,.ref d]/\∃b cs m,bo K H a b/\CZ K mg H b cs/\cs.length<=60/\Rd H d (.dK (dI m))/\Ck m/\∀c o,aG H c->Qy (b.zip cs) m o->Q (Pu o) c
abbrev BM:List Yn:=["calls","counts"]
theorem wa:aE ["calls","counts"] BM (ao jo):=eW
variable(iU:aF P w K mg base bx 2 uI rR pq (rG K mg))(vy:mg "min"=Yb)
include eV j0 j8 cZ cX cL bG dz bT iU fO vy av az aA aw aB aC aQ bX a8 cN a7 cP in
theorem wg(F:bH K "least_asking" "least_asking" jo f fd):aF P w K mg base bx 4 f fd BM (m7 K mg):=by
 refine F.oj wa ?_;rintro _ A _ _ H _ _ E U L _ _ ⟨a,d,rfl,h⟩;refine⟨_,(au (aL (Ie (K:=K) rfl rfl (X6 (aaw (by decide) _) L) (aa (bQ ["counts","call"] [Ya 1,Yb] rfl rfl (by kernel_rfl) (bJ (K:=K) rfl (pv 0)) (λ_ _ _ _ _ nd=>aP (i:=1) nd rfl (YB rfl)) (λ_ _ _ _ _=>(eY (PW.pt (w5 (cK K rfl (bA (bU.cons aA.cl a7 cL bG (bU.cons av.cl aQ cL bG (bU.cons az.cl a8 dz bT bU.nil))) (pv 1) U)) (ue (cK K rfl (bP (bU.cons aA.cl cP j0 j8 (bU.cons av.cl bX cZ cX (bU.cons az.cl cN cZ cX bU.nil))) (pv 1) U (aa (pv 0) af)))))))) (λ_ _ _ _ _=>(pv 1))) af) pX (by rfl) vy iU fO.mg fO.bd (by rfl) U))),?_⟩;obtain⟨r,cs,m,hS,W,lc,hd,cm,kk⟩:=h;have lw:r.length=cs.length:=Y0 W;lia;intro E hE;refine bL (K:=K) (a:=a) (xs:=r) (λi σ A=>∃v g,σ=[Ya (.ref d),v]/\aG H A/\A E=Ya (.lst ((g:List (V×bM)).map (·.1)))/\g=((r.zip cs).take i).filter λq=>jB m q.2) ⟨Yb,[],rfl,aD hE,ai,rfl⟩ ?_ ?_ ?_
 ·rintro i σ A _ ⟨_,_,_,z,_⟩;exact z.seq hS
 ·rintro i v σ A hx ⟨v0,g,rfl,s,I,u⟩;obtain⟨x,hy,cy⟩:=dD W hx;have hi:=(Yi.mp hy).1;have tk:=Cs r cs i hx hy;have lz:g.length<=i:=by
   rw[u];exact cb (YQ _ _) (XX _ _)
  have X:=cU s hd;have Y:jB m x=true->g++[(v,x)]=((r.zip cs).take (i+ 1)).filter λq=>jB m q.2:=λw=>by
   rw[tk,YS,←u];simp[w]
  have no:jB m x=false->g=((r.zip cs).take (i+ 1)).filter λq=>jB m q.2:=λw=>by
   rw[tk,YS,←u];simp[w]
  obtain⟨p,C,dx,t,M,rfl,J,hT,hp,ht,B,D⟩:=cy.up (.same s);obtain⟨kd,n,c,k,w,j⟩:=x;have J:Rq mg kd C:=J;have hp:A p=Ya (.ins C dx (uk (.int n) (.int c) (.int k) (.int w) (.ref t))):=hp;have B:i6 A M j:=B;have D:Ck j:=D;rcases J with⟨rfl,e⟩|⟨rfl,e⟩|⟨rfl,e⟩
  ·rw[aC]at e;cases e;lia;refine⟨p,rfl,?_⟩;lia;exact⟨_,g,rfl,s,I,no (by unfold jB;rw[PQ];rfl)⟩
  ·rw[aw]at e;cases e;lia;refine⟨p,rfl,?_⟩;lia;exact⟨_,g,rfl,s,I,no (by unfold jB;rw[PX];rfl)⟩
  ·have ev:jB m ⟨"one",n,c,k,w,j⟩=(decide (ct m c=k-1)&&cov m (eh j)):=by
    unfold jB Oq;rw[JV,Qf];simp
   rw[aB]at e;cases e;lia;refine⟨p,rfl,?_⟩;lia;refine⟨p,d,rfl,_,dx,m,_,c,k,_,t,M,j,.inr aB,hp,X,ht,B,cm,D,λA1 T=>?_⟩;lia;refine du (λh1=>?_) λh1=>?_
   ·have Z:=T _ _ I;lia;refine⟨_,Z,by rw[Yf];exact aJ (by omega),_,g++[(.ref p,⟨"one",n,c,k,w,j⟩)],rfl,λb o z=>?_,by rw[ai,Yt];rfl,Y (by rw[ev];exact h1)⟩;rw[ak (ay z hE)];exact T _ _ (s b o z)
   ·exact⟨_,g,rfl,s.trans T,T _ _ I,no (by rw[ev];exact Xq.mpr h1)⟩
 rintro σ A ⟨v,g,rfl,s,I,u⟩;rw[show(r.zip cs).take r.length=r.zip cs by rw[aac];rw[aes];omega]at u;have N:=pL (.same s) W;have G:∀q∈g,q∈r.zip cs/\jB m q.2=true:=λq y=>by
  rw[u]at y;exact Y4.mp y
 have O:∀{i:Nat} {v:V},(g.map (·.1))[i]?=Ya v->∃q,g[i]?=Ya q/\q.1=v:=fun{i v} h=>by
  rw[Yv]at h;cases w:g[i]? with
  |none=>rw[w]at h;cases h
  |some q=>rw[w]at h;exact⟨q,rfl,YC h⟩
 lia;refine⟨E,g.map (·.1),g.map (λq=>[q.2.c,q.2.k]),rfl,bo.of I,by rw[Yf,Yf],λv Q=>?_,λi v k H3 Q' Q J s3 y=>?_,λe=>?_,λi v kb H' Q R S s'=>?_⟩
 ·obtain⟨q,y,rfl⟩:=YL.mp Q;obtain⟨p,_,_,_,_,e,_⟩:=sC N (G q y).1;exact⟨p,e⟩
 ·obtain⟨q,l,rfl⟩:=O Q;rw[Yv,l]at J;cases J;have cq:=(sC N (G q (Yy l)).1).up (.same s3);exact⟨q.1,rfl,q.2,cq,λH4 t s4 _ g4=>y H4 t s4 (bC.of g4)⟩
 ·refine kk A Yb s λq y=>?_;have e0:g=[]:=XY.mp e;rw[u]at e0;have:=List.filter_eq_nil_iff.mp e0 q y;exact Xq.mpr this
 ·obtain⟨q,l,rfl⟩:=O Q;rw[Yv,l]at R;cases R;obtain⟨z1,z2⟩:=G q (Yy l);refine kk H' (Ya q) (s.trans s') ⟨z1,z2,λq' ab ha=>?_⟩;have:q'∈g:=by rw[u];exact Y4.mpr ⟨ab,ha⟩
  obtain⟨j',ac⟩:=YR this;exact(S j' [q'.2.c,q'.2.k] (by rw[Yv,ac];rfl)).1
abbrev wZ:YT:=eX 43
abbrev kJ:YT:=eX 6
abbrev w6:YT:=eX 7
abbrev xK:YT:=eX 8
abbrev yF:YT:=eX 18
abbrev Mb:YT:=eX 19
abbrev rC:YT:=eX 20
abbrev gZ:YT:=bz (eX 32) 0
abbrev kz:YT:=bz (eX 32) 1
abbrev jw:YT:=bz (eX 32) 6
abbrev kL:YT:=bz (eX 32) 7
def QB(zs:List (V×bM)):Prop:=∀q∈zs,∀r∈zs,q.2.c=r.2.c->q.2.k=r.2.k->q=r
theorem Nq(u:QB zs)(h:q∈zs):yZ zs q.2.c q.2.k=Ya q:=by
 cases z:yZ zs q.2.c q.2.k with
 |none=>
  unfold yZ at z;have:=ady.mp z q (ad8.mpr h);exact absurd (decide_eq_true ⟨rfl,rfl⟩) this
 |some r=>
  obtain⟨a,b,c⟩:=qj z;rw[u r a q h b c]
theorem MQ{cs:List bM}(h:∀k,ct m k=ct m' k):mz cs m=mz cs m':=by
 unfold mz;congr 1;refine congrArg (λf=>cs.filter f) ?_;funext q;rw[h]
theorem TM{hs:List Int}{cs:List bM}(h:Fw hs (yZ (ws.zip cs)) ns m0 rw Zh m):rw.length+ mz cs m<=mz cs m0:=by
 induction h with
 |start=>rw[W0];omega
 |step f e ih=>
  obtain⟨h,_,a,_⟩:=wF e;obtain⟨b,c,d⟩:=qj a;have:=Ls (X4 b).2 (by rw[c];exact d);rw[Yq,YV];omega
theorem Nl{hs:List Int}(h:Fw hs L ns m0 rw Zh m)(e:fst (S6 hs Zh) L m (Et ns m)=Yb)(n:fst hs L m0 (Et ns m0)≠Yb):0<rw.length:=by
 cases h with
 |start=>exact absurd e n
 |step=>rw[Yq,YV];omega
theorem AQ{x:bM}(h:jB m x=true):x.kd="one"/\ct m x.c=x.k-1:=by
 unfold jB Oq at h;simp at h;exact⟨h.1,h.2.1⟩
theorem RO{x:bM}(h:jB m x=true):Cp m x (Ya (x.n,x.c,x.k))=true:=by
 unfold jB at h;unfold Cp;simp at h⊢;exact h.2
theorem OQ{hs:List Int}(u:QB zs)(h:q∈zs)(ha:jB m q.2=true)(a:q.2.c∈hs):fst hs (yZ zs) m (Ya (q.2.n,q.2.c,q.2.k))≠none:=by
 intro z;unfold fst at z;have:=List.findSome?_eq_none_iff.mp z _ a;unfold Dd at this;rw[show ct m q.2.c+ 1=q.2.k by have:=(AQ ha).2;omega,Nq u h]at this;have this:(if Cp m q.2 (Ya (q.2.n,q.2.c,q.2.k))=true then Ya q else Yb)=none:=this;rw[if_pos (RO ha)]at this;cases this
theorem Ol{p:Nm}(h1:∀k (hk:k<ns.length),k<j->Cw m ns[k])(h2:j<=ns.length)(h3:¬ Cw m p):Et (ns.take j++[p]) m=Ya p:=by
 unfold Et;rw[adQ];have:(ns.take j).find? (λp=>!decide (Cw m p))=none:=by
  rw[ady];intro q a;obtain⟨k,hk⟩:=YR a;rw[adz]at hk;by_cases w:k<j
  ·rw[if_pos w]at hk;obtain⟨b,e⟩:=Yi.mp hk;have:=h1 k b w;rw[e]at this;simp[this]
  ·rw[if_neg w]at hk;cases hk
 rw[this,aaQ,acE (by simpa using h3)]
theorem Nd(h:∀k,ct m k=ct m' k)(x:bM):jB m x=jB m' x:=by
 unfold jB Oq cov;simp only[h]
def Wh(cs:List bM)(hs:List Int):Prop:=hs.Pairwise (·<·)/\∀h,h∈hs↔∃x∈cs,x.c=h
def Rn(c:List V)(cs:List bM)(m:List (Int×Int))(ns:List Nm)(rw:List (V×bM))(a:List (Int×Int)):Prop:=∃hs b d,Wh cs hs/\Td b/\(∀k,ct b k=ct m k)/\Fw hs (yZ (c.zip cs)) ns b rw d a/\fst (S6 hs d) (yZ (c.zip cs)) a (Et ns a)=Yb
def Fo(ns:List Nm)(m:List (Int×Int))(j:Nat):Prop:=j<=ns.length/\(∀k (a:k<ns.length),k<j->Cw m ns[k])/\∀b:j<ns.length,¬ Cw m ns[j]
inductive Pw (ws:List V) (cs:List bM) (m:List (Int×Int)) (ns:List Nm):List (V×bM)->List Nm->List (Int×Int)->Prop
 |start {rw:List (V×bM)} {m':List (Int×Int)}:Rn ws cs m ns rw m'->Pw ws cs m ns rw ns m'
 |step {Zu rw:List (V×bM)} {gs:List Nm} {m1 m2:List (Int×Int)} {q:V×bM} {j:Nat}:Pw ws cs m ns Zu gs m1->Qy (ws.zip cs) m1 (Ya q)->Fo gs m1 j->Rn ws cs m1 (gs.take j++[(q.2.n,q.2.c,q.2.k)]) rw m2->Pw ws cs m ns (Zu++rw) (gs.take j++[(q.2.n,q.2.c,q.2.k)]) m2
theorem DZ{cs:List bM}(h:Rn ws cs m ns rw m'):rw.length+ mz cs m'<=mz cs m:=by
 obtain⟨hs,a,b,_,_,e,f,_⟩:=h;have:=TM f;rw[MQ e]at this;exact this
theorem Hb{cs:List bM}(u:QB (ws.zip cs))(i:Qy (ws.zip cs) m (Ya q))(b:Fo gs m j)(h:Rn ws cs m (gs.take j++[(q.2.n,q.2.c,q.2.k)]) rw m'):0<rw.length:=by
 obtain⟨hs,a,r,⟨_,hm⟩,_,e,f,g⟩:=h;obtain⟨c,l,_⟩:=i;have d:jB a q.2=true:=by rw[Nd e];exact l
 have n:q.2.c∈hs:=(hm _).mpr ⟨q.2,(X4 c).2,rfl⟩;refine Nl f g ?_;rw[Ol (λk o p=>?_) b.1 ?_]
 ·exact OQ u c d n
 ·show ¬ (q.2.k<=ct a q.2.c);have:=(AQ d).2;omega
 ·show _<=ct a _;rw[e];exact b.2.1 k o p
theorem DQ(xs:List V)(k:Nat)(h:k<=xs.length):u5 xs Yb (Ya (k:Int))=xs.take k:=by
 unfold u5;have a:HT.fZ xs.length 0 Yb=0:=rfl;have b:HT.fZ xs.length xs.length (Ya (k:Int))=k:=by
  show(if(k:Int)<0 then((k:Int)+ (xs.length:Nat)).toNat else min (k:Int).toNat xs.length)=k;rw[if_neg (by omega),YH];omega
 rw[a,b,aeG,aeZ]
theorem yz{H:Hp}:∀{xs:List V} {ns:List Nm} (k:Nat),nZ H xs ns->nZ H (xs.take k) (ns.take k)
 |_,_,0,_=>.nil
 |_,_,k+ 1,.nil=>.nil
 |_,_,k+ 1,.cons r t=>.cons r (yz k t)
theorem TZ:decide (("one":Yn)="heard")=false:=by decide +kernel
def z9(K:Yc)(mg:Yn->Option Yd):Sp:=λk H Q _=>∃(d a b:Ye),k=[.ref d,.ref a,.ref b]/\∃m e cs f ns,Rd H d (.dK (dI m))/\Ck m/\bo K H a e/\CZ K mg H e cs/\cs.length<=60/\QB (e.zip cs)/\(∀x∈cs,0<=x.c/\x.c<63)/\(bo K H b f∨bC K H b f)/\nZ H f ns/\ns.length<=300/\
 ∀c t l g rw h i j,aG H c->H l=Yb->H g=Yb->c t=Ya (.tup [.ref l,.ref g])->c l=Ya (.lst ((rw:List (V×bM)).map (·.1)))->c g=Ya (.lst h)->nZ c h i->Pw e cs m ns rw i j->Qy (e.zip cs) j Yb->Q (.ref t) c
theorem eU:aE ["counts","calls","places","given","told","row","call"] pJ (ao wZ):=eW
variable{Mv:Ye}{p8:Ye}{F2:Yx}{nO:Yx}(nG:aF P w K mg base bx 6 lX kg Hy (kh K))(f6:aF P w K mg base bx 6 eE gw aO (cV K))(Kz:aF P w K mg base bx 6 Mv F2 pJ (FD K mg))(z4:eD K mg "run" Mv F2 pJ)(jv:aF P w K mg base bx 6 p8 nO BM (m7 K mg))(i9:eD K mg "least_asking" p8 nO BM)
include eV nG fX f6 bw Kz z4 jv i9 iO av az aA aw aB aC aV bh bg in
theorem HF(F:bH K "placed" "placed" wZ f fd):aF P w K mg base bx 7 f fd pJ (z9 K mg):=by
 refine F.oj eU ?_;rintro _ A _ _ H _ _ _ L _ _ _ ⟨d,a,b,rfl,h⟩;refine⟨_,(aj (aX (i:=3) eU.nd rfl (YB rfl) (bO (yH (K:=K) rfl) (by rfl) iO W4 (aa (pv 2) af)))
   (aj (aX (i:=4) eU.nd rfl (YB rfl) (a9 Kz z4 L (aa (pv 0) (aa (pv 1) (aa (pv 3) af)))))
   (aj (aX (i:=5) eU.nd rfl (YB rfl) (bp (br (K:=K) rfl) (pv 4) ax (λ_ _=>rfl)))
   (aj (aX (i:=6) eU.nd rfl (YB rfl) (a9 jv i9 L (aa (pv 1) (aa (bp (br (K:=K) rfl) (pv 4) ax (λ_ _=>rfl)) af))))
   (aj (yK Ws (bc wB (pv 6) pX (bu _))
   (aj (aX (i:=3) eU.nd rfl (YB rfl) (aW FF (p9 (tY (K:=K) rfl) (pv 3) tP (t5 (a9 nG fX L (aa (pv 3) (aa (bp (br (K:=K) rfl) (pv 4) ax (λ_ _=>rfl)) (aa ax af)))))) (dQ (aa (bA (bU.cons aA.cl bg f6 bw (bU.cons av.cl aV f6 bw (bU.cons az.cl bh f6 bw bU.nil))) (pv 6) L) af))))
   (aj (aX (i:=4) eU.nd rfl (YB rfl) (a9 Kz z4 L (aa (bp (br (K:=K) rfl) (pv 4) ax (λ_ _=>rfl)) (aa (pv 1) (aa (pv 3) af)))))
   (aj (aX (i:=5) eU.nd rfl (YB rfl) (aW FF (pv 5) (bp (br (K:=K) rfl) (pv 4) ax (λ_ _=>rfl))))
   (au (aX (i:=6) eU.nd rfl (YB rfl) (a9 jv i9 L (aa (pv 1) (aa (bp (br (K:=K) rfl) (pv 4) ax (λ_ _=>rfl)) af)))))))))
   (au (aL (cv (aa (pv 5) (aa (pv 3) af)))))))))),?_⟩
 obtain⟨m,D,cs,N,ns,hd,cm,hS,hc,lc,u,rg,hP,hn,ln,kk⟩:=h;have lw:D.length=cs.length:=Y0 hc;have lx:=hn.len;lia;refine⟨b,N,rfl,hP,λg0 O=>?_⟩;have Q:=aD (o:=.lst N) O;have g1:(upd H g0 (.lst N)) g0=Ya (.lst N):=ai;generalize upd H g0 (.lst N)=H1 at Q g1⊢;lia;refine⟨d,a,g0,rfl,m,D,cs,N,ns,cU Q hd,cm,Q.seq hS,pL (.same Q) hc,lc,rg,.inl (bo.of g1),hn.up (.same Q),λH2 t l r hs m0 rw Zh m' s2 hl L gt gl gr ac R an ap e0 fw fe=>?_⟩;have rn:Rn D cs m ns rw m':=⟨hs,m0,Zh,⟨R,an⟩,ap,e0,fw,fe⟩;have gT:bC K H2 t [.ref l,.ref r]:=bC.of gt;have E:=Q.trans s2;lia;refine⟨a,r,rfl,D,cs,m',E.seq hS,pL (.same E) hc,lc,.inl gr,ac.toCk,λH3 o s3 S=>?_⟩;have a0:mz cs m<=60:=cb (YQ _ _) lc;lia;refine⟨λM σ A=>∃t l ll r g T G y s o,M=mz cs s/\σ=[Ya (.ref d),Ya (.ref a),Ya (.ref b),Ya (.ref g),Ya (.ref t),Ya (.ref l),Ya (Pu o)]/\aG H A/\H l=Yb/\H g=Yb/\A t=Ya (.tup [.ref ll,.ref r])/\A l=Ya (.lst ((T:List (V×bM)).map (·.1)))/\A r=Ya (.dK (dI s))/\Td s/\A g=Ya (.lst G)/\nZ A G y/\Pw D cs m ns T y s/\Qy (D.zip cs) s o/\T.length+ mz cs s<=60/\y.length<=ns.length+ T.length,⟨_,t,l,l,r,g0,rw,N,ns,m',o,rfl,rfl,E.trans s3,Q.free hl,O,s3 _ _ gt,s3 _ _ gl,s3 _ _ gr,ac,s3 _ _ (s2 _ _ g1),hn.up (.same (E.trans s3)),.start rn,S,by have:=DZ rn;omega,by omega⟩,?_⟩;clear S gT gt gl gr g1 hl L O rn fw fe;rintro M σ A ⟨t,l,ll,r,g,T,G,y,s,o,rfl,rfl,sA,hl,hg,gt,gl,gr,aq,gg,nm,pw,S,q1,q2⟩;have ly:=nm.len;cases o with
 |none=>
  lia;rw[show decide (Pu Yb=V.non)=true from decide_eq_true rfl];lia;intro t' A1 a1 s9 g9;exact kk A1 t' l g T G y s (sA.trans s9) hl hg g9 (s9 _ _ gl) (s9 _ _ gg) (nm.up (.same s9)) pw S
 |some q=>
  obtain⟨v,n,a2⟩:=id S;obtain⟨vq,x⟩:=q;have cx:gK K mg A vq x:=sC (pL (.same sA) hc) v;obtain⟨p,C,dx,tt,a3,rfl,hk,hT,hp,ht,a4,a5⟩:=id cx;have ek:=(AQ n).1;obtain⟨kd,nn,c,k,w,ar⟩:=x;have ek:kd="one":=ek;subst ek;have hp:A p=Ya (.ins C dx (uk (.int nn) (.int c) (.int k) (.int w) (.ref tt))):=hp;have hk:Rq mg "one" C:=hk;rcases hk with⟨z,_⟩|⟨z,_⟩|⟨_,e⟩
  ·exact absurd z (of_decide_eq_false JV)
  ·exact absurd z (of_decide_eq_false TZ)
  rw[aB]at e;cases e;rw[show Pu (Ya (V.ref p,(⟨"one",nn,c,k,w,ar⟩:bM)))=V.ref p from rfl];lia;rw[show decide (V.ref p=V.non)=false from decide_eq_false (by intro z;cases z)];refine du (λ_=>?_) λz=>absurd rfl z;refine⟨_,λ_ _ z=>z,?_⟩;have a6:bC K A t [.ref ll,.ref r]:=bC.of gt;lia;refine⟨g,r,0,rfl,G,s,y,.inl (bo.of gg),.inl gr,nm,Y6 _,λk _ h=>absurd h (abg _),λj j1 j2 j3=>?_⟩;have a7:bo K A g G:=bo.of gg;lia;intro c1 A1 a8 t1 ad;rw[DQ _ _ (by omega)]at ad;have R:=t1 _ _ hp;lia;refine⟨p,rfl,_,dx,_,_,_,_,_,hT,R,λA2 u2 t2 ba g2=>?_⟩;lia;intro e1 A3 bb t3 g3;have as:=t3 _ _ (t2 _ _ ad);have lt:=XX j G;refine M5 as g3 (by rw[YV];omega) λg' A4 aw t4 g4=>?_;have B:aG A A4:=t1.trans (t2.trans (t3.trans t4));have ae:nZ A4 (G.take j++[.ref u2]) (y.take j++[(nn,c,k)]):=nZ.snoc (yz j (nm.up (.same B))) ⟨u2,rfl,t4 _ _ (t3 _ _ g2)⟩;have bd:bC K A4 t [.ref ll,.ref r]:=bC.of (B _ _ gt);have I:=sA.trans B;lia;refine⟨r,a,g',rfl,s,D,cs,_,_,.inl (B _ _ gr),aq.toCk,I.seq hS,pL (.same I) hc,lc,rg,.inl (bo.of g4),ae,λA5 U l5 r5 aC m5 ag W J s5 be bf X aI ah al aK aN aQ e5 aR aS=>?_⟩;have Y:Rn D cs s (y.take j++[(nn,c,k)]) ag J:=⟨aC,m5,W,⟨aK,aN⟩,aQ,e5,aR,aS⟩;have fo:Fo y s j:=⟨j1,j2,j3⟩;have pos:=Hb u S fo Y;have bi:=DZ Y;have bl:bC K A5 U [.ref l5,.ref r5]:=bC.of X;have am:=s5 _ _ (B _ _ gl);lia;refine M5 am aI (by rw[Yf,Yf];omega) λl6 A6 aU Z g6=>?_;rw[←Yt]at g6;have bm:bC K A6 U [.ref l5,.ref r5]:=bC.of (Z _ _ X);have ab:=I.trans (s5.trans Z);lia;refine⟨a,r5,rfl,D,cs,J,ab.seq hS,pL (.same ab) hc,lc,.inl (Z _ _ ah),al.toCk,λA7 o7 s7 aY=>?_⟩;refine⟨mz cs J,by omega,U,l6,l5,r5,g',T++ag,G.take j++[.ref u2],y.take j++[(nn,c,k)],J,o7,rfl,rfl,ab.trans s7,(I.trans s5).free aU,(sA.trans (t1.trans (t2.trans t3))).free aw,s7 _ _ (Z _ _ X),s7 _ _ g6,s7 _ _ (Z _ _ ah),al,s7 _ _ (Z _ _ (s5 _ _ g4)),ae.up (.same (s5.trans (Z.trans s7))),.step pw S fo Y,aY,?_,?_⟩
  ·rw[Yq];omega
  ·rw[Yq,Yq,YV];have:=XX j y;omega
def ph(K:Yc):Sp:=λf H Q _=>∃(a:Ye) (h:Int) (d:List V) (c:List (List (Int×Int))),f=[.ref a,.int h]/\bo K H a d/\MG H d c/\c≠[]/\c.length<=10/\∀(e:Hp) (b:Int),aG H e->EX c h b->Q (.int b) e
abbrev CB:List Yn:=["some","hand"]
theorem yO:aE ["some","hand"] CB (ao kJ):=eW
include eV cO bN vy in
theorem yi(F:bH K "least_count" "least_count" kJ f fd):aF P w K mg base bx 2 f fd CB (ph K):=by
 refine F.oj yO ?_;rintro _ _ _ _ H _ _ _ s _ _ _ ⟨a,h,l,n,rfl,h⟩;refine⟨_,(au (aL (bj (Jf rfl) (by rfl) vy aam (aa (bQ ["hand","counts"] [Ya 1,Yb] rfl rfl (by kernel_rfl) (bJ (K:=K) rfl (pv 0)) (λ_ _ _ _ _ nd=>aP (i:=1) nd rfl (YB rfl)) (λ_ _ _ _ _=>ed) (λ_ _ _ _ _=>(a9 cO bN s (aa (pv 1) (aa (pv 0) af))))) af)))),?_⟩;obtain⟨p,dc,ne,l10,k⟩:=h;have t:l.length=n.length:=Y0 dc;refine⟨_,rfl,a,rfl,⟨_,p⟩,λD r=>?_⟩;refine bL (K:=K) (a:=a) (xs:=l) (λi σ g=>∃v,σ=[Ya (.int h),v]/\aG H g/\g D=Ya (.lst (((n.take i).map λm=>ct m h).map V.int))) ⟨Yb,rfl,aD r,ai⟩ ?_ ?_ ?_
 ·rintro i σ g _ ⟨_,_,q,_⟩;exact q.seq p
 ·rintro i x σ g u ⟨v,rfl,q,c⟩;obtain⟨m,hm,d,rfl,hd⟩:=MG.get dc u;have y:=(Yi.mp hm).1;refine AA ⟨_,rfl,_,rfl,d,m,h,rfl,cU q hd,_,c,?_,Ya (.ref d),rfl,λb o z=>?_,?_⟩
  ·rw[Yf,Yf,Y8];exact aJ (by omega)
  ·rw[ak (ay z r)];exact q b o z
  ·rw[ai,aT hm,Yt,Yt];rfl
 rintro σ g ⟨v,rfl,q,c⟩;rw[t,YM]at c;refine⟨D,_,rfl,bo.of c,λz=>ne (XY.mp z),λb A lo=>k _ b q ?_⟩;obtain⟨m,hm,e⟩:=YL.mp A;exact⟨⟨m,hm,e⟩,λB j=>lo _ (YY (f:=λm=>ct m h) j)⟩
def zP(K:Yc):Sp:=λe H Q _=>∃(a:Ye) (d:List V) (b:List (List (Int×Int))),e=[.ref a]/\bo K H a d/\MG H d b/\(∀m∈b,Ck m)/\b.length<=10/\
 ∀(c:Hp) (p:Ye) (j:List (Int×Int)),aG H c->H p=Yb->c p=Ya (.dK (dI j))->Td j->(b=[]->j=[])->(b≠[]->∀k,EX b k (ct j k))->Q (.ref p) c
theorem Iz:aE ["some"] xW (ao w6):=eW
variable{qM:Ye}{pQ:Yx}(kT:aF P w K mg base bx 2 kH jk xW (jg K))(qN:aF P w K mg base bx 2 qM pQ CB (ph K))(qR:eD K mg "least_count" qM pQ CB)
include eV kT dX ic eP qN qR in
theorem IZ(F:bH K "common" "common" w6 f fd):aF P w K mg base bx 3 f fd xW (zP K):=by
 refine F.oj Iz ?_;rintro _ _ _ _ _ _ _ _ G _ _ _ ⟨a,N,r,rfl,h⟩;refine⟨_,(au (aL (a9 ic eP G (aa (bQ ["some","hand"] [Ya 0,Yb] rfl rfl (by kernel_rfl) (bJ (K:=K) rfl (a9 kT dX G (aa (pv 0) af))) (λ_ _ _ _ _ nd=>aP (i:=1) nd rfl (YB rfl)) (λ_ _ _ _ _=>ed) (λ_ _ _ _ _=>(cv (aa (pv 1) (aa (a9 qN qR G (aa (pv 0) (aa (pv 1) af))) af))))) af)))),?_⟩;obtain⟨O,dc,H,l10,k⟩:=h;refine⟨_,rfl,a,N,r,rfl,O,dc,H,l10,λX l S I hl nd mem=>?_⟩;have rg:∀j∈S,0<=j/\j<63:=λj d=>by
  obtain⟨m,h1,h2⟩:=(mem j).mp d;exact(H m h1).keys j h2
 have lS:=iJ nd rg;refine⟨l,rfl,⟨_,bo.of hl⟩,λD Q=>?_⟩;refine bL (K:=K) (a:=l) (xs:=S.map V.int) (λi σ u=>∃v s f,σ=[Ya (.ref a),v]/\aG X u/\u D=Ya (.lst s)/\s.length<=i/\i6 u s (Mn (S.take i) f)/\∀j∈S.take i,EX r j (f j)) ⟨Yb,[],λ_=>0,rfl,aD Q,ai,Yj _,.nil,λj d=>by simp at d⟩ ?_ ?_ ?_
 ·rintro i σ u _ ⟨_,_,_,_,q,_⟩;exact bo.of (q _ _ hl)
 ·rintro i x σ u Y ⟨v,s,f,rfl,q,t,R,C,A⟩;obtain⟨j,d,rfl⟩:=fP Y;have Z:=(Yi.mp d).1;have T:=I.trans q;have ne:r≠[]:=λz=>by
   obtain⟨m,h1,_⟩:=(mem j).mp (Yy d);rw[z]at h1;cases h1
  refine AA ⟨_,rfl,_,rfl,_,rfl,a,j,N,r,rfl,T.seq O,K7 T dc,ne,l10,λH2 b g hb=>⟨by show 2<=sizeLine;decide,λp hp=>?_⟩⟩;have n:=g _ _ t;have B:D≠p:=ay n hp;have U:j∉S.take i:=by
   have:=nd.sublist (aaf (i+ 1) S);rw[aT d,xi]at this;exact λz=>this.2.2 _ z _ (by simp) rfl
  refine⟨s,by rw[ak B];exact n,aJ (by omega),Ya (.int j),_,λy=>if y=j then b else f y,rfl,λc o z=>?_,ai,by rw[Yq];exact Xb R,?_,λy E=>?_⟩
  ·rw[ak (ay z Q),ak (ay (g _ _ (q c o z)) hp)];exact g _ _ (q c o z)
  ·rw[aT d];show i6 _ _ (ad6 _ (_++[j]));rw[Yt];have e:(S.take i).map (λy=>(y,if y=j then b else f y))=Mn (S.take i) f:=WB λy E=>by rw[if_neg (λz:y=j=>U (z▸E))]
   rw[e];refine i6.snoc (C.mono λa s z=>?_) ⟨p,rfl,?_⟩
   ·have J:=g _ _ z;rw[ak (bV J n (by intro z;cases z)),ak (ay J hp)];exact J
   ·rw[ak (cT B),ai];show _=Ya (HO.tup [V.int j,V.int (if j=j then b else f j)]);rw[if_pos rfl]
  ·rw[aT d]at E;rcases YG.mp E with z|z
   ·show EX r y (if y=j then b else f y);rw[if_neg (λy2:y=j=>U (y2▸z))];exact A y z
   ·have W:=Yh.mp z;show EX r y (if y=j then b else f y);rw[if_pos W,W];exact hb
 rintro σ u ⟨v,s,f,rfl,q,t,R,C,A⟩;rw[show S.take (S.map V.int).length=S by rw[Yf,YM]]at C A;refine⟨D,s,_,rfl,.inl (bo.of t),C,?_,by rw[kR];exact nd,λH2 p g L hp=>?_⟩
 ·show(ad6 _ S).length<=1000;rw[Yf];omega
 have nn:∀j∈S,0<=f j:=λj d=>by
  obtain⟨⟨m,hm,e⟩,_⟩:=A j d;rw[←e];exact(H m hm).ct j
 refine k _ p _ ((I.trans q).trans g) ((I.trans q).free L) hp (KC nd rg) (λz=>?_) λne j=>?_
 ·have:S=[]:=by
   cases S with
   |nil=>rfl
   |cons j S=>
    obtain⟨m,h1,_⟩:=(mem j).mp Ys;rw[z]at h1;cases h1
  rw[this];rfl
 ·by_cases d:j∈S
  ·rw[ME nd j d (nn j d)];exact A j d
  ·rw[Hg d];have z:∀m∈r,ct m j=0:=λm hm=>mJ λz=>d ((mem j).mpr ⟨m,hm,z⟩);cases r with
   |nil=>exact absurd rfl ne
   |cons m r=>exact⟨⟨m,Ys,z m Ys⟩,λm' M=>by rw[z m' M];exact Xi _⟩
def uV(K:Yc):Sp:=λc H Q _=>∃(d:Ye) (m:List (Int×Int)),c=[.ref d]/\Rd H d (.dK (dI m))/\m.length<64/\
 ∀(a:Hp) (t:Ye) (b:List V) (S:List Int),aG H a->H t=Yb->S.Perm (m.map (·.1))->S.Pairwise (·<=·)->a t=Ya (.tup b)->i6 a b (rZ m S)->Q (.ref t) a
abbrev zt:List Yn:=["counts"]
theorem Js:aE ["counts"] zt (ao xK):=eW
variable(fq:mg "tuple"=Yb)
include eV iA fq in
theorem ID(F:bH K "packed" "packed" xK f fd):aF P w K mg base bx 1 f fd zt (uV K):=by
 refine F.oj Js ?_;rintro _ _ _ _ H _ _ _ _ _ _ L ⟨d,m,rfl,h⟩;refine⟨_,(au (aL (bO (iu (K:=K) rfl) (by rfl) fq WK (aa (bQ ["counts","hand"] [Ya 0,Yb] rfl rfl (by kernel_rfl) (bJ (K:=K) rfl (bj (A0 rfl) (by rfl) iA XU (aa (pv 0) af))) (λ_ _ _ _ _ nd=>aP (i:=1) nd rfl (YB rfl)) (λ_ _ _ _ _=>(eY (bc L0 (wK L (pv 0) (pv 1) (λ_ _=>rfl)) ax (bu _)))) (λ_ _ _ _ _=>(cv (aa (pv 1) (aa (wK L (pv 0) (pv 1) (λ_ _=>rfl)) af))))) af)))),?_⟩;obtain⟨hd,r,k⟩:=h;refine⟨_,rfl,d,m,rfl,hd,r,λl S hl C O=>?_⟩;have g:aG H (upd H l (.lst (S.map V.int))):=aD hl;have E:(upd H l (.lst (S.map V.int))) l=Ya (.lst (S.map V.int)):=ai;generalize upd H l (.lst (S.map V.int))=H0 at g E⊢;have T:S.length<64:=by rw[C.length_eq,Yf];exact r
 refine⟨l,rfl,⟨_,bo.of E⟩,λD M=>?_⟩;refine bL (K:=K) (a:=l) (xs:=S.map V.int) (λi σ s=>∃v j,σ=[Ya (.ref d),v]/\aG H0 s/\s D=Ya (.lst j)/\j.length<=i/\i6 s j (rZ m (S.take i))) ⟨Yb,[],rfl,aD M,ai,Yj _,.nil⟩ ?_ ?_ ?_
 ·rintro i σ s _ ⟨_,_,_,q,_⟩;exact bo.of (q _ _ E)
 ·rintro i x σ s Q ⟨v,j,rfl,q,c,G,u⟩;obtain⟨n,hn,rfl⟩:=fP Q;have R:=(Yi.mp hn).1;have y:n∈m.map (·.1):=C.mem_iff.mp (Yy hn);have A:Rd s d (.dK (dI m)):=cU q (cU g hd);have N:Ya (V.int (ct m n))=d3 (dI m) (YD n:bK):=by rw[rp,Ub y];rfl
  refine⟨_,rfl,_,rfl,d,V.int (ct m n),rfl,.inl ⟨_,YD n,A,rfl,N⟩,_,_,rfl,rfl,_,rfl,du (λh=>?_) λh=>?_⟩
  ·have I:0<ct m n:=of_decide_eq_true h;refine⟨_,rfl,_,rfl,_,rfl,d,V.int (ct m n),rfl,.inl ⟨_,YD n,A,rfl,N⟩,by show 2<=sizeLine;decide,λp hp=>?_⟩;have B:D≠p:=ay c hp;refine⟨j,by rw[ak B];exact c,aJ (by omega),Ya (.int n),_,rfl,λb o e=>?_,ai,by rw[Yq];exact Xb G,?_⟩
   ·rw[ak (ay e M),ak (ay (q b o e) hp)];exact q b o e
   ·rw[aT hn,GP I];refine i6.snoc (u.mono λa U e=>?_) ⟨p,rfl,?_⟩
    ·rw[ak (bV e c (by intro z;cases z)),ak (ay e hp)];exact e
    ·rw[ak (cT B),ai]
  ·have I:¬ 0<ct m n:=λz=>h (decide_eq_true z);refine⟨Ya (.int n),j,rfl,q,c,aah G,?_⟩;rw[aT hn,Kq I];exact u
 rintro σ s ⟨v,j,rfl,q,c,G,u⟩;rw[show S.take (S.map V.int).length=S by rw[Yf,YM]]at u;refine⟨D,j,rfl,.inl ⟨bo.of c,λt J=>?_⟩⟩;exact k _ t j S (g.trans (q.trans (aD J))) (g.free (q.free J)) C O ai (Ku (aD J) u)
def zq(K:Yc):Sp:=λa H Q _=>∃h:Int,a=[.int h]/\0<=h/\h<=1000/\Q (.int (2^h.toNat)) H
def Kd(K:Yc):Sp:=λa H Q _=>∃n h:Int,a=[.int n,.int h]/\0<=n/\0<=h/\h<=1000/\Q (.bl (n.toNat.testBit h.toNat)) H
def vz(K:Yc):Sp:=λb H Q _=>∃n:Int,b=[.int n]/\0<=n/\n<9223372036854775808/\∀a l,H l=Yb->aG H a->a l=Ya (.lst ((GB.hl n).map V.int))->Q (.ref l) a
theorem Jo:aE ["hand"] ["hand"] (ao yF):=eW
include eV in
theorem Jr(F:bH K "bit_of" "bit_of" yF f fd):aF P w K mg base bx 1 f fd ["hand"] (zq K):=by
 refine F.oj Jo ?_;rintro _ _ _ _ H _ Q _ _ _ _ _ ⟨x,rfl,h⟩;refine⟨_,(au (aL (xv (bc DP (pv 0) ax (bu _)) (aW LW ax (pv 0)) ax))),?_⟩;obtain⟨h0,h1,k⟩:=h;refine⟨_,rfl,_,_,rfl,rfl,_,rfl,?_⟩;rw[decide_eq_true (show(0:Int)<=x from h0)];refine Qv ⟨_,rfl,_,_,rfl,rfl,⟨h0,by omega,by decide⟩,?_⟩;show Q (.int (1*2^x.toNat)) H;rw[adS];exact k
abbrev Co:List Yn:=["hands","hand"]
theorem QX:aE ["hands","hand"] Co (ao Mb):=eW
variable{BO:Ye}{zD:Yx}(Er:aF P w K mg base bx 1 BO zD ["hand"] (zq K))(CK:eD K mg "bit_of" BO zD ["hand"])
include eV Er CK in
theorem RU(F:bH K "has" "has" Mb f fd):aF P w K mg base bx 2 f fd Co (Kd K):=by
 refine F.oj QX ?_;rintro _ _ _ _ H _ Q _ a _ _ _ ⟨n,x,rfl,h⟩;refine⟨_,(au (aL (mi ya (aW SM (pv 0) (a9 Er CK a (aa (pv 1) af))) ax (bu _)))),?_⟩;obtain⟨hn,h0,h1,k⟩:=h;refine⟨_,rfl,_,rfl,x,rfl,h0,h1,_,_,rfl,rfl,rfl,?_⟩;show Q (.bl (!decide (V.int (Builtin.bitAnd n (2^x.toNat))=V.int 0))) H;rw[MN hn h0];exact k
abbrev rj:List Yn:=["hands"]
theorem DG:aE ["hands"] rj (ao rC):=eW
variable{Py:Ye}{L1:Yx}(Qo:aF P w K mg base bx 2 Py L1 Co (Kd K))(PJ:eD K mg "has" Py L1 Co)(iV:mg "range"=Yb)
include eV Qo PJ iV in
theorem DM(F:bH K "hands_of" "hands_of" rC f fd):aF P w K mg base bx 3 f fd rj (vz K):=by
 refine F.oj DG ?_;rintro _ _ _ _ H _ _ _ c _ _ _ ⟨n,rfl,h⟩;refine⟨_,(au (aL (bQ ["hands","hand"] [Ya 0,Yb] rfl rfl (by kernel_rfl) (qg rfl iV (aa (F4 PySem.F.plainAttrs_int PySem.F.slot_int_bit_length PySem.F.type_int_bit_length Jt (pv 0)) af)) (λ_ _ _ _ _ nd=>aP (i:=1) nd rfl (YB rfl)) (λ_ _ _ _ _=>(eY (cK K rfl (a9 Qo PJ c (aa (pv 0) (aa (pv 1) af)))))) (λ_ _ _ _ _=>(pv 1))))),?_⟩;obtain⟨h0,h1,k⟩:=h;obtain⟨m,d⟩:=Jv h0 h1;refine⟨_,rfl,rfl,n,rfl,rfl,_,rfl,by omega,by omega,λD b=>?_⟩;refine rW (λi σ a=>∃v,σ=[Ya (.int n),v]/\a=upd H D (.lst ((xn n i).map V.int))) ⟨Yb,rfl,rfl⟩ ?_ ?_
 ·rintro i σ a g ⟨v,rfl,rfl⟩;have j:i<WA n:=by simpa using g
  refine⟨_,rfl,_,rfl,n,_,rfl,h0,(by omega),(by omega),_,rfl,?_⟩;have l:(0+ (i:Int)).toNat=i:=by omega
  rw[l];cases e:n.toNat.testBit i with
  |true=>
   refine Qv ⟨_,rfl,_,ai,?_,_,rfl,?_⟩
   ·rw[Yf];have:=LI n i;exact aJ (by omega)
   ·rw[NI,LA e,Yt,acg];rfl
  |false=>
   refine UG ⟨_,rfl,?_⟩;rw[Pb e]
 ·rintro σ a ⟨v,rfl,rfl⟩;have e:((WA n:Nat):Int).toNat=WA n:=YH _;rw[e,d];exact k _ D b (aD b) ai
def j6(K:Yc):Sp:=λe H Q _=>∃(p:Ye) (n:Int),e=[.ref p,.int n]/\∃C c,FU K C/\H p=Ya (.ins C c [])/\0<=n/\n<9223372036854775808/\∀a d rs,(∀b o,H b=Ya o->b≠p->a b=Ya o)->a p=Ya (.ins C c [("learnt",.ref d)])->a d=Ya (.dK (dG rs))->qo a rs ((GB.hl n).map λh=>(h,[]))->(∀q∈rs,q.2≠V.ref d)->H d=Yb->(∀q∈rs,∀r,q.2=V.ref r->H r=Yb)->Q .non a
theorem Ga{H b:Hp}(m:dF H b):∀{xs:List V} {ps:List (Int×V)},Em H xs ps->Em b xs ps
 |_,_,.nil=>.nil
 |_,_,.cons ⟨a,e,h⟩ t=>.cons ⟨a,e,m _ _ h⟩ (Ga m t)
theorem zy{H:Hp}:∀{xs:List V} {ps:List (Int×V)} {x:V} {p:Int×V},Em H xs ps->(∃a,x=.ref a/\H a=Ya (.tup [.int p.1,p.2]))->Em H (xs++[x]) (ps++[p])
 |_,_,_,_,.nil,h=>.cons h .nil
 |_,_,_,_,.cons r t,h=>.cons r (zy t h)
theorem L6{ps:List (Int×V)}(h:Em H xs ps):xs.length=ps.length:=Y0 h
theorem fg{H a:Hp}(k:∀r m,H r=Ya (.dK (dI m))->a r=Ya (.dK (dI m))):∀{rs:List (Int×V)} {tb:List (Int×List (Int×Int))},qo H rs tb->qo a rs tb
 |_,_,.nil=>.nil
 |_,_,.cons ⟨e,r,e2,e3⟩ t=>.cons ⟨e,r,e2,k _ _ e3⟩ (fg k t)
theorem DF{H:Hp}:∀{rs:List (Int×V)} {tb:List (Int×List (Int×Int))} {q:Int×V} {e:Int×List (Int×Int)},qo H rs tb->(q.1=e.1/\∃r,q.2=.ref r/\H r=Ya (.dK (dI e.2)))->qo H (rs++[q]) (tb++[e])
 |_,_,_,_,.nil,h=>.cons h .nil
 |_,_,_,_,.cons r t,h=>.cons r (DF t h)
theorem UN(n:Int):(GB.hl n).Nodup:=by
 unfold GB.hl;refine List.Pairwise.map _ (λa b h=>?_) (GB.jI n.toNat);intro e;have:a<b:=h;omega
theorem Ib{j:List (Int×Int)}(hn:h∉tb.map (·.1)):sN tb h j=tb:=by
 unfold sN
 conv=>rhs;rw[←abx tb]
 refine WB λe a=>?_;rw[if_neg (λz=>hn (by rw[←z];exact YY a))];rfl
theorem NO{j:List (Int×Int)}(b:H r=Ya (.dK (dI j))):∀{rs:List (Int×V)} {tb:List (Int×List (Int×Int))},(tb.map (·.1)).Nodup->h∈tb.map (·.1)->qo H rs tb->qo H (vR rs h (.ref r)) (sN tb h j):=by
 intro rs tb nd hm w
 induction w with
 |nil=>simp at hm
 |@cons q e rs tb w t ih=>
  obtain⟨a,c,d,f⟩:=w;rw[Yz,tq]at nd;have g:sN (e::tb) h j=(if e.1=h then(e.1,j)else e)::sN tb h j:=rfl;rw[g];unfold vR;by_cases z:e.1=h
  ·rw[if_pos (a.trans z),if_pos z,Ib (by rw[←z];exact nd.1)];exact .cons ⟨a,r,rfl,b⟩ t
  ·rw[if_neg (λw=>z (a.symm.trans w)),if_neg z];rw[Yz]at hm;exact .cons ⟨a,c,d,f⟩ (ih nd.2 ((Ym.mp hm).resolve_left λw=>z w.symm))
theorem Sa{d:Ye}:∀{rs:List (Int×V)} {tb:List (Int×List (Int×Int))},qo H rs tb->H d=Yb->∀q∈rs,q.2≠V.ref d:=by
 intro rs tb w hd
 induction w with
 |nil=>exact λq a=>nomatch a
 |cons w t ih=>
  obtain⟨_,r,c,b⟩:=w;intro q a;rcases Ym.mp a with z|z
  ·rw[z,c];intro w;cases w;rw[hd]at b;cases b
  ·exact ih q z
theorem NZ{d:Ye}:∀{rs:List (Int×V)} {tb:List (Int×List (Int×Int))},qo H rs tb->(∀q∈rs,q.2≠V.ref d)->(∀r o,r≠d->H r=Ya o->H' r=Ya o)->qo H' rs tb:=by
 intro rs tb w ap k
 induction w with
 |nil=>exact .nil
 |cons w t ih=>
  obtain⟨e,r,a,b⟩:=w;exact .cons ⟨e,r,a,k _ _ (λz=>ap _ Ys (by rw[a,z])) b⟩ (ih λq c=>ap q (Yp _ c))
abbrev BG:List Yn:=["self","hands"]
theorem uf:aE ["self","hands"] BG (ao gZ):=eW
variable{xf:Ye}{vI:Yx}(l7:aF P w K mg base bx 3 xf vI rj (vz K))(mq:eD K mg "hands_of" xf vI rj)
include eV l7 mq iI in
theorem sT(F:bH K "__init__" "Known.__init__" gZ f fd):aF P w K mg base bx 4 f fd BG (j6 K):=by
 refine F.oj uf ?_;rintro _ _ _ _ H _ _ _ L _ _ _ ⟨p,n,rfl,h⟩;refine⟨_,(au (cF (K:=K) rfl (pv 0) (bO (ES rfl) (by rfl) iI W5 (aa (bQ ["hand"] [Yb] rfl rfl (by kernel_rfl) (bJ (K:=K) rfl (a9 l7 mq L (aa (pv 1) af))) (λ_ _ _ _ _ nd=>aP (i:=0) nd rfl (YB rfl)) (λ_ _ _ _ _=>ed) (λ_ _ _ _ _=>(cv (aa (pv 0) (aa pE af))))) af)) rfl)),?_⟩;obtain⟨C,dx,⟨cl,n1⟩,hp,h0,h1,k⟩:=h;lia;refine⟨n,rfl,h0,h1,λU l hl M g1=>?_⟩;lia;intro D W;have ln:=GB.RJ n;refine bL (K:=K) (a:=l) (xs:=(GB.hl n).map V.int) (λi σ A=>∃v u rs,σ=[v]/\aG U A/\A D=Ya (.lst u)/\Em A u rs/\rs.map (·.1)=(GB.hl n).take i/\qo A rs (((GB.hl n).take i).map λh=>(h,[]))/\∀q∈rs,∀r,q.2=V.ref r->U r=Yb) ⟨Yb,[],[],rfl,aD W,ai,.nil,rfl,.nil,λq G=>nomatch G⟩ ?_ ?_ ?_
 ·rintro i σ A _ ⟨_,_,_,_,z,_⟩;exact bo.of (z _ _ g1)
 ·rintro i x σ A hx ⟨v,u,rs,rfl,X,N,s,E,c,B⟩;obtain⟨h,O,rfl⟩:=fP hx;have hi:=(Yi.mp O).1;have ly:u.length<=i:=by
   rw[L6 s,←Yf (f:=(·.1)),E,Y8];omega
  lia;intro r Q L y Y;lia;intro t R ht g J;have j:=g _ _ (y _ _ N);refine⟨u,j,aJ (by omega),Ya (.int h),_,rs++[(h,.ref r)],rfl,λb o z=>?_,ai,?_,?_,?_,λq G r' e=>?_⟩
  ·rw[ak (ay z W)];exact g _ _ (y _ _ (X b o z))
  ·exact zy (Ga ((dF.same (y.trans g)).trans (dF.lst j)) s) ⟨t,rfl,dF.lst j _ _ J⟩
  ·rw[Yt,E,aT O];rfl
  ·rw[aT O,Yt];have kp:∀r m,A r=Ya (.dK (dI m))->(upd R D (.lst (u++[V.ref t]))) r=Ya (.dK (dI m)):=λr m e=>by rw[ak (bV (g _ _ (y _ _ e)) j (by intro z;cases z))];exact g _ _ (y _ _ e)
   exact DF (fg kp c) ⟨rfl,r,rfl,by rw[ak (bV (g _ _ Y) j (by intro z;cases z))];exact g _ _ Y⟩
  ·rcases YG.mp G with z|z
   ·exact B q z r' e
   ·rw[Yh.mp z]at e;cases e;exact X.free L
 rintro σ Q ⟨v,u,rs,rfl,y,S,s,E,c,B⟩;rw[show(GB.hl n).take ((GB.hl n).map V.int).length=GB.hl n by rw[Yf,YM]]at E c;refine⟨D,u,rs,rfl,S,s,by rw[E];exact UN n,by rw[←Yf (f:=(·.1)),E];omega,λd hd=>?_⟩;have g:=aD (o:=.dK (dG rs)) hd;have J:(upd Q d (.dK (dG rs))) d=Ya (.dK (dG rs)):=ai;generalize upd Q d (.dK (dG rs))=R at g J⊢;have Z:aG H R:=M.trans (y.trans g);have I:=Z _ _ hp;lia;intro H5 T g5;refine k H5 d rs (λb o e hb=>T.at hb (Z _ _ e)) g5 (T.of I J (by intro z;cases z)) (fg (λr m e=>T.of I e (by intro z;cases z)) (fg (λr m e=>g _ _ e) c)) (Sa c hd) ((M.trans y).free hd) (λq G r e=>M.free (B q G r e))
def jl(K:Yc)(mg:Yn->Option Yd):Sp:=λi H Q _=>∃(p:Ye) (h:Int) (c:Ye),i=[.ref p,.int h,.ref c]/\∃d rs a m,kQ K mg H p d rs a/\Rd H c (.dK (dI m))/\Ck m/\
 ∀e b f,JH d H e->kQ K mg e p d b f->(tbl a h=Yb->f=a)->(∀g,tbl a h=Ya g->∃j,Td j/\(∀k,MY [g,m] k (ct j k))/\f=sN a h j)->(∀q∈b,q∈rs∨∃r,q.2=.ref r/\H r=Yb)->Q .non e
abbrev zF:List Yn:=["self","hand","counts"]
theorem yc:aE ["self","hand","counts"] zF (ao kz):=eW
variable{cS:Ye}(vO:aF P w K mg base bx 2 xG uy wQ (uZ K))(aN:FU K cS)(aR:mg "Known"=Ya (.ref cS))
include eV vO sU aN aR in
theorem x5(F:bH K "learn" "Known.learn" kz f fd):aF P w K mg base bx 3 f fd zF (jl K mg):=by
 refine F.oj yc ?_;rintro _ _ _ _ H _ _ _ Q _ _ D ⟨p,x,c,rfl,h⟩;refine⟨_,(au (dg (Fq (JI D (pv 1) (aH (K:=K) rfl (pv 0) rfl))) (au (mD D (aH (K:=K) rfl (pv 0) rfl) (pv 1) (a9 vO sU Q (aa (wK D (aH (K:=K) rfl (pv 0) rfl) (pv 1) (λ_ _=>rfl)) (aa (pv 2) af))) rfl)) bD)),?_⟩;obtain⟨d,rs,s,m,S,R,T,k⟩:=h;obtain⟨⟨C,U,J,hp⟩,hd,a,g,t,u⟩:=id S;rw[aR]at J;cases J;obtain⟨cl,n1⟩:=id aN;have i:=a.keys;have nd:(rs.map (·.1)).Nodup:=by rw[i];exact g.up.imp λh=>by omega
 have V:rs.length<sizeLine:=aJ (by
  have:=iJ (by rw[←i];exact nd) g.rg;rw[Yf]at this;have e:rs.length=s.length:=Y0 a;omega)
 lia;rcases a.lk x with⟨E,l⟩|⟨r,m0,E,l,W⟩
 ·rw[E];refine du (λz=>absurd z (by decide)) λ_=>?_;exact k H rs s (.refl _ _) S (λ_=>rfl) (λm0 z=>by rw[l]at z;cases z) λq v=>.inl v
 ·have X:=hd;rw[E];refine du (λ_=>?_) λz=>absurd rfl z;lia;have Y:=t _ (Ha l);refine⟨r,c,m0,m,rfl,.inl W,R,Y.toCk,T,λH1 q j A v Z L mx=>?_⟩;have G:=A _ _ hp;have I:=A _ _ hd;lia;intro M B g2;have Zj:x∈s.map (·.1):=AB.mp (by rw[l];rfl);have N:q≠d:=λz=>by rw[z]at v;rw[v]at hd;cases hd
  have y:qo M rs s:=NZ a u λr o n e=>B.at n (A _ _ e);refine k M _ (sN s x j) (λb o n e=>B.at n (A _ _ e)) ⟨⟨_,U,aR,B.of I G (by intro z;cases z)⟩,g2,NO (B.at N Z) (by rw[←i];exact nd) Zj y,by rw[uQ];exact g,λe he=>?_,λw hw=>?_⟩ (λz=>by rw[l]at z;cases z) (λm1 z=>⟨j,L,?_,rfl⟩) λw hw=>?_
  ·obtain⟨O,h0,rfl⟩:=YL.mp he;by_cases w:O.1=x
   ·rw[if_pos w];exact L
   ·rw[if_neg w];exact t O h0
  ·rcases uG _ _ _ _ hw with z|z
   ·rw[z];intro w;cases w;exact N rfl
   ·exact u w z
  ·rw[l]at z;cases z;exact mx
  ·rcases uG _ _ _ _ hw with z|z
   ·rw[z];exact .inr ⟨q,rfl,v⟩
   ·exact .inl z
theorem i5{H:Hp}:∀{rs:List (Int×V)} {tb:List (Int×List (Int×Int))} {i:Nat} {q:Int×V},qo H rs tb->rs[i]?=Ya q->∃e r,tb[i]?=Ya e/\q.1=e.1/\q.2=.ref r/\H r=Ya (.dK (dI e.2))
 |_,_,_,_,.nil,e=>by simp at e
 |_,_,0,_,.cons ⟨e1,r,e2,e3⟩ _,e=>by simp at e;subst e;exact⟨_,r,rfl,e1,e2,e3⟩
 |_,_,i+ 1,x,.cons _ t,e=>by
  obtain⟨p,r,h1,h2⟩:=i5 (i:=i) t (by simpa using e);exact⟨p,r,by simpa using h1,h2⟩
theorem Ks{m:List (Int×V)}{k:bK}(h:(dG m)[i]?=Ya (k,v)):∃p,m[i]?=Ya p/\k=YD p.1/\v=p.2:=by
 unfold dG at h;rw[Yv]at h;cases e:m[i]? with
 |none=>rw[e]at h;cases h
 |some p=>rw[e]at h;cases h;exact⟨p,rfl,rfl,rfl⟩
theorem UU{a:Hp}{d:Ye}{rs:List (Int×V)}(s:aG B a)(k:kQ K mg B p d rs tb):kQ K mg a p d rs tb:=by
 obtain⟨⟨C,b,e,h⟩,h2,h3,h4,h5,h6⟩:=k;exact⟨⟨C,b,e,s _ _ h⟩,s _ _ h2,fg (λr m q=>s _ _ q) h3,h4,h5,h6⟩
theorem HH{K:Yc}(e:aG H H')(h:bC K H a xs):bC K H' a xs:=Ta.same e _ _ h
def Av(g:Int->Int):List (Int×Int):=(AZ.filter λk=>decide (0<g k)).map λk=>(k,g k)
theorem pI:∀{l m:List Int},l.Pairwise (·<·)->m.Pairwise (·<·)->(∀x,x∈l↔x∈m)->l=m
 |[],[],_,_,_=>rfl
 |[],b::m,_,_,h=>absurd ((h b).mpr Ys) (by simp)
 |a::l,[],_,_,h=>absurd ((h a).mp Ys) (by simp)
 |a::l,b::m,hl,hm,h=>by
  rw[aaI]at hl hm;have e:a=b:=by
   rcases Ym.mp ((h a).mp Ys)with z|z
   ·exact z
   ·rcases Ym.mp ((h b).mpr Ys)with w|w
    ·exact w.symm
    ·have:=hm.1 a z;have:=hl.1 b w;omega
  subst e;rw[pI hl.2 hm.2 λx=>?_];constructor
  ·intro c;rcases Ym.mp ((h x).mp (Yp _ c))with z|z
   ·have:=hl.1 x c;omega
   ·exact z
  ·intro c;rcases Ym.mp ((h x).mpr (Yp _ c))with z|z
   ·have:=hm.1 x c;omega
   ·exact z
theorem Bf:AZ.Pairwise (·<·):=by decide +kernel
theorem JW{S:List Int}(a:S.Pairwise (·<=·))(nd:S.Nodup):S.Pairwise (·<·):=by
 have:=acU.mpr ⟨a,nd⟩;exact this.imp λh=>by omega
theorem F9{S:List Int}(c:Ck m)(a:S.Perm (m.map (·.1)))(b:S.Pairwise (·<=·)):rZ m S=Av (ct m):=by
 unfold rZ Av;have:=pI (l:=S.filter λk=>decide (0<ct m k)) (m:=AZ.filter λk=>decide (0<ct m k)) ((JW b (a.nodup_iff.mpr c.nd)).filter _) (Bf.filter _) λx=>?_
 ·rw[this]
 ·rw[Y4,Y4];constructor
  ·rintro⟨h1,h2⟩;obtain⟨p,hp,e⟩:=YL.mp (a.mem_iff.mp h1);have:=c.rg p hp;rw[e]at this;exact⟨Bm.mpr this,h2⟩
  ·rintro⟨h1,h2⟩;have h3:0<ct m x:=of_decide_eq_true h2;exact⟨a.mem_iff.mpr (U1 (by omega)),h2⟩
def IM(H:Hp)(x:V)(e:Int×List (Int×Int)):Prop:=∃t u a,x=.ref t/\H t=Ya (.tup [.int e.1,.ref u])/\H u=Ya (.tup a)/\i6 H a e.2
abbrev xD(H:Hp):List V->List (Int×List (Int×Int))->Prop:=Paired (IM H)
theorem IM.up(h:∀a xs,H a=Ya (.tup xs)->H' a=Ya (.tup xs)){x:V}(q:IM H x e):IM H' x e:=by
 obtain⟨t,u,xs,b,c,d,f⟩:=q;exact⟨t,u,xs,b,h _ _ c,h _ _ d,f.mono h⟩
theorem ip(h:∀a xs,H a=Ya (.tup xs)->H' a=Ya (.tup xs)){ls:List (Int×List (Int×Int))}(q:xD H xs ls):xD H' xs ls:=Paired.mapP q λ_ _ z=>z.up h
theorem zY{H:Hp}:∀{xs:List V} {ls:List (Int×List (Int×Int))} {x:V} {e:Int×List (Int×Int)},xD H xs ls->IM H x e->xD H (xs++[x]) (ls++[e])
 |_,_,_,_,.nil,h=>.cons h .nil
 |_,_,_,_,.cons r t,h=>.cons r (zY t h)
def vf(tb:List (Int×List (Int×Int))):List (Int×List (Int×Int)):=(tb.filter λe=>!e.2.isEmpty).map λe=>(e.1,Av (ct e.2))
theorem zI(a:tb[i]?=Ya e):vf (tb.take (i+ 1))=vf (tb.take i)++if e.2.isEmpty then[]else[(e.1,Av (ct e.2))]:=by
 unfold vf;rw[aT a,YS,Yt];congr 1;cases z:e.2.isEmpty<;>simp[z]
theorem Ct(c:Ck m):m.length<64:=by
 have:=iJ c.nd (λk a=>by obtain⟨p,hp,e⟩:=YL.mp a;rw[←e];exact c.rg p hp);rw[Yf]at this;exact this
def mW(K:Yc)(mg:Yn->Option Yd):Sp:=λe H Q _=>∃(p:Ye),e=[.ref p]/\∃d rs b,kQ K mg H p d rs b/\∀a t c,aG H a->H t=Yb->a t=Ya (.tup c)->xD a c (vf b)->Q (.ref t) a
theorem vQ:aE ["self"] aO (ao jw):=eW
variable{xB:Ye}{uW:Yx}(CD:aF P w K mg base bx 1 xB uW zt (uV K))(t9:eD K mg "packed" xB uW zt)
include eV CD t9 fq aN aR in
theorem vW(F:bH K "listed" "Known.listed" jw f fd):aF P w K mg base bx 2 f fd aO (mW K mg):=by
 refine F.oj vQ ?_;rintro _ A _ _ H _ _ _ hr _ U hu ⟨p,rfl,h⟩;refine⟨_,(au (G8 (aL (bO (iu (K:=K) rfl) (by rfl) fq WK (aa (bQ ["hand","row"] [Yb,Yb] rfl rfl (by kernel_rfl) (JT (aH (K:=K) rfl (pv 0) rfl)) (λ_ _ _ _ _ nd=>mT (K:=K) (n:=2) rfl rfl (c9 (aP (i:=0) nd rfl (YB rfl)) (c9 (aP (i:=1) nd rfl (YB rfl)) mK))) (λ_ _ _ _ _=>(eY (bc (Qx U) (pv 1) pE (bu _)))) (λ_ _ _ _ _=>(cv (aa (pv 0) (aa (a9 CD t9 hr (aa (pv 1) af)) af))))) af))))),?_⟩;obtain⟨d,rs,W,S,k⟩:=h;obtain⟨⟨C,dx,eC,hp⟩,hd,E,G,X,Y⟩:=id S;rw[aR]at eC;cases eC;obtain⟨cl,n1⟩:=id aN;have I:rs.length=W.length:=Y0 E;have am:W.length<64:=by
  have:=iJ (G.up.imp λh=>by omega) G.rg;rw[Yf]at this;exact this
 refine MX (d:=d) hd ?_;lia;refine Ul hd λo A O Z=>?_;intro D Q;have an:D≠d:=λz=>by rw[z,O]at Q;cases Q
 refine FL (λi σ s=>∃v1 v2 g,σ=[v1,v2]/\aG A s/\s D=Ya (.lst g)/\xD s g (vf (W.take i))/\g.length<=i) ⟨Yb,Yb,[],rfl,aD Q,ai,.nil,Yj _⟩ ?_ ?_ ?_
 ·rintro i σ s _ ⟨_,_,_,_,z,_⟩;exact z _ _ O
 ·rintro i ky v t σ H0 s ab ⟨v1,v2,g,rfl,ac,ad,ae,j⟩ ap s0 m;obtain⟨q,hq,rfl,rfl⟩:=Ks ab;obtain⟨e,r,R,e1,e2,e3⟩:=i5 E hq;have hi:=(Yi.mp R).1;have ag:r≠d:=λz=>Y q (Yy hq) (by rw[e2,z]);have sm:=ac.trans s0;have ah:=sm _ _ (Z _ _ ag e3);have x:=s0 _ _ ad;have J:=ip (λa c z=>s0 a _ z) ae;rw[e2]at m;have m:=bC.of (K:=K) m;lia;intro l H1 hl L g1;have al:Rd H1 r (.dK (dI e.2)):=.inl (L _ _ ah);have aq:Rd H1 l (.dK []):=.inl g1;lia;refine du (λh1=>?_) λh1=>?_
  ·have ne:e.2.isEmpty=false:=by
    cases z:e.2.isEmpty
    ·rfl
    ·rw[z]at h1;cases h1
   have te:=X e (Yy R);lia;refine⟨r,e.2,rfl,al,YU (Ct te.toCk) (Yj _),λH2 u c S s2 hu pm so gu pr=>?_⟩;rw[F9 te.toCk pm so]at pr;lia;intro t3 T ar y g3;have B:aG s T:=L.trans (s2.trans y);have M:=B _ _ x;have kp:∀a c,T a=Ya (.tup c)->(upd T D (.lst (g++[V.ref t3]))) a=Ya (.tup c):=λa c z=>by
    rw[ak (bV z M (by intro z;cases z))];exact z
   refine⟨g,M,aJ (by omega),_,_,_,rfl,λb o z=>?_,ai,?_,by rw[Yq];exact Xb j⟩
   ·rw[ak (ay z Q)];exact B _ _ (sm b o z)
   ·rw[zI R,ne];refine zY (ip (λa c z=>kp a c (B _ _ z)) J) ⟨t3,u,c,rfl,?_,kp _ _ (y _ _ gu),(pr.mono λa c z=>kp _ _ (y _ _ z))⟩;rw[←e1];exact kp _ _ g3
  ·have ne:e.2.isEmpty=true:=by
    cases z:e.2.isEmpty
    ·rw[z]at h1;exact absurd rfl h1
    ·rfl
   refine⟨_,_,g,rfl,sm.trans L,L _ _ x,?_,aah j⟩;rw[zI R,ne];simp only[if_true,gf];exact ip (λa c z=>L _ _ z) J
 rintro σ s ⟨v1,v2,g,rfl,sm,x,J,j⟩;rw[rS,I,YM]at J;rw[rS,I]at j;lia;intro t T m y g3;have kd:=y _ _ (sm _ _ O);have N:t≠d:=λz=>by rw[z,sm _ _ O]at m;cases m
 refine⟨⟨o,kd⟩,?_⟩;refine k _ t g (thaw_same (λb u n e=>y _ _ (sm _ _ (Z b u n e))) hd) ?_ (by rw[ak N];exact g3) (ip (λa c z=>?_) J)
 ·cases z:H t with
  |none=>rfl
  |some u=>rw[sm _ _ (Z t u N z)]at m;cases m
 ·have z3:=y _ _ z;rw[ak (bV z3 kd (by intro z;cases z))];exact z3
def QJ:List (Int×List (Int×Int))->Int->Int->Int->Int
 |[],_,_,c=>c
 |e::ls,h,k,c=>QJ ls h k (if e.1=h then max c (ct e.2 k)else c)
theorem GR(h k:Int)(e:Int×List (Int×Int)):∀(ls:List (Int×List (Int×Int))) (c:Int),QJ (ls++[e]) h k c=if e.1=h then max (QJ ls h k c) (ct e.2 k)else QJ ls h k c
 |[],c=>rfl
 |_::ls,c=>GR h k e ls _
theorem Nt{K:Yc}{d:Ye}{kvs:List (bK×V)}(b:JH d H H')(hd:H d=Ya (.dK kvs))(h:bC K H a xs):bC K H' a xs:=by
 rcases h with(h|⟨z,h⟩)|h
 ·exact .inl (.inl (b _ _ (bV h hd (by intro z;cases z)) h))
 ·exact .inl (.inr ⟨z,b _ _ (bV h hd (by intro z;cases z)) h⟩)
 ·exact .inr h
theorem An:h∉tb.map (·.1)↔tbl tb h=none:=by
 rw[←AB];cases tbl tb h<;>simp
theorem N3(t:Td m):eh m=m:=by
 unfold eh;exact List.filter_eq_self.mpr λp hp=>decide_eq_true (t.ps p hp)
theorem BE{H:Hp}:∀{xs:List V} {ls:List (Int×List (Int×Int))} {i:Nat} {x:V},xD H xs ls->xs[i]?=Ya x->∃e,ls[i]?=Ya e/\IM H x e
 |_,_,_,_,.nil,e=>by simp at e
 |_,_,0,_,.cons h _,e=>by simp at e;subst e;exact⟨_,rfl,h⟩
 |_,_,i+ 1,x,.cons _ t,e=>by
  obtain⟨p,h1,h2⟩:=BE (i:=i) t (by simpa using e);exact⟨p,by simpa using h1,h2⟩
def pW(K:Yc)(mg:Yn->Option Yd):Sp:=λj H Q _=>∃(p a:Ye),j=[.ref p,.ref a]/\∃d rs c i ls,kQ K mg H p d rs c/\bC K H a i/\xD H i ls/\ls.length<=64/\(∀e∈ls,Td e.2)/\
 ∀f b g,JH d H f->kQ K mg f p d b g->g.map (·.1)=c.map (·.1)->(∀h∈c.map (·.1),∀k,ct ((tbl g h).getD []) k=QJ ls h k (ct ((tbl c h).getD []) k))->(∀q∈b,q∈rs∨∃r,q.2=.ref r/\H r=Yb)->Q .non f
abbrev C0:List Yn:=["self","listed"]
theorem jd:aE ["self","listed","hand","row"] C0 (ao kL):=eW
variable{kG:Ye}{jz:Yx}(qV:aF P w K mg base bx 3 mM jX FO (jD K))(q9:aF P w K mg base bx 3 kG jz zF (jl K mg))(fb:Binds K jz zF [])(cG:bB K cS "learn" kG)
include eV qV eP q9 fb aN aR cG in
theorem yJ(F:bH K "merge" "Known.merge" kL f fd):aF P w K mg base bx 4 f fd C0 (pW K mg):=by
 refine F.oj jd ?_;rintro _ _ _ _ H _ _ _ X _ _ _ ⟨p,a,rfl,h⟩;refine⟨_,(au (kC Ws rfl (AH (K:=K) rfl (pv 1)) (mT (K:=K) (n:=2) rfl rfl (c9 (aP (i:=2) jd.nd rfl (YB rfl)) (c9 (aP (i:=3) jd.nd rfl (YB rfl)) mK)))
   (au (dC (bP (bU.cons aN.cl cG q9 fb bU.nil) (pv 0) X (aa (pv 2) (aa (a9 qV eP X (aa (pv 3) af)) af))))))),?_⟩
 obtain⟨d,rs,y,Y,ls,S,hS,Z,hl,ht,k⟩:=h;have lx:Y.length=ls.length:=Y0 Z;lia;refine Bq (xs:=Y) (λi σ s=>∃I J g c,σ=[Ya (.ref p),Ya (.ref a),I,J]/\JH d H s/\kQ K mg s p d g c/\c.map (·.1)=y.map (·.1)/\(∀h∈y.map (·.1),∀k,ct ((tbl c h).getD []) k=QJ (ls.take i) h k (ct ((tbl y h).getD []) k))/\(∀q∈g,q∈rs∨∃r,q.2=.ref r/\H r=Yb)) ⟨Yb,Yb,rs,y,rfl,.refl _ _,S,rfl,λ_ _ _=>rfl,λq hq=>.inl hq⟩ (λi σ s _ z=>?_) ?_ ?_
 ·obtain⟨_,_,_,_,_,z,_⟩:=z;exact Nt z S.dc hS
 ·rintro i x σ s L ⟨I,J,g,c,rfl,l,A,v,B,M⟩;obtain⟨e,he,t,u,ys,rfl,e2,e3,e4⟩:=BE Z L;have D:=ht e (Yy he);have N:t≠d:=bV e2 S.dc (by intro z;cases z);have O:u≠d:=bV e3 S.dc (by intro z;cases z);have ab:=bC.of (K:=K) (l _ _ N e2);have Q:=bC.of (K:=K) (l _ _ O e3);have py:i6 s ys e.2:=e4.mono λb zs z=>l _ _ (bV z S.dc (by intro z;cases z)) z;obtain⟨⟨C,dx,eC,hp⟩,m,_⟩:=id A;rw[aR]at eC;cases eC;obtain⟨cl,n1⟩:=id aN;lia;refine⟨u,ys,e.2,rfl,.inr Q,py,by have:=Ct D.toCk;omega,D.nd,λH2 q E hq g2=>?_⟩;have S2:=UU E A;rw[N3 D]at g2;have m:=E _ _ m;lia;refine⟨p,e.1,q,rfl,d,g,c,e.2,S2,.inl g2,D.toCk,λH3 R T U S3 c1 c2 c3=>?_⟩;refine⟨_,_,R,T,rfl,λb o n z=>U _ _ n (E _ _ (l _ _ n z)),S3,?_,λh hh k=>?_,λw hw=>?_⟩
  ·cases z:tbl c e.1 with
   |none=>rw[c1 z];exact v
   |some m0=>
    obtain⟨j,_,_,V⟩:=c2 m0 z;rw[V,uQ];exact v
  ·rw[aT he,GR,←B h hh k];cases z:tbl c e.1 with
   |none=>
    rw[c1 z,if_neg];intro w;rw[w,←An]at z;exact z (by rw[v];exact hh)
   |some m0=>
    obtain⟨j,_,mx,V⟩:=c2 m0 z;rw[V,Cu];by_cases w:e.1=h
    ·rw[if_pos w,if_pos ⟨w.symm,by rw[z];rfl⟩,←w,z];exact zm (mx k)
    ·rw[if_neg w,if_neg (λu=>w u.1.symm)]
  ·rcases c3 w hw with z|⟨r,e5,G⟩
   ·exact M w z
   ·refine .inr ⟨r,e5,?_⟩;have W:r≠d:=λz=>by rw[z,m]at G;cases G
    cases z:H r with
    |none=>rfl
    |some o=>rw[E _ _ (l _ _ W z)]at G;cases G
 rintro σ s ⟨I,J,g,c,rfl,l,A,v,B,M⟩;lia;rw[lx,YM]at B;exact k _ g c l A v B M
abbrev kO:YT:=bz (eX 32) 4
abbrev l9:YT:=bz (eX 32) 5
abbrev kj:YT:=bz (eX 32) 3
abbrev jf:YT:=bz (eX 25) 1
abbrev gP:YT:=bz (eX 26) 0
abbrev jx:YT:=bz (eX 27) 0
abbrev pF:YT:=bz (eX 24) 7
abbrev u0:YT:=eX 30
def B0(tb:List (Int×List (Int×Int)))(h c:Int):Nat:=(tb.filter λe=>decide (c<=ct e.2 h)).length
def Na(tb:List (Int×List (Int×Int))):List Nm->Nat
 |[]=>0
 |p::ns=>if 2*B0 tb p.2.1 p.2.2<=tb.length then 0 else Na tb ns+ 1
theorem EG{tb:List (Int×List (Int×Int))}:∀{ns:List Nm} {i:Nat},(∀k (hk:k<ns.length),k<i->¬ 2*B0 tb ns[k].2.1 ns[k].2.2<=tb.length)->i<=ns.length->(∀a:i<ns.length,2*B0 tb ns[i].2.1 ns[i].2.2<=tb.length)->Na tb ns=i
 |[],i,_,h2,_=>by
  have:i=0:=by simpa using h2
  rw[this];rfl
 |p::ns,0,_,_,h3=>by
  have this:2*B0 tb p.2.1 p.2.2<=tb.length:=h3 (by simp);unfold Na;rw[if_pos this]
 |p::ns,i+ 1,h1,h2,h3=>by
  have z:¬ 2*B0 tb p.2.1 p.2.2<=tb.length:=h1 0 (by simp) (by omega);unfold Na;rw[if_neg z,EG (i:=i) (λk hk b=>h1 (k+ 1) (by simpa using hk) (by omega)) (by simpa using h2) λa=>h3 (by simpa using a)]
def pf(K:Yc)(mg:Yn->Option Yd):Sp:=λe H Q _=>∃(p t:Ye),e=[.ref p,.ref t]/\∃d rs a n h c,kQ K mg H p d rs a/\H t=Ya (.tup [.int n,.int h,.int c])/\∀b,aG H b->Q (.int (B0 a h c)) b
theorem Ei{c:Int}(a:tb[i]?=Ya e):B0 (tb.take (i+ 1)) h c=B0 (tb.take i) h c+ if c<=ct e.2 h then 1 else 0:=by
 unfold B0;rw[aT a,YS,Yq];congr 1;by_cases z:c<=ct e.2 h
 ·rw[if_pos z];simp[z]
 ·rw[if_neg z];simp;omega
abbrev DR:List Yn:=["self","name"]
theorem xF:aE ["self","name"] DR (ao kO):=eW
include eV ik cW d5 aN aR in
theorem yS(F:bH K "reach" "Known.reach" kO f fd):aF P w K mg base bx 3 f fd DR (pf K mg):=by
 refine F.oj xF ?_;rintro _ A _ _ _ _ _ _ X _ _ _ ⟨p,t,rfl,h⟩;refine⟨_,(au (G8 (aL (bj (cY (K:=K) rfl) (by rfl) d5 Wr (aa (bQ ["name","row"] [Ya 1,Yb] rfl rfl (by kernel_rfl) (ON (aH (K:=K) rfl (pv 0) rfl)) (λ_ _ _ _ _ nd=>aP (i:=1) nd rfl (YB rfl)) (λ_ _ _ _ _=>(eY (cK K rfl (a9 ik cW X (aa (pv 1) (aa (pv 0) af)))))) (λ_ _ _ _ _=>(pv 1))) af))))),?_⟩;obtain⟨d,rs,G,n,x,c,S,T,k⟩:=h;obtain⟨⟨C,dx,U,hp⟩,hd,l,m,Y,H⟩:=id S;rw[aR]at U;cases U;obtain⟨cl,n1⟩:=id aN;have I:rs.length=G.length:=Y0 l;have Z:G.length<64:=by
  have:=iJ (m.up.imp λh=>by omega) m.rg;rw[Yf]at this;exact this
 refine MX (d:=d) hd ?_;lia;refine Ul hd λo A J L=>?_;intro D E;have ab:D≠d:=λz=>by rw[z,J]at E;cases E
 refine IL (λi σ s=>∃v j,σ=[Ya (.ref t),v]/\aG A s/\s D=Ya (.lst j)/\j.length=B0 (G.take i) x c/\j.length<=i) ⟨Yb,[],rfl,aD E,ai,by simp[B0],Yj _⟩ ?_ ?_ ?_
 ·rintro i σ s _ ⟨_,_,_,z,_⟩;exact z _ _ J
 ·rintro i ky v σ s M ⟨v1,j,rfl,a,g,y,B⟩;obtain⟨q,V,rfl,rfl⟩:=Ks M;obtain⟨e,r,N,e1,W,e3⟩:=i5 l V;have hi:=(Yi.mp N).1;have O:r≠d:=λz=>H q (Yy V) (by rw[W,z]);have Q:=a _ _ (L _ _ O e3);have R:=a _ _ (L _ _ (bV T hd (by intro z;cases z)) T);rw[W];lia;refine⟨r,t,rfl,_,_,_,_,.inl Q,bC.of R,?_⟩;lia;refine du (λh1=>?_) λh1=>?_
  ·have h1:c<=ct e.2 x:=of_decide_eq_true h1;lia;refine⟨_,g,aJ (by omega),_,_,rfl,λb o z=>?_,ai,?_,?_⟩
   ·rw[ak (ay z E)];exact a b o z
   ·rw[Yq,y,Ei N,if_pos h1];rfl
   ·rw[Yq];exact Xb B
  ·have h1:¬ c<=ct e.2 x:=λz=>h1 (decide_eq_true z);exact⟨_,j,rfl,a,g,by rw[y,Ei N,if_neg h1];rfl,by omega⟩
 rintro σ s ⟨v1,j,rfl,a,g,y,B⟩;rw[rS,I,YM]at y;lia;refine⟨⟨o,a _ _ J⟩,?_⟩;rw[y];exact k _ (thaw_same (λb u n e=>a _ _ (L b u n e)) hd)
def qO(K:Yc)(mg:Yn->Option Yd):Sp:=λf H Q _=>∃(p a:Ye),f=[.ref p,.ref a]/\∃d rs c b ns,kQ K mg H p d rs c/\(bo K H a b∨bC K H a b)/\nZ H b ns/\ns.length<=1000/\∀e,aG H e->Q (.int (Na c ns)) e
abbrev CW:List Yn:=["self","places"]
theorem ie:aE ["self","places","so_many","name"] CW (ao l9):=eW
variable{qt:Ye}{oY:Yx}(qX:aF P w K mg base bx 3 qt oY DR (pf K mg))(qW:Binds K oY DR [])(fY:bB K cS "reach" qt)
include eV qX qW d5 aN aR fY in
theorem yX(F:bH K "sure" "Known.sure" l9 f fd):aF P w K mg base bx 4 f fd CW (qO K mg):=by
 refine F.oj ie ?_;rintro _ _ _ _ H _ _ _ B _ _ _ ⟨p,a,rfl,h⟩;refine⟨_,(aj (aX (i:=2) ie.nd rfl (YB rfl) ax)
   (aj (kC Ws rfl (Gk (K:=K) rfl (pv 1)) (aP (i:=3) ie.nd rfl (YB rfl))
   (aj (dg (bc Uv (aW uM ax (bP (bU.cons aN.cl fY qX qW bU.nil) (pv 0) B (aa (pv 3) af))) (bj Fu (by rfl) d5 Wr (aa (aH (K:=K) rfl (pv 0) rfl) af)) (bu _)) (au Mg) bD)
   (au (aX (i:=2) ie.nd rfl (YB rfl) (aW d0 (pv 2) ax)))))
   (au (aL (pv 2))))),?_⟩
 obtain⟨d,rs,b,V,ns,S,D,hn,W,k⟩:=h;have hl:=hn.len;have E:∀z:Int,Ba 2 z:=λz=>.inl ⟨by decide,by decide⟩;lia;refine Mr D (λi σ g=>∃v,σ=[Ya (.ref p),Ya (.ref a),Ya (.int i),v]/\aG H g/\∀k (s:k<ns.length),k<i->¬ 2*B0 b ns[k].2.1 ns[k].2.2<=b.length) ⟨Yb,rfl,aG.refl _,λ_ _ z=>absurd z (abg _)⟩ (λi l g _ z=>by obtain⟨_,_,z,_⟩:=z;exact z) ?_ ?_
 ·rintro i x σ g G ⟨v,rfl,c,e⟩;obtain⟨q,I,t,rfl,J⟩:=hn.get G;obtain⟨L,rfl⟩:=Yi.mp I;have u:=UU c S;obtain⟨⟨C,X,y,hp⟩,hd,m,M,O,Q⟩:=id u;rw[aR]at y;cases y;obtain⟨cl,n1⟩:=id aN;have n:rs.length=b.length:=Y0 m;lia;refine Ad (λl A=>l=[Ya (.ref p),Ya (.ref a),Ya (.int i),Ya (.ref t)]/\aG H A/\¬ 2*B0 b ns[i].2.1 ns[i].2.2<=b.length) ?_ λN R=>?_
  ·rintro l A ⟨rfl,o,r⟩;lia;refine⟨_,rfl,o,λk s h=>?_⟩;rcases XS k i with z|z
   ·exact e k s z
   ·obtain rfl:k=i:=by omega
    exact r
  ·have Y:=E (B0 b ns[i].2.1 ns[i].2.2);lia;refine⟨p,t,rfl,d,rs,b,_,_,_,u,c _ _ J,λZ j=>?_⟩;have T:=j _ _ hd;have U:=j _ _ hp;lia;rw[rS,n];refine du (λh1=>?_) λh1=>?_
   ·have h1:2*((B0 b ns[i].2.1 ns[i].2.2:Nat):Int)<=((b.length:Nat):Int):=of_decide_eq_true h1;have h1:2*B0 b ns[i].2.1 ns[i].2.2<=b.length:=by omega
    lia;have:=EG (tb:=b) (ns:=ns) e (by omega) λ_=>h1;rw[←this];exact k _ (c.trans j)
   ·have h1:¬ 2*((B0 b ns[i].2.1 ns[i].2.2:Nat):Int)<=((b.length:Nat):Int):=λz=>h1 (decide_eq_true z);exact R _ _ ⟨rfl,c.trans j,by omega⟩
 rintro σ g ⟨v,rfl,c,e⟩;lia;rw[hl]at e⊢;have:=EG (tb:=b) (ns:=ns) e (Yj _) λz=>absurd z (Y7 _);rw[←this];exact k _ c
def oS(K:Yc)(mg:Yn->Option Yd):Sp:=λc H Q _=>∃(p:Ye),c=[.ref p]/\∃d rs a,kQ K mg H p d rs a/\a≠[]/\a.length<=10/\∀b q j,aG H b->H q=Yb->b q=Ya (.dK (dI j))->Td j->(∀k,EX (a.map (·.2)) k (ct j k))->Q (.ref q) b
theorem Gb{H:Hp}:∀{rs:List (Int×V)} {tb:List (Int×List (Int×Int))},qo H rs tb->MG H ((dG rs).map (·.2)) (tb.map (·.2))
 |_,_,.nil=>.nil
 |_,_,.cons ⟨_,r,e2,e3⟩ t=>.cons ⟨r,e2,.inl e3⟩ (Gb t)
theorem yG:aE ["self"] aO (ao kj):=eW
variable{BQ:Ye}{zR:Yx}(DW:aF P w K mg base bx 3 BQ zR xW (zP K))(Dz:eD K mg "common" BQ zR xW)
include eV DW Dz iO aN aR in
theorem yq(F:bH K "floor" "Known.floor" kj f fd):aF P w K mg base bx 4 f fd aO (oS K mg):=by
 refine F.oj yG ?_;rintro _ _ _ _ H _ _ _ x _ _ _ ⟨p,rfl,h⟩;refine⟨_,(au (aL (a9 DW Dz x (aa (bO (EM rfl) (by rfl) iO W4 (aa (F4 WI WX aaK E8 (aH (K:=K) rfl (pv 0) rfl)) af)) af)))),?_⟩;obtain⟨d,rs,r,S,i,h10,k⟩:=h;obtain⟨⟨C,O,s,hp⟩,hd,a,y,n,A⟩:=id S;rw[aR]at s;cases s;obtain⟨cl,n1⟩:=id aN;have B:rs.length=r.length:=Y0 a;lia;refine⟨d,_,rfl,rfl,hd,λv D=>?_⟩;have b:=aD (o:=GO v d) D;have t:(upd H v (GO v d)) v=Ya (GO v d):=ai;generalize upd H v (GO v d)=H1 at b t⊢;lia;refine⟨v,d,_,rfl,t,.inl (b _ _ hd),by rw[rS];omega,λl hl=>?_⟩;have g:=aD (o:=.lst ((dG rs).map (·.2))) hl;have u:(upd H1 l (.lst ((dG rs).map (·.2)))) l=Ya (.lst ((dG rs).map (·.2))):=ai;generalize upd H1 l (.lst ((dG rs).map (·.2)))=H2 at g u⊢;lia;have c:r.map (·.2)≠[]:=λz=>i (XY.mp z);refine⟨l,_,_,rfl,bo.of u,Gb (fg (λ_ _ q=>g _ _ (b _ _ q)) a),λm hm=>?_,by rw[Yf];exact h10,λE q j G I J L _ M=>?_⟩
 ·obtain⟨e,N,rfl⟩:=YL.mp hm;exact(n e N).toCk
 ·exact k E q j (b.trans (g.trans G)) (b.free (g.free I)) J L (M c)
def kP(H:Hp)(v:V)(x:bM):Prop:=∃a t b,v=.ref a/\H a=Ya (.tup [.int x.n,.int x.c,.int x.k,.str x.kd,.int x.w,.ref t])/\H t=Ya (.tup b)/\i6 H b x.cs
structure Wf(x:bM):Prop where
 kd:x.kd="own"∨x.kd="heard"∨x.kd="one"
 w:(if x.w<0 then-x.w else x.w)<10^(60:Int).toNat
 cs:Ck x.cs
 ow:x.kd="own"->x.cs=[]
 c0:0<=x.c
 c1:x.c<63
variable{cs:List bM}{kd:Yn}
abbrev Vy(H:Hp):List V->List bM->Prop:=Paired (kP H)
theorem kP.up(s:dF H H'){x:bM}(h:kP H v x):kP H' v x:=by
 obtain⟨a,t,b,c,d,e,f⟩:=h;exact⟨a,t,b,c,s _ _ d,s _ _ e,f.mono s⟩
def Qh(x:bM):Xt:=.tuple [.int x.n,.int x.c,.int x.k,.str x.kd,.int x.w,.tuple (x.cs.map JE)]
theorem kP.dp{K:Yc}{x:bM}(h:kP H v x):Dp K H v (Qh x):=by
 obtain⟨a,t,e,rfl,b,c,d⟩:=h;exact .tup (bC.of b) (.cons (.int _) (.cons (.int _) (.cons (.int _) (.cons (.str _) (.cons (.int _) (.cons (.tup (bC.of c) d.dps) .nil))))))
theorem Vy.dps{K:Yc}{H:Hp}:∀{vs:List V} {cs:List bM},Vy H vs cs->CL K H vs (cs.map Qh)
 |_,_,.nil=>.nil
 |_,_,.cons r t=>.cons r.dp (Vy.dps t)
theorem KL{x:bM}(wf:Wf x):(Qh x).canLay0=true:=by
 have e:PyData.strOk x.kd=true:=by
  rcases wf.kd with h|h|h<;>rw[h]<;>decide +kernel
 simp[Qh,acV,WD,Be,e]
theorem GN:∀{cs:List bM},(∀x∈cs,Wf x)->WD (cs.map Qh)=true
 |[],_=>rfl
 |p::ns,h=>by rw[Yz,Xy,KL (h p Ys),GN λx a=>h x (Yp _ a)];rfl
theorem RH(x:bM):(Qh x).depth<=60:=by
 have e:(Qh x).depth=X7 [.int x.n,.int x.c,.int x.k,.str x.kd,.int x.w,.tuple (x.cs.map JE)]+ 1:=rfl;have a:X7 [.int x.n,.int x.c,.int x.k,.str x.kd,.int x.w,.tuple (x.cs.map JE)]=max 0 (max 0 (max 0 (max 0 (max 0 (max (X7 (x.cs.map JE)+ 1) 0))))):=rfl;have:=GC x.cs;rw[e,a];omega
def mZ(K:Yc):Sp:=λa H Q _=>∃(p:Ye),a=[.ref p]/\Q (.str "own") H
def jQ(K:Yc):Sp:=λa H Q _=>∃(p:Ye),a=[.ref p]/\Q (.str "heard") H
def ny(K:Yc):Sp:=λa H Q _=>∃(p:Ye),a=[.ref p]/\Q (.str "one") H
theorem vX:aE ["self"] aO (ao jf):=eW
include eV in
theorem wt(F:bH K "kind" "OwnCall.kind" jf f fd):aF P w K mg base bx 1 f fd aO (mZ K):=by
 refine F.oj vX ?_;rintro _ _ _ _ _ _ _ _ _ _ _ _ ⟨p,rfl,h⟩;refine⟨_,(au (aL gF)),?_⟩;lia;exact h
theorem ud:aE ["self"] aO (ao gP):=eW
include eV in
theorem tQ(F:bH K "kind" "HeardCall.kind" gP f fd):aF P w K mg base bx 1 f fd aO (jQ K):=by
 refine F.oj ud ?_;rintro _ _ _ _ _ _ _ _ _ _ _ _ ⟨p,rfl,h⟩;refine⟨_,(au (aL gF)),?_⟩;lia;exact h
theorem wo:aE ["self"] aO (ao jx):=eW
include eV in
theorem vZ(F:bH K "kind" "OneCall.kind" jx f fd):aF P w K mg base bx 1 f fd aO (ny K):=by
 refine F.oj wo ?_;rintro _ _ _ _ _ _ _ _ _ _ _ _ ⟨p,rfl,h⟩;refine⟨_,(au (aL gF)),?_⟩;lia;exact h
def mI(K:Yc)(mg:Yn->Option Yd):Sp:=λb H Q _=>∃(v:V),b=[v]/\∃x,gK K mg H v x/\∀a t,aG H a->H t=Yb->kP a (.ref t) x->Q (.ref t) a
theorem Ar:aE ["self"] aO (ao pF):=eW
variable{pN:Ye}{kW:Ye}{p4:Ye}{mU:Yx}{jH:Yx}{nR:Yx}(oZ:aF P w K mg base bx 1 pN mU aO (mZ K))(pS:Binds K mU aO [])(lF:aF P w K mg base bx 1 kW jH aO (jQ K))(lA:Binds K jH aO [])(o8:aF P w K mg base bx 1 p4 nR aO (ny K))(pU:Binds K nR aO [])(d8:bB K bf "kind" kW)(fu:bB K bF "kind" p4)(fE:bB K bE "kind" pN)
include eV oZ pS lF lA o8 pU av az aA aw aB aC d8 fu fE in
theorem Bw(F:bH K "told" "Call.told" pF f fd):aF P w K mg base bx 2 f fd aO (mI K mg):=by
 refine F.oj Ar ?_;rintro _ _ _ _ H _ _ _ q _ _ _ ⟨v,rfl,h⟩;refine⟨_,(au (aL (cv (aa (aH (K:=K) rfl (pv 0) rfl) (aa (aH (K:=K) rfl (pv 0) rfl) (aa (aH (K:=K) rfl (pv 0) rfl) (aa (bA (bU.cons aA.cl fE oZ pS (bU.cons av.cl d8 lF lA (bU.cons az.cl fu o8 pU bU.nil))) (pv 0) q) (aa (aH (K:=K) rfl (pv 0) rfl) (aa (aH (K:=K) rfl (pv 0) rfl) af))))))))),?_⟩;obtain⟨x,⟨p,C,r,t,j,rfl,l,s,hp,m,d,y⟩,o⟩:=h;obtain⟨kd,n,c,k,w,cs⟩:=x;have l:Rq mg kd C:=l;have hp:H p=Ya (.ins C r (uk (.int n) (.int c) (.int k) (.int w) (.ref t))):=hp;have d:i6 H j cs:=d;obtain⟨cl,n1,n2,n3,n4,n5⟩:=id s;rcases l with⟨rfl,e⟩|⟨rfl,e⟩|⟨rfl,e⟩
 ·rw[aC]at e;cases e;lia;refine⟨p,rfl,?_⟩;lia;intro u g a b i;exact o g u b a ⟨u,t,j,rfl,i,b _ _ m,d.mono (dF.same b)⟩
 ·rw[aw]at e;cases e;lia;refine⟨p,rfl,?_⟩;lia;intro u g a b i;exact o g u b a ⟨u,t,j,rfl,i,b _ _ m,d.mono (dF.same b)⟩
 ·rw[aB]at e;cases e;lia;refine⟨p,rfl,?_⟩;lia;intro u g a b i;exact o g u b a ⟨u,t,j,rfl,i,b _ _ m,d.mono (dF.same b)⟩
def wU(K:Yc)(mg:Yn->Option Yd):Sp:=λb H Q _=>∃(v:V),b=[v]/\∃x,kP H v x/\Wf x/\∀a p,aG H a->H p=Yb->gK K mg a (.ref p) x->Q (.ref p) a
theorem EL:aE ["told"] ["told"] (ao u0):=eW
variable{pO:Ye}{mL:Yx}(vh:aF P w K mg base bx 4 pO mL HU (mC K mg))(jM:eD K mg "make_call" pO mL HU)
include eV vh jM av az aA aw aB aC in
theorem FI(F:bH K "call_of" "call_of" u0 f fd):aF P w K mg base bx 5 f fd ["told"] (wU K mg):=by
 refine F.oj EL ?_;rintro _ _ _ _ H _ _ _ i _ _ _ ⟨v,rfl,h⟩;refine⟨_,(au (aL (a9 vh jM i (aa (bp (br (K:=K) rfl) (pv 0) ax (λ_ _=>rfl)) (aa (bp (br (K:=K) rfl) (pv 0) ax (λ_ _=>rfl)) (aa (bp (br (K:=K) rfl) (pv 0) ax (λ_ _=>rfl)) (aa (bp (br (K:=K) rfl) (pv 0) ax (λ_ _=>rfl)) (aa (bp (br (K:=K) rfl) (pv 0) ax (λ_ _=>rfl)) (aa (bp (br (K:=K) rfl) (pv 0) ax (λ_ _=>rfl)) af))))))))),?_⟩;obtain⟨x,⟨ta,e,j,rfl,h1,h2,h3⟩,a,k⟩:=h;have st:bC K H ta [.int x.n,.int x.c,.int x.k,.str x.kd,.int x.w,.ref e]:=bC.of h1;lia;refine⟨x.n,x.c,x.k,x.kd,x.w,e,rfl,j,a.kd,a.w,h2,λl p C m n g hp b tc c d=>?_⟩;refine k l p g hp ⟨p,C,m,n,_,rfl,b,tc,c,d,?_,a.cs⟩;by_cases z:x.kd="own"
 ·rw[if_pos z,a.ow z];exact .nil
 ·rw[if_neg z];exact h3.mono (dF.same g)
abbrev xZ:YT:=eX 45
abbrev uo:YT:=eX 35
abbrev AY:YT:=eX 21
structure Pg where
 me:Int
 nu:Int
 ha:Int
 ro:Int
 ma:Int
 dn:List (Int×Int)
 tk:List (V×bM)
 kp:List (V×bM)
 od:List Nm
 ta:List (Int×List (Int×Int))
 ab:List (Int×List (Int×Int))
variable{S S':Pg}
structure P7 where
 d:Ye
 t:Ye
 k:Ye
 o:Ye
 ta:Ye
 da:Ye
 ab:Ye
 db:Ye
 ra:List (Int×V)
 rb:List (Int×V)
variable{x x':P7}{k:List bK}{d t:Ye}
def rwa(rs:List (Int×V)):List Ye:=rs.filterMap λq=>match q.2 with| .ref r=>Ya r|_=>Yb
theorem df{rs:List (Int×V)}:r∈rwa rs↔∃q∈rs,q.2=.ref r:=by
 unfold rwa;rw[aaC];constructor
 ·rintro⟨q,a,e⟩;refine⟨q,a,?_⟩;split at e
  ·rename_i c b;cases e;exact b
  ·cases e
 ·rintro⟨q,a,e⟩;exact⟨q,a,by rw[e]⟩
def P7.ft(x:P7)(p:Ye):List Ye:=[p,x.d,x.t,x.k,x.o,x.ta,x.da,x.ab,x.db]++(rwa x.ra++rwa x.rb)
def eu(x:bM):List bK:=[YD x.n,YD x.c,YD x.k]
def BC(q:V×bM):List bK×V:=(eu q.2,q.1)
structure gL(K:Yc)(mg:Yn->Option Yd)(H:Hp)(p:Ye)(S:Pg)(x:P7):Prop where
 ob:∃C dx,mg "Page"=Ya (.ref C)/\zU K C/\H p=Ya (.ins C dx (qq (.int S.me) (.int S.nu) (.int S.ha) (.int S.ro) (.int S.ma) (.ref x.d) (.ref x.t) (.ref x.k) (.ref x.o) (.ref x.ta) (.ref x.ab)))
 dn:H x.d=Ya (.dK (dI S.dn))
 td:Td S.dn
 tk:H x.t=Ya (.lst (S.tk.map (·.1)))
 tc:∀q∈S.tk,gK K mg H q.1 q.2
 kp:H x.k=Ya (.dT (S.kp.map BC))
 kc:∀q∈S.kp,gK K mg H q.1 q.2
 kn:(S.kp.map λq=>eu q.2).Nodup
 kr:∀q∈S.kp,0<=q.2.c/\q.2.c<63
 od:∃xs,H x.o=Ya (.lst xs)/\nZ H xs S.od
 ta:kQ K mg H x.ta x.da x.ra S.ta
 ab:kQ K mg H x.ab x.db x.rb S.ab
 to:x.t≠x.o
 dd:x.d≠x.da/\x.d≠x.db/\x.da≠x.db
 rr:∀q∈x.ra++x.rb,q.2≠V.ref x.d/\q.2≠V.ref x.da/\q.2≠V.ref x.db
 me:0<=S.me/\S.me<63
 ha:0<=S.ha/\S.ha<9223372036854775808
variable{dn:List (Int×Int)}
def Th:HO->Prop
 | .dK _=>True
 | .lst _=>True
 | .dT _=>True
 | .ins _ _ fs=>fs.length≠5
 |_=>False
theorem gL.fto(h:gL K mg H p S x):∀a∈x.ft p,∃o,H a=Ya o/\Th o:=by
 intro a ha;unfold P7.ft at ha;obtain⟨C,n,_,_,hp⟩:=h.ob;obtain⟨⟨s,f,_,h1⟩,h2,h3,_⟩:=h.ta;obtain⟨⟨t,g,_,h4⟩,h5,h6,_⟩:=h.ab;obtain⟨u,ho,_⟩:=h.od;have b:∀{rs:List (Int×V)} {c:List (Int×List (Int×Int))},qo H rs c->a∈rwa rs->∃o,H a=Ya o/\Th o:=fun{rs c} rw j=>by
  obtain⟨q,k,e⟩:=df.mp j;obtain⟨i,l⟩:=YR k;obtain⟨_,r,_,_,d,m⟩:=i5 rw l;rw[e]at d;cases d;exact⟨_,m,trivial⟩
 rcases YG.mp ha with z|z
 ·simp only[Ym,uc,or_false]at z;rcases z with rfl|rfl|rfl|rfl|rfl|rfl|rfl|rfl|rfl
  ·exact⟨_,hp,by show(11:Nat)≠5;decide⟩
  ·exact⟨_,h.dn,trivial⟩
  ·exact⟨_,h.tk,trivial⟩
  ·exact⟨_,h.kp,trivial⟩
  ·exact⟨_,ho,trivial⟩
  ·exact⟨_,h1,by show(1:Nat)≠5;decide⟩
  ·exact⟨_,h2,trivial⟩
  ·exact⟨_,h4,by show(1:Nat)≠5;decide⟩
  ·exact⟨_,h5,trivial⟩
 ·rcases YG.mp z with z|z
  ·exact b h3 z
  ·exact b h6 z
def Off(F:List Ye)(H a:Hp):Prop:=∀b o,H b=Ya o->b∉F->a b=Ya o
theorem Off.refl(F:List Ye)(H:Hp):Off F H H:=λ_ _ e _=>e
theorem Off.same{C:Hp}(a:Off F A B)(s:aG B C):Off F A C:=λb o e n=>s _ _ (a b o e n)
theorem Off.of(s:aG A B):Off F A B:=λb o e _=>s _ _ e
def lQ(H a:Hp):Prop:=∀b o,H b=Ya o->¬ Th o->a b=Ya o
theorem lQ.same(s:aG H H'):lQ H H':=λb o e _=>s _ _ e
theorem lQ.smh(k:lQ H H'):dF H H':=λb a e=>k _ _ e (by intro z;exact z)
theorem i4(o:Off F H H')(h:∀a∈F,∃u,H a=Ya u/\Th u):lQ H H':=λb u e n=>o b u e λz=>by
 obtain⟨v,c,d⟩:=h b z;rw[e]at c;cases c;exact n d
theorem gK.kpf(s:lQ H H'){x:bM}(h:gK K mg H v x):gK K mg H' v x:=by
 obtain⟨p,C,a,t,b,c,d,e,f,g,i,j⟩:=h;exact⟨p,C,a,t,b,c,d,e,s _ _ f (by intro z;exact z rfl),s _ _ g (by intro z;exact z),i.mono s.smh,j⟩
theorem iG{rs:List (Int×V)}(h:kQ K mg H p d rs tb)(o:Off F H H')(hp:p∉F)(hd:d∉F)(c:∀r∈rwa rs,r∉F):kQ K mg H' p d rs tb:=by
 obtain⟨⟨C,f,e,h1⟩,h2,h3,h4,h5,h6⟩:=h;refine⟨⟨C,f,e,o _ _ h1 hp⟩,o _ _ h2 hd,?_,h4,h5,h6⟩;have go:∀{rs:List (Int×V)} {tb:List (Int×List (Int×Int))},qo H rs tb->(∀q∈rs,∀r,q.2=.ref r->r∉F)->qo H' rs tb:=by
  intro rs tb h
  induction h with
  |nil=>intro _;exact .nil
  |cons r t ih=>
   intro n;obtain⟨e,g,b,i⟩:=r;exact .cons ⟨e,g,b,o _ _ i (n _ Ys _ b)⟩ (ih λq a=>n q (Yp _ a))
 exact go h3 λq a r e=>c r (df.mpr ⟨q,a,e⟩)
theorem gL.off(h:gL K mg H p S x)(o:Off F H H')(k:lQ H H')(n:∀a∈x.ft p,a∉F):gL K mg H' p S x:=by
 obtain⟨C,d,e,f,hp⟩:=h.ob;obtain⟨g,ho,hn⟩:=h.od;have m:∀{a},a∈[p,x.d,x.t,x.k,x.o,x.ta,x.da,x.ab,x.db]->a∉F:=λha=>n _ (Y1 _ ha);refine⟨⟨C,d,e,f,o _ _ hp (m (by simp))⟩,o _ _ h.dn (m (by simp)),h.td,o _ _ h.tk (m (by simp)),λq b=>(h.tc q b).kpf k,o _ _ h.kp (m (by simp)),λq b=>(h.kc q b).kpf k,h.kn,h.kr,⟨g,o _ _ ho (m (by simp)),hn.up k.smh⟩,
  iG h.ta o (m (by simp)) (m (by simp)) (λr c=>n r (YF _ (Y1 _ c))),iG h.ab o (m (by simp)) (m (by simp)) (λr c=>n r (YF _ (YF _ c))),h.to,h.dd,h.rr,h.me,h.ha⟩
theorem gL.same(h:gL K mg H p S x)(s:aG H H'):gL K mg H' p S x:=h.off (F:=[]) (Off.of s) (.same s) λ_ _ z=>nomatch z
def zO(K:Yc)(mg:Yn->Option Yd):Sp:=λa H Q _=>∃(v:V),a=[v]/\∃x,gK K mg H v x/\Q (.str (if x.kd="one"then "sure"else "ready")) H
theorem JD:aE ["call"] pq (ao xZ):=eW
variable(eF:aF P w K mg base bx 1 d7 fK aO (fL K))(fN:aF P w K mg base bx 1 eJ dY aO (dZ K))
include eV eF bG fN bT av az aA aw aB aC aQ a8 a7 in
theorem Jc(F:bH K "why_of" "why_of" xZ f fd):aF P w K mg base bx 2 f fd pq (zO K mg):=by
 refine F.oj JD ?_;rintro _ _ _ _ H _ Q _ d _ _ _ ⟨v,rfl,h⟩;refine⟨_,(au (aL (xv (cK K rfl (bA (bU.cons aA.cl a7 eF bG (bU.cons av.cl aQ eF bG (bU.cons az.cl a8 fN bT bU.nil))) (pv 0) d)) gF gF))),?_⟩;obtain⟨x,⟨p,C,g,t,l,rfl,b,m,hp,o,i,j⟩,a⟩:=h;obtain⟨kd,n,c,k,w,cs⟩:=x;have b:Rq mg kd C:=b;have hp:H p=Ya (.ins C g (uk (.int n) (.int c) (.int k) (.int w) (.ref t))):=hp;have a:Q (.str (if kd="one"then "sure"else "ready")) H:=a;rcases b with⟨rfl,e⟩|⟨rfl,e⟩|⟨rfl,e⟩
 ·rw[aC]at e;cases e;rw[if_neg (by decide +kernel)]at a;lia;refine⟨p,rfl,?_⟩;lia;exact a
 ·rw[aw]at e;cases e;rw[if_neg (by decide +kernel)]at a;lia;refine⟨p,rfl,?_⟩;lia;exact a
 ·rw[aB]at e;cases e;rw[if_pos rfl]at a;lia;refine⟨p,rfl,?_⟩;lia;exact a
def xY(K:Yc)(mg:Yn->Option Yd):Sp:=λe H Q _=>∃(a:Ye),e=[.ref a]/\∃c cs,bo K H a c/\CZ K mg H c cs/\c.length<64/\∀d D b,aG H d->H D=Yb->b.Perm c->AU (cs.map λx=>[x.c,x.k]) c b->d D=Ya (.lst b)->Q (.ref D) d
theorem FW:aE ["calls"] ["calls"] (ao uo):=eW
include eV iU fO iA av az aA aw aB aC in
theorem E4(F:bH K "by_rank" "by_rank" uo f fd):aF P w K mg base bx 4 f fd ["calls"] (xY K mg):=by
 refine F.oj FW ?_;rintro _ _ _ _ _ _ _ _ g _ _ _ ⟨a,rfl,h⟩;refine⟨_,(au (aL (BJ (K:=K) rfl (aa (pv 0) af) (by rfl) iA iU fO.mg fO.bd (by rfl) g))),?_⟩;obtain⟨d,cs,j,e,hl,l⟩:=h;have m:d.length=cs.length:=Y0 e;lia;refine⟨a,d,cs.map λx=>[x.c,x.k],rfl,j,hl,by rw[Yf];exact m,λk b=>?_,λi v k G H n b o p=>?_,λD c q r s od s' u=>?_⟩
 ·obtain⟨x,_,rfl⟩:=YL.mp b;intro z;cases z
 ·obtain⟨x,y,A⟩:=dD e n;rw[Yv,y]at b;cases b;exact⟨v,rfl,x,A.up (.same o),λB t C _ E=>p B t C (bC.of E)⟩
 ·exact l q D c s' r s od u
def zk(n:Int):V:=match GB.hl n with|[]=>.non|a::_=>.int a
def BW(K:Yc):Sp:=λb H Q _=>∃n:Int,b=[.int n]/\0<=n/\n<9223372036854775808/\∀a,aG H a->Q (zk n) a
theorem MS:aE ["hands"] rj (ao AY):=eW
include eV l7 mq vy in
theorem Kf(F:bH K "least" "least" AY f fd):aF P w K mg base bx 4 f fd rj (BW K):=by
 refine F.oj MS ?_;rintro _ _ _ _ _ _ _ _ j _ _ _ ⟨n,rfl,h⟩;refine⟨_,(au (aL (HP (Ih rfl) (by rfl) vy aam (aa (a9 l7 mq j (aa (pv 0) af)) af) (ND pX SS)))),?_⟩;obtain⟨h0,h1,d⟩:=h;lia;refine US ?_;lia;refine⟨n,rfl,h0,h1,λg l hl i k=>?_⟩;lia;refine⟨l,GB.hl n,_,rfl,rfl,bo.of k,λe=>?_,λb c hm=>?_⟩
 ·have:=d g i;unfold zk at this;rw[e]at this;exact this
 ·have:=d g i;unfold zk at this;cases e:GB.hl n with
  |nil=>rw[e]at c;cases c
  |cons a r=>
   rw[e]at this;have m:=GB.Kc e b c;have o:=hm a (by rw[e];exact Ys);have:b=a:=by omega
   subst this;assumption
abbrev iN:YT:=bz (eX 46) 0
def Pg.new(me nu ha ro:Int):Pg:=⟨me,nu,ha,ro,0,[],[],[],[],(GB.hl ha).map λh=>(h,[]),(GB.hl ha).map λh=>(h,[])⟩
theorem PN(n:Int):Hs (GB.hl n):=by
 refine⟨?_,λx c=>?_⟩
 ·unfold GB.hl;exact List.Pairwise.map _ (λa b h=>by have:a<b:=h;omega) (GB.jI n.toNat)
 ·unfold GB.hl at c;obtain⟨h,d,rfl⟩:=YL.mp c;have:=(GB.DV.mp d).1;omega
def lB(K:Yc)(mg:Yn->Option Yd):Sp:=λd H Q _=>∃(p:Ye) (me nu ha ro:Int),d=[.ref p,.int me,.int nu,.int ha,.int ro]/\∃C e,mg "Page"=Ya (.ref C)/\zU K C/\H p=Ya (.ins C e [])/\0<=ha/\ha<9223372036854775808/\0<=me/\me<63/\
 ∀c x,(∀b o,H b=Ya o->b≠p->c b=Ya o)->gL K mg c p (Pg.new me nu ha ro) x->(∀a∈x.ft p,a=p∨H a=Yb)->Q .non c
abbrev DH:List Yn:=["self","me","number","hands","room"]
theorem um:aE ["self","me","number","hands","room"] DH (ao iN):=eW
variable{kX:Ye}{jK:Yx}(gO:aF P w K mg base bx 4 kX jK BG (j6 K))(gY:Binds K jK BG [])(sV:Mk K cS kX)
include eV gO gY aN aR sV in
theorem uL(F:bH K "__init__" "Page.__init__" iN f fd):aF P w K mg base bx 6 f fd DH (lB K mg):=by
 refine F.oj um ?_;rintro _ A _ s H _ _ _ hr _ _ _ ⟨p,me,nu,ha,ro,rfl,h⟩;refine⟨_,(aj (cF (K:=K) rfl (pv 0) (pv 1) rfl)
   (aj (cF (K:=K) rfl (pv 0) (pv 2) rfl)
   (aj (cF (K:=K) rfl (pv 0) (pv 3) rfl)
   (aj (cF (K:=K) rfl (pv 0) (pv 4) rfl)
   (aj (cF (K:=K) rfl (pv 0) ax rfl)
   (aj (cF (K:=K) rfl (pv 0) pE rfl)
   (aj (cF (K:=K) rfl (pv 0) (dQ af) rfl)
   (aj (cF (K:=K) rfl (pv 0) Ek rfl)
   (aj (cF (K:=K) rfl (pv 0) (dQ af) rfl)
   (aj (cF (K:=K) rfl (pv 0) (qd sV gO hr rfl aR gY .nil nH (aa (pv 3) af)) rfl)
   (au (cF (K:=K) rfl (pv 0) (qd sV gO hr rfl aR gY .nil nH (aa (pv 3) af)) rfl)))))))))))),?_⟩
 obtain⟨C,dx,mP,T,hp,h0,h1,m0,m1,kk⟩:=h;obtain⟨cl,n1,n2,n3,n4,n5,n6,n7,n8,n9,n10,n11⟩:=id T;lia;intro H1 b1 g1;lia;intro H2 b2 g2;lia;intro H3 b3 g3;lia;intro H4 b4 g4;lia;intro H5 b5 g5;have k5:∀b o,H b=Ya o->b≠p->H5 b=Ya o:=λb o e n=>b5.at n (b4.at n (b3.at n (b2.at n (b1.at n e))));lia;intro d A1 hd s1 gd;have bg:=s1 _ _ g5;lia;intro H6 b6 g6;lia;intro t A2 ht s2 gt;have bh:=s2 _ _ g6;lia;intro H7 b7 g7;lia;intro k hk;have s3:=aD (o:=.dT []) hk;have gk:(upd H7 k (.dT [])) k=Ya (.dT []):=ai;generalize upd H7 k (.dT [])=A3 at s3 gk⊢;have bi:=s3 _ _ g7;lia;intro H8 b8 g8;lia;intro o A4 ho s4 go;have bl:=s4 _ _ g8;lia;intro M b9 g9;have st:∀{A B:Hp},FC p A B->∀b u,A b=Ya u->b≠p->B b=Ya u:=λs b u e n=>s.at n e;have k9:∀b u,H b=Ya u->b≠p->M b=Ya u:=λb u e n=>b9.at n (s4 _ _ (b8.at n (s3 _ _ (b7.at n (s2 _ _ (b6.at n (s1 _ _ (k5 b u e n))))))));have np:∀{a:Ye} {A:Hp} {u:HO},A p=Ya u->A a=Yb->a≠p:=λe n z=>by rw[z]at n;rw[n]at e;cases e
 have j:=np g5 hd;have x:=np g6 ht;have N:=np g7 hk;have ab:=np g8 ho;have y:M d=Ya (.dK []):=b9.at j (s4 _ _ (b8.at j (s3 _ _ (b7.at j (s2 _ _ (b6.at j gd))))));have a2:M t=Ya (.lst []):=b9.at x (s4 _ _ (b8.at x (s3 _ _ (b7.at x gt))));have a3:M k=Ya (.dT []):=b9.at N (s4 _ _ (b8.at N gk));have a4:M o=Ya (.lst []):=b9.at ab go;have back:∀{a:Ye},a≠p->M a=Yb->H a=none:=fun{a} n e=>by
  cases z:H a with
  |none=>rfl
  |some u=>rw[k9 a u z n]at e;cases e
 have a5:∀{a:Ye},a≠p->H5 a=Yb->H a=none:=fun{a} n e=>by
  cases z:H a with
  |none=>rfl
  |some u=>rw[k5 a u z n]at e;cases e
 have fd:=a5 j hd;have k6:∀b u,H b=Ya u->b≠p->H6 b=Ya u:=λb u e n=>b6.at n (s1 _ _ (k5 b u e n));have k7:∀b u,H b=Ya u->b≠p->H7 b=Ya u:=λb u e n=>b7.at n (s2 _ _ (k6 b u e n));have k8:∀b u,H b=Ya u->b≠p->H8 b=Ya u:=λb u e n=>b8.at n (s3 _ _ (k7 b u e n));have fr:∀{a:Ye} {A:Hp},(∀b u,H b=Ya u->b≠p->A b=Ya u)->a≠p->A a=Yb->H a=none:=fun{a A} kA n e=>by
  cases z:H a with
  |none=>rfl
  |some u=>rw[kA a u z n]at e;cases e
 have ft:=fr k6 x ht;have fk:=fr k7 N hk;have fo:=fr k8 ab ho;lia;intro q1 e1 A5 ac s5 a6;have ad:=s5 _ _ g9;refine⟨q1,ha,rfl,_,e1,aN,a6,h0,h1,λA6 da ra av gq a7 a8 aw D az=>⟨rfl,?_⟩⟩;have O:q1≠p:=np g9 ac;have aA:=av _ _ ad (cT O);lia;intro l Q ae;have R:∀b u,M b=Ya u->b≠p->b≠q1->l b=Ya u:=λb u e n1 n2=>Q.at n1 (av _ _ (s5 _ _ e) n2);lia;intro q2 e2 A7 ag Y ba;have E:=Y _ _ ae;refine⟨q2,ha,rfl,_,e2,aN,ba,h0,h1,λA8 db rb aB bb bd be aC c G=>⟨rfl,?_⟩⟩;have ah:q2≠p:=np ae ag;have al:=aB _ _ E (cT ah);lia;intro v S aI;rw[OE]at aI;have U:∀b u,l b=Ya u->b≠p->b≠q2->v b=Ya u:=λb u e n1 n2=>S.at n1 (aB _ _ (Y _ _ e) n2);have W:∀{a u},M a=Ya u->a≠q1:=λe z=>by rw[z,ac]at e;cases e
 have X:∀{a u},l a=Ya u->a≠q2:=λe z=>by rw[z,ag]at e;cases e
 have up:∀{a u},M a=Ya u->a≠p->v a=Ya u:=fun{a u} e n=>by
  have aK:=R _ _ e n (W e);exact U _ _ aK n (X aK)
 have am:da≠p:=λz=>by rw[z,ad]at D;cases D
 have aQ:db≠p:=λz=>by rw[z,E]at c;cases c
 have Z:l q1=Ya (.ins _ _ [("learnt",.ref da)]):=Q.at O gq;have aS:=U _ _ Z O (X Z);have g:l da=Ya (.dK (dG ra)):=Q.at am a7;have an:=U _ _ g am (X g);have bf:∀{A B:Hp} {rs:List (Int×V)} {tb:List (Int×List (Int×Int))},qo A rs tb->(∀r m,A r=Ya (.dK (dI m))->B r=Ya (.dK (dI m)))->qo B rs tb:=λh k=>fg k h;have I:qo l ra _:=fg (λr m e=>Q.at (λz=>by rw[z,aA]at e;cases e) e) a8;have ap:qo v ra _:=fg (λr m e=>U _ _ e (λz=>by rw[z,ae]at e;cases e) (X e)) I;have aq:qo v rb _:=fg (λr m e=>S.at (λz=>by rw[z,al]at e;cases e) e) be;have ar:v db=Ya (.dK (dG rb)):=S.at aQ bd;have as:=S.at ah bb;have aU:(((GB.hl ha).map λh=>(h,([]:List (Int×Int)))).map (·.1))=GB.hl ha:=by
  rw[xw];exact aaN _
 have aV:∀e∈((GB.hl ha).map λh=>(h,([]:List (Int×Int)))),Td e.2:=λe he=>by
  obtain⟨h,_,rfl⟩:=YL.mp he;exact Td.nil
 have kA:kQ K mg v q1 da ra ((GB.hl ha).map λh=>(h,[])):=⟨⟨_,_,aR,aS⟩,an,ap,by rw[aU];exact PN ha,aV,aw⟩;have kB:kQ K mg v q2 db rb ((GB.hl ha).map λh=>(h,[])):=⟨⟨_,_,aR,as⟩,ar,aq,by rw[aU];exact PN ha,aV,aC⟩;have aY:∀{a:Ye},A5 a=Yb->M a=none:=λe=>s5.free e;have a0:∀{a:Ye},A7 a=Yb->l a=none:=λe=>Y.free e;have J:∀{a:Ye},a≠p->l a=Yb->H a=none:=fun{a} n e=>by
  cases z:H a with
  |none=>rfl
  |some u=>
   have e9:=k9 a u z n;rw[R _ _ e9 n (W e9)]at e;cases e
 refine kk v ⟨d,t,k,o,q1,da,q2,db,ra,rb⟩ (λb u e n=>up (k9 b u e n) n) ⟨⟨C,dx,mP,T,aI⟩,up y j,Td.nil,up a2 x,(λq L=>nomatch L),up a3 N,(λq L=>nomatch L),.nil,(λq L=>nomatch L),⟨[],up a4 ab,.nil⟩,kA,kB,?_,⟨?_,?_,?_⟩,λq L=>?_,⟨m0,m1⟩,⟨h0,h1⟩⟩ λa ha=>?_
 ·intro z;have z:t=o:=z;have:H8 o=Ya (.lst []):=by rw[←z];exact b8.at x (s3 _ _ (b7.at x gt))
  rw[ho]at this;cases this
 ·intro z;have z:d=da:=z;rw[←z,s5 _ _ y]at D;cases D
 ·intro z;have z:d=db:=z;rw[←z,Y _ _ (R _ _ y j (W y))]at c;cases c
 ·intro z;have z:da=db:=z;rw[←z,Y _ _ g]at c;cases c
 ·rcases YG.mp L with z|z
  ·refine⟨λw=>?_,aw q z,λw=>?_⟩
   ·have:=az q z _ w;rw[s5 _ _ y]at this;cases this
   ·obtain⟨i,hi⟩:=YR z;obtain⟨_,r,_,_,a1,e3⟩:=i5 I hi;rw[w]at a1;cases a1;rw[Y _ _ e3]at c;cases c
  ·refine⟨λw=>?_,λw=>?_,aC q z⟩
   ·have:=G q z _ w;rw[Y _ _ (R _ _ y j (W y))]at this;cases this
   ·have:=G q z _ w;rw[Y _ _ g]at this;cases this
 ·rcases YG.mp ha with z|z
  ·simp only[Ym,uc,or_false]at z;rcases z with rfl|rfl|rfl|rfl|rfl|rfl|rfl|rfl|rfl
   ·exact .inl rfl
   ·exact .inr fd
   ·exact .inr ft
   ·exact .inr fk
   ·exact .inr fo
   ·exact .inr (back O ac)
   ·exact .inr (back am (aY D))
   ·exact .inr (J ah ag)
   ·exact .inr (J aQ (a0 c))
  ·rcases YG.mp z with z|z
   ·obtain⟨q,L,e⟩:=df.mp z;have n:=az q L _ e;exact .inr (back (λw=>by rw[w,ad]at n;cases n) (aY n))
   ·obtain⟨q,L,e⟩:=df.mp z;have n:=G q L _ e;exact .inr (J (λw=>by rw[w,E]at n;cases n) (a0 n))
abbrev iK:YT:=bz (eX 15) 0
abbrev gG:YT:=bz (eX 46) 1
abbrev pC:YT:=bz (eX 46) 2
abbrev fS:YT:=bz (eX 46) 3
abbrev oT:YT:=bz (eX 46) 6
def lD(K:Yc):Sp:=λd H Q _=>∃(p:Ye) (a b:V),d=[.ref p,a,b]/\∃C,M8 K C/\YZ K (.ref C) "many"=Ya Yb/\YZ K (.ref C) "room"=Ya Yb/\H p=Ya (xM p C Yb)/\
 ∀c e,(∀b o,H b=Ya o->b≠p->c b=Ya o)->c p=Ya (xM p C (Ya e))->Q .non c
abbrev CP:List Yn:=["self","many","room"]
theorem uK:aE ["self","many","room"] CP (ao iK):=eW
include eV in
theorem uD(F:bH K "__init__" "Held.__init__" iK f fd):aF P w K mg base bx 1 f fd CP (lD K):=by
 refine F.oj uK ?_;rintro _ _ _ _ _ _ _ _ _ _ _ _ ⟨p,a,b,rfl,h⟩;refine⟨_,(aj (Hd (K:=K) rfl (pv 0) (pv 1) rfl)
   (au (Hd (K:=K) rfl (pv 0) (pv 2) rfl))),?_⟩
 obtain⟨C,d,i,j,hp,k⟩:=h;lia;refine K3 ?_;lia;refine⟨p,C,rfl,d,i,.inl ⟨hp,λc hd nd=>?_⟩⟩;lia;refine K3 ?_;lia;refine⟨p,C,rfl,d,j,.inr ⟨c,_,ai,by rw[ak nd,ai],by show(1:Nat)<1000;decide,?_⟩⟩;refine k _ c (λb o e n=>?_) (by rw[ak (cT nd),ai]);have g:b≠c:=λz=>by rw[z,hd]at e;cases e
 rw[ak g,ak n,ak g];exact e
def S4(tb:List (Int×List (Int×Int)))(j:List (Int×Int)):Prop:=Td j/\∀k,EX (tb.map (·.2)) k (ct j k)
def jc(K:Yc)(mg:Yn->Option Yd):Sp:=λc H Q E=>∃(p:Ye),c=[.ref p]/\∃S x,gL K mg H p S x/\S.ta≠[]/\S.ta.length<=10/\
 (∀a j,aG H a->S4 S.ta j->S.ma-ct j S.me<S.ro->Q .non a)/\∀a j b C,aG H a->S4 S.ta j->¬ (S.ma-ct j S.me<S.ro)->mg "Held"=Ya (.ref C)->H b=Yb->E (.ref b) (Ya C) a
theorem jt:aE ["self","held"] aO (ao gG):=eW
variable{qS:Ye}{mY:Ye}{cj:Ye}{bW:Ye}{oK:Yx}{lC:Yx}(hX:aF P w K mg base bx 4 qS oK aO (oS K mg))(hJ:Binds K oK aO [])(nQ:aF P w K mg base bx 3 mY lC CP (lD K))(nv:Binds K lC CP [])(aY:zU K cj)(aU:mg "Page"=Ya (.ref cj))(c5:bB K cS "floor" qS)(mG:mg "Held"=Ya (.ref bW))(wH:UK K bW mY [.type "ValueError",.type "Exception",.type "BaseException",.type "object"] "ValueError.__new__")(wG:M8 K bW)(wD:∃N up Zc,yW K bW N up Zc/\up.contains (.type "BaseException")=true)(iT:YZ K (.ref bW) "many"=Ya Yb)(iZ:YZ K (.ref bW) "room"=Ya Yb)
include eV hV bN hX hJ nQ nv aN aY aR aU c5 mG wH wG wD iT iZ in
theorem rL(F:bH K "check_room" "Page.check_room" gG f fd):aF P w K mg base (BB P w) 5 f fd aO (jc K mg):=by
 refine F.okX jt (λv H Q E h=>?_) (λy A outer s H v Q E a h=>?_)
 ·obtain⟨p,rfl,_⟩:=h;rfl
 obtain⟨p,rfl,h⟩:=h;have n:=a.units;have B:=a.units0;have R:=Hq a;refine⟨_,(aj (aX (i:=1) jt.nd rfl (YB rfl) (aW xT (aH (K:=K) rfl (pv 0) rfl) (a9 hV bN a (aa (bA (bU.cons aN.cl c5 hX hJ bU.nil) (aH (K:=K) rfl (pv 0) rfl) a) (aa (aH (K:=K) rfl (pv 0) rfl) af)))))
   (au (dg (bc DP (pv 1) (aH (K:=K) rfl (pv 0) rfl) (bu _)) (au (IW (JN PySem.F.excBase_ValueError wH nQ a (by rfl) mG nv (aa (pv 1) (aa (aH (K:=K) rfl (pv 0) rfl) af))))) bD))),?_⟩
 obtain⟨S,x,PA,k,h10,D,G⟩:=h;obtain⟨C,U,V,T,hp⟩:=PA.ob;obtain⟨cl,n1,n2,n3,n4,n5,n6,n7,n8,n9,n10,n11⟩:=id T;obtain⟨⟨W,I,r,h1⟩,_⟩:=id PA.ta;rw[aR]at r;cases r;have X:=aN.cl;have Y:=aN.n1;lia;refine⟨x.ta,rfl,x.da,x.ra,S.ta,PA.ta,k,h10,λZ q j c hq J t u=>?_⟩;have L:=c _ _ hp;lia;refine⟨q,j,S.me,rfl,.inl J,?_⟩;lia;refine du (λz=>?_) λz=>?_
 ·have z:S.ro<=S.ma-ct j S.me:=of_decide_eq_true z;lia;refine J5 ?_;refine Nc ?_;lia;refine⟨by show(2:Nat)<=sizeLine;decide,λd g=>?_⟩;refine⟨d,_,_,rfl,_,wG,iT,iZ,ai,λM d2 l N=>⟨rfl,?_⟩⟩;have O:aG H (Nb M d):=λb o e=>by
   have m:b≠d:=λw=>by rw[←w,c _ _ e]at g;cases g
   rw[Bz m];exact l b o (by rw[ak m];exact c _ _ e) m
  exact⟨d,_,_,rfl,N,wD,c.free g,G _ j d _ O ⟨t,u⟩ (by omega) mG (c.free g)⟩
 ·have z:¬ S.ro<=S.ma-ct j S.me:=λw=>z (decide_eq_true w);exact D _ j c ⟨t,u⟩ (by omega)
def mH(K:Yc)(mg:Yn->Option Yd):Sp:=λb H Q _=>∃(p:Ye) (v:V),b=[.ref p,v]/\∃S x c,gL K mg H p S x/\gK K mg H v c/\eu c∉S.kp.map (λq=>eu q.2)/\0<=c.c/\c.c<63/\S.kp.length<=900/\
 ∀a,Off [x.k] H a->gL K mg a p {S with kp:=S.kp++[(v,c)]} x->Q .non a
theorem Ap(h:k∉kvs.map (·.1)):gy kvs k v=kvs++[(k,v)]:=by
 unfold gy;rw[if_neg];intro z;obtain⟨e,a,b⟩:=XT.mp z;exact h (YL.mpr ⟨e,a,of_decide_eq_true b⟩)
theorem Off.kpf1(o:Off [a] H H')(e:H a=Ya u)(f:Th u):lQ H H':=i4 o λb c=>by
 rw[Yh.mp c];exact⟨u,e,f⟩
theorem GD{v:HO}(h:H a=Ya u)(h':H b=Ya v)(d:u≠v):a∉[b]:=λz=>bV h h' d (Yh.mp z)
theorem gL.setk(h:gL K mg H p S x)(o:Off [x.k] H H')(j:H' x.k=Ya (.dT (Zi.map BC)))(kc:∀q∈Zi,gK K mg H' q.1 q.2)(kn:(Zi.map λq=>eu q.2).Nodup)(kr:∀q∈Zi,0<=q.2.c/\q.2.c<63):gL K mg H' p {S with kp:=Zi} x:=by
 have f:lQ H H':=o.kpf1 h.kp trivial;obtain⟨C,l,m,b,hp⟩:=h.ob;obtain⟨s,ho,hn⟩:=h.od;obtain⟨⟨G,I,J,t⟩,v,w,_⟩:=id h.ta;obtain⟨⟨L,M,N,y⟩,A,B,_⟩:=id h.ab;have rw:∀{rs:List (Int×V)} {g:List (Int×List (Int×Int))},qo H rs g->∀r∈rwa rs,r∉[x.k]:=fun{rs g} R r D=>by
  obtain⟨q,c,e⟩:=df.mp D;obtain⟨i,E⟩:=YR c;obtain⟨_,O,_,_,b,F⟩:=i5 R E;rw[e]at b;cases b;exact GD F h.kp (by intro z;cases z)
 have n:=fun{a:Ye} {u:HO} (e:H a=Ya u) (d:∀k,u≠.dT k)=>o a u e (GD e h.kp (d _));exact⟨⟨C,l,m,b,n hp (by intro _ z;cases z)⟩,n h.dn (by intro _ z;cases z),h.td,n h.tk (by intro _ z;cases z),λq c=>(h.tc q c).kpf f,j,kc,kn,kr,⟨s,n ho (by intro _ z;cases z),hn.up f.smh⟩,
  iG h.ta o (GD t h.kp (by intro z;cases z)) (GD v h.kp (by intro z;cases z)) (rw w),iG h.ab o (GD y h.kp (by intro z;cases z)) (GD A h.kp (by intro z;cases z)) (rw B),h.to,h.dd,h.rr,h.me,h.ha⟩
abbrev og:List Yn:=["self","call"]
theorem Ay:aE ["self","call"] og (ao pC):=eW
variable(fU:aF P w K mg base bx 1 eE gw aO (cV K))
include eV fU bw av az aA aY aw aB aC aU aV bh bg in
theorem Bj(F:bH K "keep" "Page.keep" pC f fd):aF P w K mg base bx 2 f fd og (mH K mg):=by
 refine F.oj Ay ?_;rintro _ _ _ _ H _ Q _ E _ _ G ⟨p,v,rfl,h⟩;refine⟨_,(au (mD G (aH (K:=K) rfl (pv 0) rfl) (bA (bU.cons aA.cl bg fU bw (bU.cons av.cl aV fU bw (bU.cons az.cl bh fU bw bU.nil))) (pv 1) E) (pv 1) rfl)),?_⟩;obtain⟨S,x,c,PA,A,hn,c0,c1,hl,I⟩:=h;obtain⟨C,O,R,T,hp⟩:=PA.ob;obtain⟨cl,n1,n2,n3,n4,n5,n6,n7,n8,n9,n10,n11⟩:=id T;have U:=PA.kp;obtain⟨pc,W,j,t,X,rfl,J,o,l,Y,L,M⟩:=id A;have tail:∀d g,aG H d->d g=Ya (.tup [.int c.n,.int c.c,.int c.k])->∃a B,V.ref x.k=.ref a/\y6 d a (.ref g) (.ref pc) B/\Q .non B:=λd g i m=>by
  have n:=PA.same i;refine⟨x.k,_,rfl,y6.t (k:=eu c) n.kp m (aJ (by rw[Yf];omega)),?_⟩;rw[Ap (by rw[xw];exact hn)];have r:Off [x.k] d (upd d x.k (.dT (S.kp.map BC++[(eu c,.ref pc)]))):=λb u e s=>by rw[ak (λz=>s (Yh.mpr z))];exact e
  have D:lQ d _:=r.kpf1 n.kp trivial;refine I _ (λb u e s=>r b u (i _ _ e) s) (n.setk r (by rw[ai,Yt];rfl) (λq y=>?_) ?_ λq y=>?_)
  ·rcases YG.mp y with z|z
   ·exact(n.kc q z).kpf D
   ·rw[Yh.mp z];exact(A.up (.same i)).kpf D
  ·rw[Yt,xi];refine⟨PA.kn,by simp,λa ha b N z=>?_⟩;have:b=eu c:=by simpa using N
   rw[z,this]at ha;exact hn ha
  ·rcases YG.mp y with z|z
   ·exact PA.kr q z
   ·rw[Yh.mp z];exact⟨c0,c1⟩
 lia;rcases J with⟨_,e⟩|⟨_,e⟩|⟨_,e⟩
 ·rw[aC]at e;cases e;lia;exact⟨pc,rfl,_,j,_,_,_,_,_,o,l,λd g i _ m=>tail d g i m⟩
 ·rw[aw]at e;cases e;lia;exact⟨pc,rfl,_,j,_,_,_,_,_,o,l,λd g i _ m=>tail d g i m⟩
 ·rw[aB]at e;cases e;lia;exact⟨pc,rfl,_,j,_,_,_,_,_,o,l,λd g i _ m=>tail d g i m⟩
def fG(K:Yc)(mg:Yn->Option Yd):Sp:=λc H Q _=>∃(p:Ye),c=[.ref p]/\∃S x,gL K mg H p S x/\S.kp.length<64/\
 ∀a D (b:List (V×bM)),aG H a->H D=Yb->b.Perm S.kp->AU (S.kp.map λq=>[q.2.c,q.2.k]) (S.kp.map (·.1)) (b.map (·.1))->a D=Ya (.lst (b.map (·.1)))->Q (.ref D) a
theorem Jm{α β:Type}{f:α->β}:∀{l:List α} {ws:List β},ws.Perm (l.map f)->∃zs:List α,zs.Perm l/\zs.map f=ws:=by
 intro l ws h;generalize e:l.map f=m at h
 induction h generalizing l with
 |nil=>exact⟨[],by rw[XY.mp e],rfl⟩
 |cons x h ih=>
  cases l with
  |nil=>cases e
  |cons a l=>
   rw[Yz]at e;obtain⟨d,c⟩:=xj e;obtain⟨zs,p,q⟩:=ih c;exact⟨a::zs,p.cons a,by rw[Yz,q,d]⟩
 |swap x y l'=>
  cases l with
  |nil=>cases e
  |cons a l=>
   cases l with
   |nil=>cases e
   |cons b l=>
    rw[Yz,Yz]at e;obtain⟨d,c⟩:=xj e;obtain⟨c,g⟩:=xj c;exact⟨b::a::l,acP a b l,by rw[Yz,Yz,d,c,g]⟩
 |trans h1 h2 ih1 ih2=>
  obtain⟨o,i,j⟩:=ih2 e;obtain⟨zs,k,n⟩:=ih1 j;exact⟨zs,k.trans i,n⟩
theorem Ew{H:Hp}:∀{l:List (V×bM)},(∀q∈l,gK K mg H q.1 q.2)->CZ K mg H (l.map (·.1)) (l.map (·.2))
 |[],_=>.nil
 |q::l,h=>.cons (h q Ys) (Ew λr a=>h r (Yp _ a))
theorem rF:aE ["self"] aO (ao fS):=eW
variable{zV:Ye}{x9:Yx}(zT:aF P w K mg base bx 4 zV x9 ["calls"] (xY K mg))(zL:eD K mg "by_rank" zV x9 ["calls"])
include eV zT zL iO av az aA aY aw aB aC aU in
theorem rH(F:bH K "kept_calls" "Page.kept_calls" fS f fd):aF P w K mg base bx 5 f fd aO (fG K mg):=by
 refine F.oj rF ?_;rintro _ _ _ _ H _ _ _ j _ _ _ ⟨p,rfl,h⟩;refine⟨_,(au (aL (a9 zT zL j (aa (bO (Ee rfl) (by rfl) iO W4 (aa (F4 WI WX aaK J8 (aH (K:=K) rfl (pv 0) rfl)) af)) af)))),?_⟩;obtain⟨S,x,PA,hl,k⟩:=h;obtain⟨C,E,G,T,hp⟩:=PA.ob;obtain⟨cl,n1,n2,n3,n4,n5,n6,n7,n8,n9,n10,n11⟩:=id T;have c:=PA.kp;lia;refine⟨.inr (.inr (.inl ⟨rfl,.inr ⟨_,c⟩⟩)),x.k,_,rfl,rfl,c,λv m=>?_⟩;have a:=aD (o:=GO v x.k) m;have g:(upd H v (GO v x.k)) v=Ya (GO v x.k):=ai;generalize upd H v (GO v x.k)=H1 at a g⊢;lia;refine⟨v,x.k,_,rfl,g,.inl (a _ _ c),by rw[Yf];omega,λl d=>?_⟩;have b:=aD (o:=.lst ((S.kp.map BC).map (·.2))) d;have e:(upd H1 l (.lst ((S.kp.map BC).map (·.2)))) l=Ya (.lst ((S.kp.map BC).map (·.2))):=ai;generalize upd H1 l (.lst ((S.kp.map BC).map (·.2)))=H2 at b e⊢;rw[xw]at e;have n:=PA.same (a.trans b);have q:=Ew n.kc;lia;refine⟨l,rfl,S.kp.map (·.1),S.kp.map (·.2),bo.of e,q,by rw[Yf];exact hl,λr D s t u y od i=>?_⟩;obtain⟨z,A,B⟩:=Jm y;rw[←B]at od i;rw[xw]at od;exact k r D z (a.trans (b.trans t)) (a.free (b.free u)) A od i
def sS(K:Yc)(mg:Yn->Option Yd):Sp:=λb H Q _=>∃(p:Ye) (v:V),b=[.ref p,v]/\∃S x c,gL K mg H p S x/\gK K mg H v c/\0<=c.c/\c.c<63/\0<c.k/\S.tk.length<=900/\
 ∀a,Off [x.d,x.t] H a->gL K mg a p {S with dn:=dR S.dn c.c c.k,tk:=S.tk++[(v,c)]} x->Q .non a
theorem gL.setdt{d:List (Int×Int)}{f:List (V×bM)}(h:gL K mg H p S x)(o:Off [x.d,x.t] H H')(t:H' x.d=Ya (.dK (dI d)))(td:Td d)(u:H' x.t=Ya (.lst (f.map (·.1))))(tc:∀q∈f,gK K mg H' q.1 q.2):gL K mg H' p {S with dn:=d,tk:=f} x:=by
 have j:lQ H H':=i4 o λb k=>by
  simp only[Ym,uc,or_false]at k;rcases k with rfl|rfl
  ·exact⟨_,h.dn,trivial⟩
  ·exact⟨_,h.tk,trivial⟩
 obtain⟨C,v,w,g,hp⟩:=h.ob;obtain⟨y,ho,hn⟩:=h.od;obtain⟨⟨J,L,M,l⟩,A,B,_⟩:=id h.ta;obtain⟨⟨N,O,P,m⟩,D,E,_⟩:=id h.ab;have n:∀{a:Ye},a≠x.d->a≠x.t->a∉[x.d,x.t]:=λn1 n2 z=>by
  simp only[Ym,uc,or_false]at z;exact z.elim n1 n2
 have rw:∀{rs:List (Int×V)} {s:List (Int×List (Int×Int))},qo H rs s->(∀q∈rs,q∈x.ra++x.rb)->∀r∈rwa rs,r∉[x.d,x.t]:=fun{rs s} R sub r F=>by
  obtain⟨q,c,e⟩:=df.mp F;obtain⟨i,G⟩:=YR c;obtain⟨_,Q,_,_,g,I⟩:=i5 R G;rw[e]at g;cases g;exact n (λz=>(h.rr q (sub q c)).1 (by rw[e,z])) (bV I h.tk (by intro z;cases z))
 refine⟨⟨C,v,w,g,o _ _ hp (n (bV hp h.dn (by intro z;cases z)) (bV hp h.tk (by intro z;cases z)))⟩,t,td,u,tc,o _ _ h.kp (n (bV h.kp h.dn (by intro z;cases z)) (bV h.kp h.tk (by intro z;cases z))),λq c=>(h.kc q c).kpf j,h.kn,h.kr,⟨y,o _ _ ho (n (bV ho h.dn (by intro z;cases z)) (cT h.to)),hn.up j.smh⟩,
  iG h.ta o (n (bV l h.dn (by intro z;cases z)) (bV l h.tk (by intro z;cases z))) (n (cT h.dd.1) (bV A h.tk (by intro z;cases z))) (rw B λq c=>Y1 _ c),
  iG h.ab o (n (bV m h.dn (by intro z;cases z)) (bV m h.tk (by intro z;cases z))) (n (cT h.dd.2.1) (bV D h.tk (by intro z;cases z))) (rw E λq c=>YF _ c),h.to,h.dd,h.rr,h.me,h.ha⟩
theorem Bi:aE ["self","call"] og (ao oT):=eW
include eV av az aA aY aw aB aC aU in
theorem AL(F:bH K "take" "Page.take" oT f fd):aF P w K mg base bx 1 f fd og (sS K mg):=by
 refine F.oj Bi ?_;rintro _ _ _ _ H _ _ _ _ _ _ s ⟨p,v,rfl,h⟩;refine⟨_,(aj (mD s (aH (K:=K) rfl (pv 0) rfl) (aH (K:=K) rfl (pv 1) rfl) (aH (K:=K) rfl (pv 1) rfl) rfl)
   (au (dC (rO (K:=K) rfl (F5 X0 X5 aaM qm (aH (K:=K) rfl (pv 0) rfl) (aa (pv 1) af)))))),?_⟩
 obtain⟨S,x,c,PA,l,c0,c1,y,hl,A⟩:=h;obtain⟨C,R,U,T,hp⟩:=PA.ob;obtain⟨cl,n1,n2,n3,n4,n5,n6,n7,n8,n9,n10,n11⟩:=id T;obtain⟨pc,V,B,t,W,rfl,X,D,E,Y,G,I⟩:=id l;obtain⟨J,Z,m2,m3,m4,m5⟩:=id D;have a:=PA.dn;have nd:=PA.td.nd;have ld:=PA.td.toCk.len;have d:=PA.tk;have ls:(S.tk.map (·.1)).length<sizeLine:=aJ (by rw[Yf];omega);lia;intro H1 g L;have M:=g.of a hp (by intro z;cases z);have N:=g.of a d (by intro z;cases z);lia;intro i m O;have j:x.d≠x.t:=bV a d (by intro z;cases z);have k:Off [x.d,x.t] H i:=λb u e n=>m.at (λz=>n (by rw[z];simp)) (g.at (λz=>n (by rw[z];simp)) e);have o:lQ H i:=i4 k λb r=>by
  simp only[Ym,uc,or_false]at r;rcases r with rfl|rfl
  ·exact⟨_,a,trivial⟩
  ·exact⟨_,d,trivial⟩
 refine A i k (PA.setdt k (m.at j L) (Fy PA.td c0 c1 y) (by rw[O,Yt];rfl) λq Q=>?_);rcases YG.mp Q with z|z
 ·exact(PA.tc q z).kpf o
 ·rw[Yh.mp z];exact l.kpf o
abbrev kI:YT:=bz (eX 46) 7
def zf(j:List (Int×Int))(l:List (V×bM)):List (V×bM):=l.filter λq=>!decide (q.2.k<=ct j q.2.c)
def oq(K:Yc)(mg:Yn->Option Yd):Sp:=λd H Q _=>∃(p:Ye),d=[.ref p]/\∃S x,gL K mg H p S x/\S.ta≠[]/\S.ta.length<=10/\S.kp.length<=60/\
 ∀b c j,Off [p,x.k] H b->(∀a,b a=Yb->H a=Yb)->H c=Yb->S4 S.ta j->gL K mg b p {S with kp:=zf j S.kp} {x with k:=c}->Q .non b
theorem Ir(h:(ps.map (·.1)).Nodup):i7 ps=ps:=by
 have go:∀(ps a:List (List bK×V)),((a++ps).map (·.1)).Nodup->ps.foldl (λa p=>gy a p.1 p.2) a=a++ps:=by
  intro ps
  induction ps with
  |nil=>intro a _;rw[gf];rfl
  |cons p ps ih=>
   intro a hn;rw[Xm,Ap,ih]
   ·rw[WZ];rfl
   ·rw[WZ];exact hn
   ·rw[Yt,xi]at hn;exact λz=>hn.2.2 _ z _ (by simp) rfl
 exact go ps [] h
theorem gL.newk{f:Ye}(h:gL K mg H p S x)(o:Off [p,x.k] H H')(ob:∃C d,mg "Page"=Ya (.ref C)/\zU K C/\H' p=Ya (.ins C d (qq (.int S.me) (.int S.nu) (.int S.ha) (.int S.ro) (.int S.ma) (.ref x.d) (.ref x.t) (.ref f) (.ref x.o) (.ref x.ta) (.ref x.ab))))(v:H' f=Ya (.dT (Zi.map BC)))(kn:(Zi.map λq=>eu q.2).Nodup)(sub:∀q∈Zi,q∈S.kp):gL K mg H' p {S with kp:=Zi} {x with k:=f}:=by
 obtain⟨C,d,L,g,hp⟩:=h.ob;have j:lQ H H':=i4 o λb l=>by
  simp only[Ym,uc,or_false]at l;rcases l with rfl|rfl
  ·exact⟨_,hp,by show(11:Nat)≠5;decide⟩
  ·exact⟨_,h.kp,trivial⟩
 obtain⟨w,ho,hn⟩:=h.od;obtain⟨⟨M,m,N,y⟩,A,B,_⟩:=id h.ta;obtain⟨⟨O,s,P,D⟩,E,F,_⟩:=id h.ab;have n:∀{a:Ye} {u:HO},H a=Ya u->(∀k,u≠.dT k)->(∀C d fs,u=.ins C d fs->fs.length≠11)->a∉[p,x.k]:=λe m s z=>by
  simp only[Ym,uc,or_false]at z;rcases z with rfl|rfl
  ·rw[hp]at e;cases e;exact s _ _ _ rfl rfl
  ·rw[h.kp]at e;cases e;exact m _ rfl
 have rw:∀{rs:List (Int×V)} {t:List (Int×List (Int×Int))},qo H rs t->∀r∈rwa rs,r∉[p,x.k]:=fun{rs t} R r G=>by
  obtain⟨q,c,e⟩:=df.mp G;obtain⟨i,I⟩:=YR c;obtain⟨_,Q,_,_,g,J⟩:=i5 R I;rw[e]at g;cases g;exact n J (by intro _ z;cases z) (by intro _ _ _ z;cases z)
 refine⟨ob,o _ _ h.dn (n h.dn (by intro _ z;cases z) (by intro _ _ _ z;cases z)),h.td,o _ _ h.tk (n h.tk (by intro _ z;cases z) (by intro _ _ _ z;cases z)),λq c=>(h.tc q c).kpf j,v,λq c=>(h.kc q (sub q c)).kpf j,kn,λq c=>h.kr q (sub q c),⟨w,o _ _ ho (n ho (by intro _ z;cases z) (by intro _ _ _ z;cases z)),hn.up j.smh⟩,
  iG h.ta o (n y (by intro _ z;cases z) (by intro _ _ _ z;cases z;show(1:Nat)≠11;decide)) (n A (by intro _ z;cases z) (by intro _ _ _ z;cases z)) (rw B),iG h.ab o (n D (by intro _ z;cases z) (by intro _ _ _ z;cases z;show(1:Nat)≠11;decide)) (n E (by intro _ z;cases z) (by intro _ _ _ z;cases z)) (rw F),h.to,h.dd,h.rr,h.me,h.ha⟩
theorem pT:aE ["self","floor"] aO (ao kI):=eW
variable(lK:aF P w K mg base bx 4 hW fT EH (gC K))
include eV lK cW hX hJ iI av aN az aA aY aw aR aB aC aU c5 in
theorem xk(F:bH K "let_go" "Page.let_go" kI f fd):aF P w K mg base bx 5 f fd aO (oq K mg):=by
 refine F.oj pT ?_;rintro _ A _ _ H _ _ _ hr I _ hu ⟨p,rfl,h⟩;refine⟨_,(aj (aX (i:=1) pT.nd rfl (abB rfl) (bA (bU.cons aN.cl c5 hX hJ bU.nil) (aH (K:=K) rfl (pv 0) rfl) hr))
   (au (cF (K:=K) rfl (pv 0) (bO (vk rfl (X6 (aaw (by decide) _) I)) (by rfl) iI W5 (aa (bQ ["floor","name","call"] [Ya 1,Yb,Yb] rfl rfl (by kernel_rfl) (Jq (aH (K:=K) rfl (pv 0) rfl)) (λ_ _ _ _ _ nd=>mT (K:=K) (n:=2) rfl rfl (c9 (aP (i:=1) nd rfl (YB rfl)) (c9 (aP (i:=2) nd rfl (YB rfl)) mK))) (λ_ _ _ _ _=>(eY (mE (cK K rfl (a9 lK cW hr (aa (pv 0) (aa (pv 1) af))))))) (λ_ _ _ _ _=>(cv (aa (pv 1) (aa (pv 2) af))))) af)) rfl))),?_⟩
 obtain⟨S,x,PA,X,h10,hl,kk⟩:=h;obtain⟨C,dx,mP,T,hp⟩:=PA.ob;obtain⟨cl,n1,n2,n3,n4,n5,n6,n7,n8,n9,n10,n11⟩:=id T;obtain⟨⟨C1,ag,G,h1⟩,_⟩:=id PA.ta;rw[aR]at G;cases G;have tK:=aN.cl;have nL:=aN.n1;lia;refine⟨x.ta,rfl,x.da,x.ra,S.ta,PA.ta,X,h10,λH1 Y j R ah g1 tj mn=>?_⟩;have al:=R _ _ hp;have P1:=PA.same R;have J:=P1.kp;lia;refine L5 J λo A Z sA=>?_;intro D hD;have ab:Y≠x.k:=bV g1 J (by intro z;cases z);refine Dk (λi σ B=>∃v1 v2 r,σ=[Ya (.ref Y),v1,v2]/\aG A B/\B D=Ya (.lst r)/\r.length<=i/\Cd B r ((zf j (S.kp.take i)).map BC)) ⟨Yb,Yb,[],rfl,aD hD,ai,Yj _,.nil⟩ ?_ ?_ ?_
 ·rintro i σ B _ ⟨_,_,_,_,z,_⟩;exact z _ _ Z
 ·rintro i k v t b σ B B1 g ⟨v1,v2,r,rfl,s,gD,ly,L⟩ ht d gt gb;obtain⟨q,M,e⟩:∃q,S.kp[i]?=Ya q/\BC q=(k,v):=by
   rw[Yv]at g;cases z:S.kp[i]? with
   |none=>rw[z]at g;cases g
   |some q=>rw[z]at g;exact⟨q,rfl,YC g⟩
  cases e;have hi:=(Yi.mp M).1;have N:B1 b=Ya (.tup [.int q.2.n,.int q.2.c,.int q.2.k]):=d _ _ gb;have ac:=d _ _ (s _ _ (sA _ _ ab g1));have O:=d _ _ gD;have st:bC K B1 t [.ref b,q.1]:=bC.of gt;lia;refine⟨Y,b,rfl,j,_,_,_,.inl ac,bC.of N,?_⟩;lia;refine du (λz=>?_) λz=>?_
  ·have z:¬ q.2.k<=ct j q.2.c:=by simpa using z
   lia;intro u B2 hu U g2;have Q:=U _ _ O;have kp:dF B2 (upd B2 D (.lst (r++[V.ref u]))):=dF.lst Q;refine⟨r,Q,aJ (by omega),_,_,r++[.ref u],rfl,λc o e=>?_,ai,by rw[Yq];exact Xb ly,?_⟩
   ·rw[ak (ay e hD)];exact U _ _ (d _ _ (s c o e))
   ·have G:zf j (S.kp.take (i+ 1))=zf j (S.kp.take i)++[q]:=by
     unfold zf;rw[aT M,YS];congr 1;simp[z]
    rw[G,Yt];exact u6 (Bp (λa xs e=>kp _ _ (U _ _ (d _ _ e))) L) ⟨u,b,rfl,kp _ _ g2,kp _ _ (U _ _ N)⟩
  ·have z:q.2.k<=ct j q.2.c:=by simpa using z
   have G:zf j (S.kp.take (i+ 1))=zf j (S.kp.take i):=by
    unfold zf;rw[aT M,YS];simp[z]
   refine⟨_,_,r,rfl,s.trans d,O,aah ly,?_⟩;rw[G];exact Bp (λa xs e=>d _ _ e) L
 rintro σ B ⟨v1,v2,r,rfl,s,gD,ly,L⟩;rw[Yf,YM]at L;lia;have nk:((zf j S.kp).map λq=>eu q.2).Nodup:=PA.kn.sublist (List.Sublist.map _ abm);have lk:=YQ (λq:V×bM=>!decide (q.2.k<=ct j q.2.c)) S.kp;refine⟨D,r,_,rfl,gD,L,by rw[Yf];unfold zf;omega,λy l=>?_⟩;have em:i7 ((zf j S.kp).map BC)=(zf j S.kp).map BC:=Ir (by rw[xw];exact nk);rw[em];have s3:=aD (o:=.dT ((zf j S.kp).map BC)) l;have g3:(upd B y (.dT ((zf j S.kp).map BC))) y=Ya (.dT ((zf j S.kp).map BC)):=ai;generalize upd B y (.dT ((zf j S.kp).map BC))=H3 at s3 g3⊢;have E:Off [x.k] H H3:=λb u e W=>s3 _ _ (s _ _ (sA _ _ (λz=>W (Yh.mpr z)) (R _ _ e)));have am:=E _ _ hp (GD hp PA.kp (by intro z;cases z));lia;intro H4 b4 g4;rw[Fg]at g4;have m:Off [p,x.k] H H4:=λb u e W=>b4.at (λz=>W (by rw[z];simp)) (E b u e (λz=>W (by rw[Yh.mp z];simp)));have fk:H y=none:=R.free (by
  cases z:H1 y with
  |none=>rfl
  |some u=>
   by_cases w:y=x.k
   ·rw[w,s _ _ Z]at l;cases l
   ·rw[s _ _ (sA _ _ w z)]at l;cases l)
 have ad:y≠p:=λz=>by rw[z,hp]at fk;cases fk
 have ae:∀a,H4 a=Yb->H a=none:=λa e=>by
  cases z:H a with
  |none=>rfl
  |some u=>
   by_cases w:a=p
   ·rw[w,g4]at e;cases e
   ·by_cases v:a=x.k
    ·rw[v]at e w;rw[b4.at w (s3 _ _ (s _ _ Z))]at e;cases e
    ·rw[m a u z (by simp[w,v])]at e;cases e
 refine kk H4 y j m ae fk ⟨tj,mn⟩ (PA.newk m ⟨C,dx,mP,T,g4⟩ (b4.at ad g3) nk λq M=>(Y4.mp M).1)
theorem R9(u:QB (ws.zip cs))(h:Pw ws cs m ns Zu gs m'):gs.length+ mz cs m'<=ns.length+ mz cs m:=by
 induction h with
 |start r=>have:=DZ r;omega
 |@step Zu rw gs m1 m2 q j p la fo rn ih=>
  have a:=DZ rn;have b:=Hb u la fo rn;rw[Yq,YV];have:(gs.take j).length<=gs.length:=by rw[Y8];omega
  omega
theorem Ua{hs:List Int}(h0:∀k,0<=ct m0 k)(h:Fw hs (yZ zs) ns m0 rw Zh m):(∀k,0<=ct m k)/\∀q∈rw,q∈zs/\0<q.2.k:=by
 induction h with
 |start=>exact⟨h0,λq a=>nomatch a⟩
 |@step rw Zh m v x f e ih=>
  obtain⟨h,_,c,_⟩:=wF e;obtain⟨d,g,b⟩:=qj c;have b:x.k=ct m h+ 1:=b;have n:=ih.1 h;refine⟨λk=>?_,λq a=>?_⟩
  ·rw[uT];by_cases z:k=x.c
   ·rw[if_pos z];omega
   ·rw[if_neg z];exact ih.1 k
  ·rcases YG.mp a with z|z
   ·exact ih.2 q z
   ·rw[Yh.mp z];refine⟨d,?_⟩;show 0<x.k;omega
theorem Vl(h:Rn (zs.map (·.1)) (zs.map (·.2)) m ns rw m'):∀q∈rw,q∈zs/\0<q.2.k:=by
 obtain⟨hs,c,d,_,a,_,f,_⟩:=h;have b:(zs.map (·.1)).zip (zs.map (·.2))=zs:=by
  rw[ada];exact aaN zs
 rw[b]at f;exact(Ua (λk=>a.toCk.ct k) f).2
def S1(tb:List (Int×List (Int×Int)))(h:Int)(m:List (Int×Int))(a:List (Int×List (Int×Int))):Prop:=(tbl tb h=Yb->a=tb)/\∀b,tbl tb h=Ya b->∃j,Td j/\(∀k,MY [b,m] k (ct j k))/\a=sN tb h j
theorem S1.keys(l:S1 tb h m Zt):Zt.map (·.1)=tb.map (·.1):=by
 cases z:tbl tb h with
 |none=>rw[l.1 z]
 |some m0=>
  obtain⟨j,_,_,e⟩:=l.2 m0 z;rw[e,uQ]
theorem gL.newo{o':Ye}{ma':Int}{c:List Nm}{b:List V}(h:gL K mg H p S x)(o:Off [p] H H')(ob:∃C f,mg "Page"=Ya (.ref C)/\zU K C/\H' p=Ya (.ins C f (qq (.int S.me) (.int S.nu) (.int S.ha) (.int S.ro) (.int ma') (.ref x.d) (.ref x.t) (.ref x.k) (.ref o') (.ref x.ta) (.ref x.ab))))(go:H' o'=Ya (.lst b))(hn:nZ H' b c)(g:x.t≠o'):gL K mg H' p {S with ma:=ma',od:=c} {x with o:=o'}:=by
 obtain⟨C,f,F,j,hp⟩:=h.ob;have k:lQ H H':=o.kpf1 hp (by show(11:Nat)≠5;decide);obtain⟨⟨G,I,J,s⟩,t,v,_⟩:=id h.ta;obtain⟨⟨L,l,M,w⟩,y,A,_⟩:=id h.ab;have n:∀{a:Ye} {u:HO},H a=Ya u->(∀C f fs,u=.ins C f fs->fs.length≠11)->a∉[p]:=λe l z=>by
  rw[Yh.mp z,hp]at e;cases e;exact l _ _ _ rfl rfl
 have rw:∀{rs:List (Int×V)} {m:List (Int×List (Int×Int))},qo H rs m->∀r∈rwa rs,r∉[p]:=fun{rs m} R r B=>by
  obtain⟨q,d,e⟩:=df.mp B;obtain⟨i,D⟩:=YR d;obtain⟨_,N,_,_,j,E⟩:=i5 R D;rw[e]at j;cases j;exact n E (by intro _ _ _ z;cases z)
 exact⟨ob,o _ _ h.dn (n h.dn (by intro _ _ _ z;cases z)),h.td,o _ _ h.tk (n h.tk (by intro _ _ _ z;cases z)),λq d=>(h.tc q d).kpf k,o _ _ h.kp (n h.kp (by intro _ _ _ z;cases z)),λq d=>(h.kc q d).kpf k,h.kn,h.kr,⟨b,go,hn⟩,
  iG h.ta o (n s (by intro _ _ _ z;cases z;show(1:Nat)≠11;decide)) (n t (by intro _ _ _ z;cases z)) (rw v),iG h.ab o (n w (by intro _ _ _ z;cases z;show(1:Nat)≠11;decide)) (n y (by intro _ _ _ z;cases z)) (rw A),g,h.dd,h.rr,h.me,h.ha⟩
theorem gL.lrb{c:List (Int×V)}{i:List (Int×List (Int×Int))}(h:gL K mg H p S x)(o:JH x.db H H')(kn:kQ K mg H' x.ab x.db c i)(m:∀q∈c,q∈x.rb∨∃r,q.2=.ref r/\H r=Yb):gL K mg H' p {S with ab:=i} {x with rb:=c}:=by
 obtain⟨C,s,t,v,hp⟩:=h.ob;obtain⟨y,ho,hn⟩:=h.od;obtain⟨⟨E,F,G,A⟩,B,I,_⟩:=id h.ta;obtain⟨⟨J,L,M,N⟩,j,O,_⟩:=id h.ab;have of:Off [x.db] H H':=λb u e n=>o b u (λz=>n (Yh.mpr z)) e;have l:lQ H H':=of.kpf1 j trivial;have n:=fun{a:Ye} {u:HO} (e:H a=Ya u) (d:∀k,u≠.dK k)=>of a u e (GD e j (d _));have rr:∀r∈rwa x.ra,r∉[x.db]:=λr D z=>by
  obtain⟨q,f,e⟩:=df.mp D;exact(h.rr q (Y1 _ f)).2.2 (by rw[e,Yh.mp z])
 refine⟨⟨C,s,t,v,n hp (by intro _ z;cases z)⟩,o _ _ h.dd.2.1 h.dn,h.td,n h.tk (by intro _ z;cases z),λq f=>(h.tc q f).kpf l,n h.kp (by intro _ z;cases z),λq f=>(h.kc q f).kpf l,h.kn,h.kr,⟨y,n ho (by intro _ z;cases z),hn.up l.smh⟩,
  iG h.ta of (GD A j (by intro z;cases z)) (λz=>h.dd.2.2 (Yh.mp z)) rr,kn,h.to,h.dd,λq f=>?_,h.me,h.ha⟩
 rcases YG.mp f with z|z
 ·exact h.rr q (Y1 _ z)
 ·rcases m q z with w|⟨r,e,g⟩
  ·exact h.rr q (YF _ w)
  ·rw[e];refine⟨λz=>?_,λz=>?_,λz=>?_⟩
   ·cases z;rw[h.dn]at g;cases g
   ·cases z;rw[B]at g;cases g
   ·cases z;rw[j]at g;cases g
theorem gL.lra{c:List (Int×V)}{i:List (Int×List (Int×Int))}(h:gL K mg H p S x)(o:JH x.da H H')(kn:kQ K mg H' x.ta x.da c i)(m:∀q∈c,q∈x.ra∨∃r,q.2=.ref r/\H r=Yb):gL K mg H' p {S with ta:=i} {x with ra:=c}:=by
 obtain⟨C,s,t,v,hp⟩:=h.ob;obtain⟨y,ho,hn⟩:=h.od;obtain⟨⟨E,F,G,I⟩,j,J,_⟩:=id h.ta;obtain⟨⟨L,M,N,A⟩,B,O,_⟩:=id h.ab;have of:Off [x.da] H H':=λb u e n=>o b u (λz=>n (Yh.mpr z)) e;have l:lQ H H':=of.kpf1 j trivial;have n:=fun{a:Ye} {u:HO} (e:H a=Ya u) (d:∀k,u≠.dK k)=>of a u e (GD e j (d _));have rr:∀r∈rwa x.rb,r∉[x.da]:=λr D z=>by
  obtain⟨q,f,e⟩:=df.mp D;exact(h.rr q (YF _ f)).2.1 (by rw[e,Yh.mp z])
 refine⟨⟨C,s,t,v,n hp (by intro _ z;cases z)⟩,o _ _ h.dd.1 h.dn,h.td,n h.tk (by intro _ z;cases z),λq f=>(h.tc q f).kpf l,n h.kp (by intro _ z;cases z),λq f=>(h.kc q f).kpf l,h.kn,h.kr,⟨y,n ho (by intro _ z;cases z),hn.up l.smh⟩,
  kn,iG h.ab of (GD A j (by intro z;cases z)) (λz=>h.dd.2.2 (Yh.mp z).symm) rr,h.to,h.dd,λq f=>?_,h.me,h.ha⟩
 rcases YG.mp f with z|z
 ·rcases m q z with w|⟨r,e,g⟩
  ·exact h.rr q (Y1 _ w)
  ·rw[e];refine⟨λz=>?_,λz=>?_,λz=>?_⟩
   ·cases z;rw[h.dn]at g;cases g
   ·cases z;rw[j]at g;cases g
   ·cases z;rw[B]at g;cases g
 ·exact h.rr q (YF _ z)
def RM(x:bM):Yn:=if x.kd="one"then "sure"else "ready"
def U2(H:Hp)(v:V)(q:V×bM):Prop:=∃a b,v=.ref a/\H a=Ya (.tup [.ref b,.str (RM q.2)])/\kP H (.ref b) q.2
def Cz(H:Hp)(ys:List V)(rw:List (V×bM)):Prop:=Paired (U2 H) ys rw
theorem U2.up(s:dF H H')(h:U2 H v q):U2 H' v q:=by
 obtain⟨a,b,e,h1,h2⟩:=h;exact⟨a,b,e,s _ _ h1,h2.up s⟩
theorem Cz.up(s:dF H H'){ys:List V}(h:Cz H ys rw):Cz H' ys rw:=Paired.mapP h λ_ _ z=>z.up s
theorem Cz.snoc{H:Hp}:∀{ys:List V} {rw:List (V×bM)} {v:V} {q:V×bM},Cz H ys rw->U2 H v q->Cz H (ys++[v]) (rw++[q])
 |_,_,_,_,.nil,h=>.cons h .nil
 |_,_,_,_,.cons r t,h=>.cons r (Cz.snoc t h)
def lN(m:List (Int×Int))(rw:List (V×bM)):List (Int×Int):=rw.foldl (λm q=>dR m q.2.c q.2.k) m
def Kr(S i:Pg)(rw:List (V×bM)):Prop:=∃(b e:List (V×bM)) (g k:List (Int×Int)) (a:List Nm) (c d:List (Int×List (Int×Int))) (j:List (Int×Int)),
 b.Perm S.kp/\AU (S.kp.map λq=>[q.2.c,q.2.k]) (S.kp.map (·.1)) (b.map (·.1))/\(zk S.ha≠.int S.me->a=S.od)/\(zk S.ha=.int S.me->∃f h,Pw (b.map (·.1)) (b.map (·.2)) S.dn S.od f a h/\Qy b h Yb)/\
 Rn (b.map (·.1)) (b.map (·.2)) S.dn a e g/\S1 S.ab S.me g c/\Rn (b.map (·.1)) (b.map (·.2)) S.dn (a.take (Na c a)) rw k/\S1 S.ta S.me (lN S.dn rw) d/\S4 d j/\
 i={S with dn:=lN S.dn rw,tk:=S.tk++rw,kp:=zf j S.kp,od:=a,ta:=d,ab:=c}
abbrev oF:YT:=bz (eX 46) 5
def uh(K:Yc)(mg:Yn->Option Yd):Sp:=λf H Q _=>∃(p:Ye),f=[.ref p]/\∃S x,gL K mg H p S x/\S.ta≠[]/\S.ta.length<=10/\S.kp.length<=60/\S.od.length<=300/\S.tk.length<=800/\S.me∈GB.hl S.ha/\(∀q∈S.kp,q.2.n=S.nu)/\
 ∀b c d rw l e,Off (x.ft p) H b->(∀a,b a=Yb->H a=Yb)->gL K mg b p d c->(∀a∈c.ft p,a∈x.ft p∨H a=Yb)->Kr S d rw->H l=Yb->l∉c.ft p->b l=Ya (.lst e)->Cz b e rw->Q (.ref l) b
theorem QC{S:List (V×bM)}{n:Int}(hn:∀q∈S,q.2.n=n)(nd:(S.map λq=>eu q.2).Nodup):QB S:=by
 intro q d r f m o;have e:eu q.2=eu r.2:=by
  unfold eu;rw[hn q d,hn r f,m,o]
 obtain⟨i,g⟩:=YR d;obtain⟨j,c⟩:=YR f;have a:=(Yi.mp g);have b:=(Yi.mp c);have:i=j:=by
  have h:i<(S.map λq=>eu q.2).length:=by rw[Yf];exact a.1
  have k:j<(S.map λq=>eu q.2).length:=by rw[Yf];exact b.1
  have l:(S.map λq=>eu q.2)[i]=(S.map λq=>eu q.2)[j]:=by rw[ad9,ad9,a.2,b.2];exact e
  rcases abT i j with z|z|z
  ·exact absurd l (Xg.mp nd i j h k z)
  ·exact z
  ·exact absurd l.symm (Xg.mp nd j i k h z)
 subst this;rw[g]at c;exact YC c
theorem Kt{tb:List (Int×List (Int×Int))}:∀ns:List Nm,Na tb ns<=ns.length
 |[]=>Yj _
 |p::ns=>by
  unfold Na;have:=Kt (tb:=tb) ns;rw[cw];split<;>omega
theorem sO(m:List (Int×Int))(l:List (V×bM))(q:V×bM):lN m (l++[q])=dR (lN m l) q.2.c q.2.k:=by
 unfold lN;rw[abU];rfl
theorem cD:a∈x.ft p↔a=p∨a=x.d∨a=x.t∨a=x.k∨a=x.o∨a=x.ta∨a=x.da∨a=x.ab∨a=x.db∨a∈rwa x.ra∨a∈rwa x.rb:=by
 unfold P7.ft;simp only[YG,Ym,uc,or_false];constructor
 ·rintro((h|h|h|h|h|h|h|h|h)|h|h)<;>simp[h]
 ·rintro(h|h|h|h|h|h|h|h|h|h|h)<;>simp[h]
theorem fQ:aE ["self","calls","sure_places","row","call"] aO (ao oF):=eW
variable{BN:Ye}{tU:Ye}{iC:Ye}{BL:Ye}{Gs:Ye}{gh:Ye}{vL:Ye}{ri:Ye}{zA:Yx}{qP:Yx}{mR:Yx}{z8:Yx}{B6:Yx}{fF:Yx}{sg:Yx}{qb:Yx}(yt:aF P w K mg base bx 7 Mv F2 pJ (FD K mg))(CU:aF P w K mg base bx 7 BN zA pJ (z9 K mg))(CF:eD K mg "placed" BN zA pJ)(gW:aF P w K mg base bx 7 kG jz zF (jl K mg))(sL:aF P w K mg base bx 7 tU qP CW (qO K mg))(uj:Binds K qP CW [])(jV:aF P w K mg base bx 7 iC mR aO (mI K mg))(dE:Binds K mR aO [])(Cm:aF P w K mg base bx 7 BL z8 pq (zO K mg))(CY:eD K mg "why_of" BL z8 pq)(Ge:aF P w K mg base bx 7 Gs B6 rj (BW K))(Ho:eD K mg "least" Gs B6 rj)(jU:aF P w K mg base bx 7 gh fF aO (fG K mg))(d4:Binds K fF aO [])(vN:aF P w K mg base bx 7 vL sg og (sS K mg))(vi:Binds K sg og [])(qA:aF P w K mg base bx 7 ri qb aO (oq K mg))(qI:Binds K qb aO [])(bY:bB K bf "told" iC)(ig:bB K cS "sure" tU)(cM:bB K bF "told" iC)(cQ:bB K bE "told" iC)(bR:bB K cj "kept_calls" gh)(gn:bB K cj "let_go" ri)(iX:bB K cj "take" vL)
include eV yt z4 CU CF gW fb sL uj jV dE Cm CY Ge Ho jU d4 vN vi qA qI av aN az aA aY aw aR aB aC aU bY cG ig cM cQ bR gn iX in
theorem AW(F:bH K "step" "Page.step" oF f fd):aF P w K mg base bx 8 f fd aO (uh K mg):=by
 refine F.oj fQ ?_;rintro _ A _ _ H _ _ _ J _ _ hu ⟨p,rfl,h⟩;refine⟨_,(aj (aX (i:=1) fQ.nd rfl (YB rfl) (bA (bU.cons aY.cl bR jU d4 bU.nil) (pv 0) J))
   (aj (dg (bc oP (aH (K:=K) rfl (pv 0) rfl) (a9 Ge Ho J (aa (aH (K:=K) rfl (pv 0) rfl) af)) (bu _)) (au (cF (K:=K) rfl (pv 0) (bp (br (K:=K) rfl) (a9 CU CF J (aa (aH (K:=K) rfl (pv 0) rfl) (aa (pv 1) (aa (aH (K:=K) rfl (pv 0) rfl) af)))) ax (λ_ _=>rfl)) rfl)) bD)
   (aj (dC (bP (bU.cons aN.cl cG gW fb bU.nil) (aH (K:=K) rfl (pv 0) rfl) J (aa (aH (K:=K) rfl (pv 0) rfl) (aa (bp (br (K:=K) rfl) (a9 yt z4 J (aa (aH (K:=K) rfl (pv 0) rfl) (aa (pv 1) (aa (aH (K:=K) rfl (pv 0) rfl) af)))) ax (λ_ _=>rfl)) af))))
   (aj (aX (i:=2) fQ.nd rfl (YB rfl) (p9 (tY (K:=K) rfl) (aH (K:=K) rfl (pv 0) rfl) tP (t5 (bP (bU.cons aN.cl ig sL uj bU.nil) (aH (K:=K) rfl (pv 0) rfl) J (aa (aH (K:=K) rfl (pv 0) rfl) af)))))
   (aj (aX (i:=3) fQ.nd rfl (YB rfl) (bp (br (K:=K) rfl) (a9 yt z4 J (aa (aH (K:=K) rfl (pv 0) rfl) (aa (pv 1) (aa (pv 2) af)))) ax (λ_ _=>rfl)))
   (aj (kC Ws rfl (bJ (K:=K) rfl (pv 3)) (aP (i:=4) fQ.nd rfl (YB rfl))
   (au (dC (bP (bU.cons aY.cl iX vN vi bU.nil) (pv 0) J (aa (pv 4) af)))))
   (aj (dC (bP (bU.cons aN.cl cG gW fb bU.nil) (aH (K:=K) rfl (pv 0) rfl) J (aa (aH (K:=K) rfl (pv 0) rfl) (aa (aH (K:=K) rfl (pv 0) rfl) af))))
   (aj (dC (bA (bU.cons aY.cl gn qA qI bU.nil) (pv 0) J))
   (au (aL (bQ ["call"] [Yb] rfl rfl (by kernel_rfl) (bJ (K:=K) rfl (pv 3)) (λ_ _ _ _ _ nd=>aP (i:=0) nd rfl (YB rfl)) (λ_ _ _ _ _=>ed) (λ_ _ _ _ _=>(cv (aa (bA (bU.cons aA.cl cQ jV dE (bU.cons av.cl bY jV dE (bU.cons az.cl cM jV dE bU.nil))) (pv 0) J) (aa (a9 Cm CY J (aa (pv 0) af)) af))))))))))))))),?_⟩
 obtain⟨S,x,PA,b3,h10,hl,lo,lt,aS,b5,kk⟩:=h;obtain⟨C,dx,mP,T,hp⟩:=PA.ob;have eC:=mP;rw[aU]at eC;cases eC;obtain⟨cl,n1,n2,n3,n4,n5,n6,n7,n8,n9,n10,n11⟩:=id T;have tK:=aN.cl;have nL:=aN.n1;lia;refine⟨p,rfl,S,x,PA,by omega,λH1 D m s1 hD pz od g1=>?_⟩;have P1:=PA.same s1;have aV:=s1 _ _ hp;have zc:∀q∈m,q∈S.kp:=λq s=>pz.mem_iff.mp s;have zl:m.length<=60:=by rw[pz.length_eq];exact hl
 have zr:QB m:=λq s r J=>QC b5 PA.kn q (zc q s) r (zc r J);have ez:(m.map (·.1)).zip (m.map (·.2))=m:=by
  rw[ada];exact aaN m
 obtain⟨a0,ea⟩:∃a,zk S.ha=.int a:=by
  unfold zk;cases e:GB.hl S.ha with
  |nil=>rw[e]at aS;cases aS
  |cons a r=>exact⟨a,rfl⟩
 have al:∀{A:Hp},(∀q∈m,gK K mg A q.1 q.2)->CZ K mg A (m.map (·.1)) (m.map (·.2)):=λh=>Ew h;have am:∀y∈m.map (·.2),0<=y.c/\y.c<63:=λy U=>by
  obtain⟨q,s,rfl⟩:=YL.mp U;exact PA.kr q (zc q s)
 have an:(m.map (·.2)).length<=60:=by rw[Yf];exact zl
 refine Ad (λσ A=>∃k o',σ=[Ya (.ref p),Ya (.ref D),Yb,Yb,Yb]/\Off [p] H1 A/\gL K mg A p {S with od:=k} {x with o:=o'}/\(o'=x.o∨H o'=Yb)/\k.length<=400/\(zk S.ha≠.int S.me->k=S.od)/\(zk S.ha=.int S.me->∃ap m0,Pw (m.map (·.1)) (m.map (·.2)) S.dn S.od ap k m0/\Qy m m0 Yb)) ?_ λN Zd=>?_
 ·rintro σ A ⟨k,o',rfl,oA,W,fo,c4,b6,b7⟩;obtain⟨xs,ho,hn⟩:=W.od;obtain⟨C',c5,a1,_,b8⟩:=W.ob;rw[aU]at a1;cases a1;have b9:=W.dn;have aq:A D=Ya (.lst (m.map (·.1))):=oA _ _ g1 (λw=>by rw[Yh.mp w,aV]at g1;cases g1);have ca:∀{a},A a=Yb->H a=none:=fun{a} e=>by
   cases w:H a with
   |none=>rfl
   |some u=>
    by_cases v:a=p
    ·rw[v,b8]at e;cases e
    ·rw[oA _ _ (s1 _ _ w) (λq=>v (Yh.mp q))]at e;cases e
  obtain⟨⟨c8,da,a2,db⟩,_⟩:=id W.ab;rw[aR]at a2;cases a2;have cc:∀q∈m,gK K mg A q.1 q.2:=λq s=>W.kc q (zc q s);lia;refine⟨x.d,D,o',rfl,S.dn,_,_,xs,k,.inl b9,PA.td.toCk,bo.of aq,al cc,an,am,.inl (bo.of ho),hn,λH2 t l r hs m0 a3 Zh m1 L cd J gt gl gr ce cf cg ch a4 fw fin=>?_⟩;have ci:bC K H2 t [.ref l,.ref r]:=bC.of gt;have P2:=W.same L;have cj:Rn (m.map (·.1)) (m.map (·.2)) S.dn k a3 m1:=⟨hs,m0,Zh,⟨cf,cg⟩,ch,a4,fw,fin⟩;lia;refine⟨x.ab,S.me,r,rfl,x.db,x.rb,S.ab,m1,P2.ab,.inl gr,ce.toCk,λH3 a5 M ad ck e1 e2 a6=>?_⟩;have P3:=P2.lrb ad ck a6;have o3:Off [x.db] H2 H3:=λb u e n=>ad b u (λw=>n (Yh.mpr w)) e;have k3:lQ H2 H3:=o3.kpf1 P2.ab.dc trivial;have cm:S1 S.ab S.me m1 M:=⟨e1,e2⟩;obtain⟨ae,cn,ar⟩:=P3.od;obtain⟨C3,dc,a7,_,a8⟩:=P3.ob;rw[aU]at a7;cases a7;obtain⟨⟨dd,de,ba,di⟩,_⟩:=id P3.ab;rw[aR]at ba;cases ba;have co:H3 D=Ya (.lst (m.map (·.1))):=o3 _ _ (L _ _ aq) (GD (L _ _ aq) P2.ab.dc (by intro w;cases w));have bb:bo K H3 o' ae:=bo.of cn;lia;refine⟨x.ab,o',rfl,x.db,a5,M,ae,k,P3.ab,.inl bb,ar,by omega,λH4 s4=>?_⟩;have P4:=P3.same s4;obtain⟨C4,dj,dk,_,dl⟩:=P4.ob;have dm:bo K H4 o' ae:=s4.seq bb;lia;intro sp H5 dr s5 bd;have lx:=ar.len;have ds:ae.length=k.length:=lx;have sl:=Kt (tb:=M) k;rw[DQ _ _ (by omega)]at bd;have P5:=P4.same s5;obtain⟨C5,dt,be,_,dv⟩:=P5.ob;rw[aU]at be;cases be;have cp:=P5.dn;have cr:=s5 _ _ (s4 _ _ co);lia;refine⟨x.d,D,sp,rfl,S.dn,_,_,_,k.take (Na M k),.inl cp,PA.td.toCk,bo.of cr,al (λq s=>P5.kc q (zc q s)),an,am,.inl (bo.of bd),yz _ (ar.up (.same (s4.trans s5))),λH6 t2 l2 r2 cs cx d as m2 s6 bf dy cy bg dz dA bh bi bl bm cA bn=>?_⟩;have aI:Rn (m.map (·.1)) (m.map (·.2)) S.dn (k.take (Na M k)) d m2:=⟨cs,cx,as,⟨bh,bi⟩,bl,bm,cA,bn⟩;have c2:bC K H6 t2 [.ref l2,.ref r2]:=bC.of cy;have P6:=P5.same s6;have cB:=Vl aI;have c3:d.length<=60:=by
   have:=DZ aI;have ml:=YQ (λq:bM=>decide (ct S.dn q.c<q.k)) (m.map (·.2));unfold mz at this;omega
  have nl:∀{a u},H5 a=Ya u->l2≠a:=λe w=>by rw[w,e]at bf;cases bf
  lia;refine lu (xs:=d.map (·.1)) (λi σ B=>∃v,σ=[Ya (.ref p),Ya (.ref D),Ya (.ref sp),Ya (.ref l2),v]/\Off [x.d,x.t] H6 B/\gL K mg B p {S with od:=k,ab:=M,dn:=lN S.dn (d.take i),tk:=S.tk++d.take i} {x with o:=o',rb:=a5}) ⟨Yb,rfl,Off.refl _ _,by rw[List.take_zero,gf];exact P6⟩ (λi σ B _ z=>?_) ?_ ?_
  ·obtain⟨_,_,z,_⟩:=z;exact bo.of (z _ _ bg (λw=>by
    simp only[Ym,uc,or_false]at w;exact w.elim (nl P5.dn) (nl P5.tk)))
  ·rintro i y σ B U ⟨v,rfl,oB,O⟩;obtain⟨q,s,rfl⟩:∃q,d[i]?=Ya q/\q.1=y:=by
    rw[Yv]at U;cases w:d[i]? with
    |none=>rw[w]at U;cases U
    |some q=>rw[w]at U;exact⟨q,rfl,YC U⟩
   obtain⟨qz,qk⟩:=cB q (Yy s);have hi:=(Yi.mp s).1;obtain⟨C7,cI,X,_,bt⟩:=O.ob;rw[aU]at X;cases X;lia;refine⟨p,q.1,rfl,_,_,q.2,O,O.kc q (zc q qz),(PA.kr q (zc q qz)).1,(PA.kr q (zc q qz)).2,qk,?_,λI o2 cL=>?_⟩
   ·show(S.tk++d.take i).length<=900;rw[Yq,Y8];omega
   ·lia;refine⟨_,rfl,λb u e nb=>o2 b u (oB b u e nb) nb,?_⟩;rw[aT s,sO,←WZ];exact cL
  rintro σ B ⟨v,rfl,oB,O⟩;rw[Yf,YM]at O;obtain⟨C7,cI,X,_,bt⟩:=O.ob;rw[aU]at X;cases X;obtain⟨⟨dH,dJ,bv,dK⟩,_⟩:=id O.ta;rw[aR]at bv;cases bv;have cN:=O.dn;lia;refine⟨x.ta,S.me,x.d,rfl,x.da,x.ra,S.ta,lN S.dn d,O.ta,.inl cN,O.td.toCk,λH8 dL Y ag bw f1 f2 bE=>?_⟩;have P8:=O.lra ag bw bE;have bF:S1 S.ta S.me (lN S.dn d) Y:=⟨f1,f2⟩;have bG:Y.length=S.ta.length:=by
   have:=congrArg abv bF.keys;rw[Yf,Yf]at this;exact this
  obtain⟨C8,dM,bN,_,cO⟩:=P8.ob;rw[aU]at bN;cases bN;lia;refine⟨p,rfl,_,_,P8,?_,by show Y.length<=10;omega,hl,λH9 k' j o9 bT fk cP P9=>?_⟩
  ·intro w;have w:Y=[]:=w;rw[w]at bG;exact b3 (WY.mp bG.symm)
  have bW:∀b u,H5 b=Ya u->b≠x.d->b≠x.t->B b=Ya u:=λb u e n1 n2=>oB b u (s6 _ _ e) (λw=>by
   simp only[Ym,uc,or_false]at w;exact w.elim n1 n2)
  have cS:H9 l2=Ya (.lst (d.map (·.1))):=by
   have gB:B l2=Ya (.lst (d.map (·.1))):=oB _ _ bg (λw=>by
    simp only[Ym,uc,or_false]at w;exact w.elim (nl P5.dn) (nl P5.tk))
   have g8:=ag _ _ (bV gB O.ta.dc (by intro w;cases w)) gB;refine o9 _ _ g8 (λw=>?_);simp only[Ym,uc,or_false]at w;rcases w with w|w
   ·rw[w,cO]at g8;cases g8
   ·rw[w,P8.kp]at g8;cases g8
  have bX:∀b u,H b=Ya u->b∉x.ft p->H9 b=Ya u:=λb u e nb=>by
   have Q:=λh=>nb (cD.mpr h);have e1:=oA b u (s1 _ _ e) (λw=>Q (.inl (Yh.mp w)));have e3:=ad b u (λw=>Q (by simp[w])) (L _ _ e1);have e5:=s5 _ _ (s4 _ _ e3);have eB:=bW b u e5 (λw=>Q (by simp[w])) (λw=>Q (by simp[w]));have e8:=ag b u (λw=>Q (by simp[w])) eB;refine o9 b u e8 (λw=>?_);simp only[Ym,uc,or_false]at w;rcases w with w|w
   ·exact Q (.inl w)
   ·exact Q (.inr (.inr (.inr (.inl w))))
  lia;intro E9 ah;have cW:∀q∈d,gK K mg H9 q.1 q.2:=λq s=>P9.tc q (YF _ s);refine bL (K:=K) (a:=l2) (xs:=d.map (·.1)) (λi σ B=>∃v R,σ=[v]/\aG H9 B/\B E9=Ya (.lst R)/\R.length=i/\Cz B R (d.take i)) ⟨Yb,[],rfl,aD ah,ai,rfl,.nil⟩ ?_ ?_ ?_
  ·rintro i σ B _ ⟨_,_,_,z,_⟩;exact bo.of (z _ _ cS)
  ·rintro i y σ B U ⟨v,R,rfl,sB,gE,ly,tv⟩;obtain⟨q,s,rfl⟩:∃q,d[i]?=Ya q/\q.1=y:=by
    rw[Yv]at U;cases w:d[i]? with
    |none=>rw[w]at U;cases U
    |some q=>rw[w]at U;exact⟨q,rfl,YC U⟩
   have hi:=(Yi.mp s).1;have cq:=(cW q (Yy s)).up (.same sB);obtain⟨qv,qx⟩:=q;have cq:gK K mg B qv qx:=cq;obtain⟨pc,Cc,dO,tc,dP,rfl,cX,dS,dT,dU,dV,dW⟩:=id cq;have tail:∀Z tt,aG B Z->kP Z (.ref tt) qx->∀u I,Z u=Yb->aG Z I->I u=Ya (.tup [.ref tt,.str (RM qx)])->∃ac,I E9=Ya (.lst ac)/\ac.length<sizeLine/\∃v R,[Ya (V.ref pc)]=[v]/\aG H9 (upd I E9 (.lst (ac++[.ref u])))/\(upd I E9 (.lst (ac++[.ref u]))) E9=Ya (.lst R)/\R.length=i+ 1/\Cz (upd I E9 (.lst (ac++[.ref u]))) R (d.take (i+ 1)):=λZ tt E tl u I hu G gu=>by
    have b0:=G _ _ (E _ _ gE);have kp:dF I (upd I E9 (.lst (R++[V.ref u]))):=dF.lst b0;refine⟨R,b0,aJ (by omega),_,R++[.ref u],rfl,λc o e=>?_,ai,by rw[Yq,ly];rfl,?_⟩
    ·rw[ak (ay e ah)];exact G _ _ (E _ _ (sB c o e))
    ·rw[aT s];exact(tv.up (λa xs e=>kp _ _ (G _ _ (E _ _ e)))).snoc ⟨u,tt,rfl,kp _ _ gu,tl.up (λa xs e=>kp _ _ (G _ _ e))⟩
   show eZ _ _ _ _ _ (V.ref pc) _ _;rcases cX with⟨_,e⟩|⟨_,e⟩|⟨_,e⟩
   ·rw[aC]at e;cases e;lia;refine⟨.ref pc,rfl,qx,cq,λZ tt E _ tl=>?_⟩;lia;refine⟨.ref pc,rfl,qx,cq.up (.same E),?_⟩;lia;intro u I hu G gu;exact tail Z tt E tl u I hu G gu
   ·rw[aw]at e;cases e;lia;refine⟨.ref pc,rfl,qx,cq,λZ tt E _ tl=>?_⟩;lia;refine⟨.ref pc,rfl,qx,cq.up (.same E),?_⟩;lia;intro u I hu G gu;exact tail Z tt E tl u I hu G gu
   ·rw[aB]at e;cases e;lia;refine⟨.ref pc,rfl,qx,cq,λZ tt E _ tl=>?_⟩;lia;refine⟨.ref pc,rfl,qx,cq.up (.same E),?_⟩;lia;intro u I hu G gu;exact tail Z tt E tl u I hu G gu
  rintro σ B' ⟨v9,R,rfl,aK,gE,ly,tv⟩;rw[Yf,YM]at tv;lia;have b1:∀a,B a=Yb->H a=none:=λa e=>by
   cases z:H a with
   |none=>rfl
   |some u=>
    by_cases w1:a=p
    ·rw[w1,bt]at e;cases e
    ·by_cases w2:a=x.d
     ·rw[w2,O.dn]at e;cases e
     ·by_cases w3:a=x.t
      ·rw[w3,O.tk]at e;cases e
      ·by_cases w4:a=x.db
       ·rw[w4,O.ab.dc]at e;cases e
       ·have e1:=oA a u (s1 _ _ z) (λw=>w1 (Yh.mp w));rw[bW a u (s5 _ _ (s4 _ _ (ad a u w4 (L _ _ e1)))) w2 w3]at e;cases e
  have aQ:∀a,H8 a=Yb->H a=none:=λa e=>by
   cases z:B a with
   |none=>exact b1 a z
   |some u=>
    by_cases w:a=x.da
    ·rw[w,bw.dc]at e;cases e
    ·rw[ag a u w z]at e;cases e
  refine kk B' _ _ d E9 R (λb u e nb=>aK _ _ (bX b u e nb)) (λa e=>aQ a (bT a (aK.free e))) (P9.same aK) (λa ha=>?_) ⟨m,a3,m1,m2,k,M,Y,j,pz,od,b6,b7,cj,cm,aI,bF,cP,rfl⟩ (aQ _ (bT _ ah)) (λw=>?_) gE tv
  ·rcases cD.mp ha with w|w|w|w|w|w|w|w|w|w|w
   ·exact .inl (cD.mpr (by simp[w]))
   ·exact .inl (cD.mpr (by simp[w]))
   ·exact .inl (cD.mpr (by simp[w]))
   ·have w:a=k':=w;exact .inr (w▸aQ _ fk)
   ·have w:a=o':=w;rcases fo with v|v
    ·exact .inl (cD.mpr (by simp[w,v]))
    ·exact .inr (w▸v)
   ·exact .inl (cD.mpr (by simp[w]))
   ·exact .inl (cD.mpr (by simp[w]))
   ·exact .inl (cD.mpr (by simp[w]))
   ·exact .inl (cD.mpr (by simp[w]))
   ·obtain⟨q,s,e⟩:=df.mp w;rcases bE q s with v|⟨r,e',v⟩
    ·have:a∈rwa x.ra:=df.mpr ⟨q,v,e⟩;exact .inl (cD.mpr (by simp[this]))
    ·rw[e]at e';cases e';exact .inr (b1 _ v)
   ·obtain⟨q,s,e⟩:=df.mp w;rcases a6 q s with v|⟨r,e',v⟩
    ·have:a∈rwa x.rb:=df.mpr ⟨q,v,e⟩;exact .inl (cD.mpr (by simp[this]))
    ·rw[e]at e';cases e';exact .inr (ca (L.free v))
  ·obtain⟨o,e,_⟩:=P9.fto E9 w;rw[ah]at e;cases e
 ·obtain⟨xs,ho,hn⟩:=P1.od;have dX:=P1.dn;lia;refine⟨S.ha,rfl,PA.ha.1,PA.ha.2,λH2 L=>?_⟩;have b2:=L _ _ aV;have P2:=P1.same L;have cZ:=P2.dn;have c0:=L _ _ ho;rw[ea];lia;refine du (λz=>?_) λz=>?_
  ·have z:S.me=a0:=of_decide_eq_true z;lia;refine⟨x.d,D,x.o,rfl,S.dn,_,_,xs,S.od,.inl cZ,PA.td.toCk,bo.of (L _ _ g1),al (λq s=>P2.kc q (zc q s)),an,by rw[ez];exact zr,am,.inl (bo.of c0),hn.up (.same L),lo,λH3 t l g ap R gs m0 s3 cd hg gt gl gg nm pw la=>?_⟩;have a8:=s3 _ _ b2;have ci:bC K H3 t [.ref l,.ref g]:=bC.of gt;lia;intro H4 b4 g4;rw[xU]at g4;have c1:g≠p:=λw=>by rw[w,b2]at hg;cases hg
   have o4:Off [p] H3 H4:=λb u e nb=>b4.at (λw=>nb (Yh.mpr w)) e;have k4:lQ H3 H4:=o4.kpf1 a8 (by show(11:Nat)≠5;decide);have pl:=R9 (by rw[ez];exact zr) pw;have ml:=YQ (λq:bM=>decide (ct S.dn q.c<q.k)) (m.map (·.2));refine Zd _ _ ⟨gs,g,rfl,λb u e nb=>o4 b u (s3 _ _ (L _ _ e)) nb,(P2.same s3).newo (ma':=S.ma) o4 ⟨_,dx,mP,T,g4⟩ (b4.at c1 gg) (nm.up k4.smh) ?_,.inr (s1.free (L.free hg)),?_,λw=>?_,λ_=>⟨ap,m0,pw,by rw[ez]at la;exact la⟩⟩
   ·intro w;rw[←w,P2.tk]at hg;cases hg
   ·unfold mz at pl;omega
   ·exact absurd (by rw[ea,z]) w
  ·have z:¬ S.me=a0:=λw=>z (decide_eq_true w);exact Zd _ _ ⟨S.od,x.o,rfl,Off.of L,P2,.inl rfl,by omega,λ_=>rfl,λw=>absurd (by rw[ea]at w;cases w;rfl) z⟩
abbrev mB:YT:=bz (eX 46) 4
theorem L3{S:List Int}(t:Ck m)(a:S.Perm (m.map (·.1))):Ck (rZ m S):=by
 have nd:S.Nodup:=a.nodup_iff.mpr t.nd;have b:(rZ m S).map (·.1)=S.filter λk=>decide (0<ct m k):=by
  unfold rZ;rw[xw];exact aaN _
 refine⟨by rw[b];exact nd.filter _,λp hp=>?_,λp hp=>?_⟩
 ·unfold rZ at hp;obtain⟨k,_,rfl⟩:=YL.mp hp;exact t.ct k
 ·unfold rZ at hp;obtain⟨k,c,rfl⟩:=YL.mp hp;exact t.keys k (a.mem_iff.mp (Y4.mp c).1)
def Vx(S:Pg)(kd:Yn)(w:Int)(c:bM):Prop:=∃hs:List Int,hs.Perm (S.dn.map (·.1))/\hs.Pairwise (·<=·)/\c=⟨kd,S.nu,S.me,S.ma+ 1,w,if kd="own"then[]else rZ S.dn hs⟩
structure Nf(S:Pg)(n:Nat):Prop where
 ne:S.ta≠[]
 l10:S.ta.length<=10
 kl:S.kp.length<=n
 ol:S.od.length<=n
 tl:S.tk.length<=8*n
 me:S.me∈GB.hl S.ha
 nu:∀q∈S.kp,q.2.n=S.nu
 ma:0<=S.ma
 mx:∀q∈S.kp,q.2.c=S.me->q.2.k<=S.ma
def qK(K:Yc)(mg:Yn->Option Yd):Sp:=λh H Q E=>∃(p:Ye) (kd:Yn) (w:Int),h=[.ref p,.str kd,.int w]/\∃S x,gL K mg H p S x/\Nf S 59/\(kd="own"∨kd="heard"∨kd="one")/\(if w<0 then-w else w)<10^(60:Int).toNat/\
 (∀b d e rw l f v c j,Off (x.ft p) H b->(∀a,b a=Yb->H a=Yb)->gL K mg b p e d->(∀a∈d.ft p,a∈x.ft p∨H a=Yb)->S4 S.ta j->S.ma-ct j S.me<S.ro->Vx S kd w c->Kr {S with ma:=S.ma+ 1,kp:=S.kp++[(v,c)]} e rw->H l=Yb->l∉d.ft p->b l=Ya (.lst f)->Cz b f rw->Q (.ref l) b)/\
 ∀b j g C,aG H b->S4 S.ta j->¬ (S.ma-ct j S.me<S.ro)->mg "Held"=Ya (.ref C)->H g=Yb->E (.ref g) (Ya C) b
abbrev B8:List Yn:=["self","kind","word"]
theorem qw:aE ["self","kind","word","call"] B8 (ao mB):=eW
variable{jW:Ye}{oX:Ye}{vF:Ye}{je:Yx}{mj:Yx}{tE:Yx}(oG:aF P w K mg base bx 8 pO mL HU (mC K mg))(vm:aF P w K mg base bx 8 xB uW zt (uV K))(jR:aF P w K mg base (BB P w) 8 jW je aO (jc K mg))(jE:Binds K je aO [])(vp:aF P w K mg base bx 8 oX mj og (mH K mg))(j5:Binds K mj og [])(j4:aF P w K mg base bx 8 vF tE aO (uh K mg))(jT:Binds K tE aO [])(dM:bB K cj "check_room" jW)(dO:bB K cj "keep" oX)(dJ:bB K cj "step" vF)
include eV oG jM vm t9 jR jE vp j5 j4 jT av az aA aY aw aB aC aU dM dO dJ in
theorem zj(F:bH K "utter" "Page.utter" mB f fd):aF P w K mg base (BB P w) 9 f fd B8 (qK K mg):=by
 refine F.okX qw (λvs H Q E h=>?_) (λal A outer s H vs Q E g h=>?_)
 ·obtain⟨p,kd,w,rfl,_⟩:=h;rfl
 obtain⟨p,kd,w,rfl,h⟩:=h;have ah:=g.units;have am:=g.units0;have hu:=Hq g;refine⟨_,(aj (dC (wO (pv 0) aY.cl dM jR g jE .nil UX))
   (aj (aX (i:=3) qw.nd rfl (YB rfl) (a9 oG jM g (aa (aH (K:=K) rfl (pv 0) rfl) (aa (aH (K:=K) rfl (pv 0) rfl) (aa (aW d0 (aH (K:=K) rfl (pv 0) rfl) ax) (aa (pv 1) (aa (pv 2) (aa (a9 vm t9 g (aa (aH (K:=K) rfl (pv 0) rfl) af)) af))))))))
   (aj (cF (K:=K) rfl (pv 0) (aH (K:=K) rfl (pv 3) rfl) rfl)
   (aj (dC (bP (bU.cons aY.cl dO vp j5 bU.nil) (pv 0) g (aa (pv 3) af)))
   (au (aL (bA (bU.cons aY.cl dJ j4 jT bU.nil) (pv 0) g))))))),?_⟩
 obtain⟨S,x,PA,ok,L,hw,k1,k2⟩:=h;obtain⟨C,dx,mP,T,hp⟩:=PA.ob;have eC:=mP;rw[aU]at eC;cases eC;obtain⟨cl,n1,n2,n3,n4,n5,n6,n7,n8,n9,n10,n11⟩:=id T;lia;refine AE ?_;lia;refine⟨p,dx,_,rfl,hp,oO,?_⟩;lia;refine⟨p,rfl,S,x,PA,ok.ne,ok.l10,λM j r N k=>?_,λM j ea Ce r N k mh he=>k2 M j ea Ce r N k mh he⟩;have P1:=PA.same r;have O:=r _ _ hp;have R:=P1.dn;have ld:S.dn.length<64:=PA.td.toCk.len;lia;refine⟨x.d,S.dn,rfl,.inl R,ld,λH2 t U hs s2 ht pm so gt pr=>?_⟩;lia;refine⟨S.nu,S.me,S.ma+ 1,kd,w,t,rfl,U,L,hw,gt,λv pc Cc W t' s3 an X tc gc Y=>?_⟩;have d:aG M v:=s2.trans s3;have Z:=P1.same d;have y:=d _ _ O;obtain⟨ap,m1,m2,m3,m4,m5⟩:=id tc;have cA:gK K mg v (.ref pc) ⟨kd,S.nu,S.me,S.ma+ 1,w,if kd="own"then[]else rZ S.dn hs⟩:=by
  refine⟨pc,Cc,W,t',_,rfl,X,tc,gc,Y,?_,?_⟩
  ·by_cases z:kd="own"
   ·show i6 v (if kd="own"then[]else U) (if kd="own"then[]else rZ S.dn hs);rw[if_pos z,if_pos z];exact .nil
   ·show i6 v (if kd="own"then[]else U) (if kd="own"then[]else rZ S.dn hs);rw[if_neg z,if_neg z];exact pr.mono (dF.same s3)
  ·show Ck (if kd="own"then[]else rZ S.dn hs);by_cases z:kd="own"
   ·rw[if_pos z];exact Ck.nil
   ·rw[if_neg z];exact L3 PA.td.toCk pm
 have nw:Vx S kd w ⟨kd,S.nu,S.me,S.ma+ 1,w,if kd="own"then[]else rZ S.dn hs⟩:=⟨hs,pm,so,rfl⟩;generalize (⟨kd,S.nu,S.me,S.ma+ 1,w,if kd="own"then[]else rZ S.dn hs⟩:bM)=c at cA nw;obtain⟨ab,m,aq⟩:c.n=S.nu/\c.c=S.me/\c.k=S.ma+ 1:=by
  obtain⟨_,_,_,e⟩:=nw;rw[e];exact⟨rfl,rfl,rfl⟩
 lia;intro H4 b4 g4;rw[IA]at g4;have B:Off [p] v H4:=λb u e n=>b4.at (λw=>n (Yh.mpr w)) e;have k4:lQ v H4:=B.kpf1 y (by show(11:Nat)≠5;decide);obtain⟨xo,D,ac⟩:=Z.od;have P4:gL K mg H4 p {S with ma:=S.ma+ 1} x:=Z.newo (ma':=S.ma+ 1) (o':=x.o) B ⟨_,dx,mP,T,g4⟩ (B _ _ D (GD D y (by intro z;cases z))) (ac.up k4.smh) Z.to;have c4:=cA.kpf k4;lia;refine⟨p,.ref pc,rfl,_,x,c,P4,c4,?_,by rw[m];exact PA.me.1,by rw[m];exact PA.me.2,by have:=ok.kl;show S.kp.length<=900;omega,λH5 o5 P5=>?_⟩
 ·intro z;obtain⟨q,G,e⟩:=YL.mp z;have G:q∈S.kp:=G;unfold eu at e;have e1:q.2.c=c.c:=by
   have:=(xj (xj e).2).1;exact WM this
  have e2:q.2.k=c.k:=by
   have:=(xj (xj (xj e).2).2).1;exact WM this
  have:=ok.mx q G (by rw[e1,m]);omega
 obtain⟨C5,ar,I,_,ad⟩:=P5.ob;rw[aU]at I;cases I;lia;refine⟨p,rfl,_,x,P5,ok.ne,ok.l10,?_,by have:=ok.ol;show S.od.length<=300;omega,by have:=ok.tl;show S.tk.length<=800;omega,ok.me,λq G=>?_,λH6 x' S' rw l ys o6 ae P6 ag st hl nl gl tv=>?_⟩
 ·show(S.kp++[(V.ref pc,c)]).length<=60;rw[Yq];have:=ok.kl;show S.kp.length+ 1<=60;omega
 ·rcases YG.mp G with z|z
  ·exact ok.nu q z
  ·rw[Yh.mp z];exact ab
 have J:∀b u,H b=Ya u->b∉x.ft p->H5 b=Ya u:=λb u e n=>by
  have e3:=d _ _ (r _ _ e);have e4:=B b u e3 (λz=>n (cD.mpr (.inl (Yh.mp z))));exact o5 b u e4 (λz=>n (cD.mpr (by simp[Yh.mp z])))
 have o:∀a,H5 a=Yb->H a=none:=λa e=>by
  cases z:H a with
  |none=>rfl
  |some u=>
   by_cases w1:a=p
   ·rw[w1,ad]at e;cases e
   ·by_cases w2:a=x.k
    ·rw[w2,P5.kp]at e;cases e
    ·rw[o5 a u (B a u (d _ _ (r _ _ z)) (by simp[w1])) (by simp[w2])]at e;cases e
 refine k1 H6 x' S' rw l ys (.ref pc) c j (λb u e n=>o6 b u (J b u e n) n) (λa e=>o a (ae a e)) P6 (λa ha=>?_) N k nw st (o l hl) nl gl tv;rcases ag a ha with z|z
 ·exact .inl z
 ·exact .inr (o a z)
abbrev lR:YT:=bz (eX 46) 8
theorem jL{α β:Type}{F:α->β->Prop}:∀{l:List α} {m:List β} {a:α} {b:β},Paired F l m->F a b->Paired F (l++[a]) (m++[b])
 |_,_,_,_,.nil,h=>.cons h .nil
 |_,_,_,_,.cons r t,h=>.cons r (jL t h)
theorem KU(xs:List V)(k:Int)(h:0<=k):u5 xs (Ya k) Yb=xs.drop k.toNat:=by
 obtain⟨n,rfl⟩:=WJ h;unfold u5;have a:HT.fZ xs.length 0 (Ya (n:Int))=min n xs.length:=by
  show(if(n:Int)<0 then((n:Int)+ (xs.length:Nat)).toNat else min (n:Int).toNat xs.length)=_;rw[if_neg (by omega),YH]
 have b:HT.fZ xs.length xs.length Yb=xs.length:=rfl;rw[a,b,YH];rcases ae0 n xs.length with z|z
 ·rw[aet z,aac (by rw[Xw];exact Yj _)]
 ·rw[aea z,acF (Yj _),acF z,List.take_nil]
theorem Iu(xs:List V)(k:Int)(h:0<=k):u5 xs Yb (Ya k)=xs.take k.toNat:=by
 obtain⟨n,rfl⟩:=WJ h;unfold u5;have a:HT.fZ xs.length 0 Yb=0:=rfl;have b:HT.fZ xs.length xs.length (Ya (n:Int))=min n xs.length:=by
  show(if(n:Int)<0 then((n:Int)+ (xs.length:Nat)).toNat else min (n:Int).toNat xs.length)=_;rw[if_neg (by omega),YH]
 rw[a,b,aeG,aeZ,YH];rcases ae0 n xs.length with z|z
 ·rw[aet z]
 ·rw[aea z,YM,aac z]
def Vv(H:Hp)(t:Ye)(me:Int)(od:List Nm)(i j:List (Int×List (Int×Int)))(cs:List bM):Prop:=∃a b c d e f g h,H t=Ya (.tup [.int me,.ref a,.ref b,.ref c,.ref d])/\H a=Ya (.tup e)/\nZ H e od/\H b=Ya (.tup f)/\xD H f i/\H c=Ya (.tup g)/\xD H g j/\H d=Ya (.tup h)/\Paired (kP H) h cs
def O2(zs:List (V×bM))(sk:Int)(mv:V):List (V×bM):=match mv with| .int mn=>(zs.drop sk.toNat).take mn.toNat|_=>zs.drop sk.toNat
def qy(K:Yc)(mg:Yn->Option Yd):Sp:=λf H Q _=>∃(p:Ye) (b:Int) (a:V),f=[.ref p,.int b,a]/\∃S x,gL K mg H p S x/\S.kp.length<64/\0<=b/\(a=.non∨∃d:Int,0<=d/\a=.int d)/\
 ∀c t e,aG H c->H t=Yb->e.Perm S.kp->Vv c t S.me S.od (vf S.ta) (vf S.ab) ((O2 e b a).map (·.2))->Q (.ref t) c
abbrev xJ:List Yn:=["self","skip","many"]
theorem hU:aE ["self","skip","many","calls","told"] xJ (ao lR):=eW
variable{oJ:Ye}{m8:Yx}(jb:aF P w K mg base bx 5 oJ m8 aO (mW K mg))(jA:Binds K m8 aO [])(fW:aF P w K mg base bx 5 iC mR aO (mI K mg))(iz:aF P w K mg base bx 5 gh fF aO (fG K mg))(dS:bB K cS "listed" oJ)
include eV jb jA fW dE iz d4 fq av aN az aA aY aw aR aB aC aU bY dS cM cQ bR in
theorem zi{t0:aay}(F:Fj K "piece" "Page.piece" lR f fd [.int 0 t0,.none]):aF P w K mg base bx 6 f fd xJ (qy K mg):=by
 refine F.ok hU (λvs H Q E h=>?_) (λba A outer s H vs Q E u h=>?_)
 ·obtain⟨p,m,W,rfl,_⟩:=h;rfl
 obtain⟨p,m,W,rfl,h⟩:=h;have a6:=u.units;have bb:=u.units0;have hu:=Hq u;refine⟨_,(aj (aX (i:=3) hU.nd rfl (YB rfl) (p9 (tY (K:=K) rfl) (bA (bU.cons aY.cl bR iz d4 bU.nil) (pv 0) u) (t5 (pv 1)) tP))
   (aj (dg (bc wB (pv 2) pX (bu _)) (au (aX (i:=3) hU.nd rfl (YB rfl) (p9 (tY (K:=K) rfl) (pv 3) tP (t5 (pv 2))))) bD)
   (aj (aX (i:=4) hU.nd rfl (YB rfl) (bO (iu (K:=K) rfl) (by rfl) fq WK (aa (bQ ["call"] [Yb] rfl rfl (by kernel_rfl) (bJ (K:=K) rfl (pv 3)) (λ_ _ _ _ _ nd=>aP (i:=0) nd rfl (YB rfl)) (λ_ _ _ _ _=>ed) (λ_ _ _ _ _=>(bA (bU.cons aA.cl cQ fW dE (bU.cons av.cl bY fW dE (bU.cons az.cl cM fW dE bU.nil))) (pv 0) u))) af)))
   (au (aL (cv (aa (aH (K:=K) rfl (pv 0) rfl) (aa (bO (iu (K:=K) rfl) (by rfl) fq WK (aa (aH (K:=K) rfl (pv 0) rfl) af)) (aa (bA (bU.cons aN.cl dS jb jA bU.nil) (aH (K:=K) rfl (pv 0) rfl) u) (aa (bA (bU.cons aN.cl dS jb jA bU.nil) (aH (K:=K) rfl (pv 0) rfl) u) (aa (pv 4) af))))))))))),?_⟩
 obtain⟨S,x,PA,hl,am,G,kk⟩:=h;obtain⟨C,dx,mP,T,hp⟩:=PA.ob;have eC:=mP;rw[aU]at eC;cases eC;obtain⟨cl,n1,n2,n3,n4,n5,n6,n7,n8,n9,n10,n11⟩:=id T;have tK:=aN.cl;have nL:=aN.n1;lia;refine⟨p,rfl,S,x,PA,hl,λH1 D n s1 hD pz od g1=>?_⟩;have bd:bo K H1 D (n.map (·.1)):=bo.of g1;lia;intro c1 H2 be s2 I;rw[KU _ _ am,←List.map_drop]at I;have l2:(n.drop m.toNat).length<64:=by rw[Xw,pz.length_eq];omega
 refine Ad (λσ A=>∃X,σ=[Ya (.ref p),Ya (.int m),Ya W,Ya (.ref X),Yb]/\aG H2 A/\A X=Ya (.lst ((O2 n m W).map (·.1)))) ?_ λN Zd=>?_
 ·rintro σ A ⟨X,rfl,sA,k⟩;have J:aG H A:=s1.trans (s2.trans sA);have ab:=PA.same J;have pl:(O2 n m W).length<64:=by
   rcases G with z|⟨mn,_,z⟩
   ·rw[z];exact l2
   ·rw[z];show((n.drop m.toNat).take mn.toNat).length<64;rw[Y8];omega
  have pin:∀q∈O2 n m W,q∈S.kp:=λq r=>by
   refine pz.mem_iff.mp ?_;rcases G with z|⟨mn,_,z⟩
   ·rw[z]at r;exact aas r
   ·rw[z]at r;exact aas (aar r)
  obtain⟨ps,ac⟩:∃ps,ps=O2 n m W:=⟨_,rfl⟩;rw[←ac]at k pl pin;lia;intro E hE;refine bL (K:=K) (a:=X) (xs:=ps.map (·.1)) (λi σ B=>∃v b,σ=[v]/\aG A B/\B E=Ya (.lst b)/\b.length=i/\Paired (kP B) b ((ps.take i).map (·.2))) ⟨Yb,[],rfl,aD hE,ai,rfl,.nil⟩ ?_ ?_ ?_
  ·rintro i σ B _ ⟨_,_,_,z,_⟩;exact bo.of (z _ _ k)
  ·rintro i y σ B hy ⟨v,b,rfl,Y,gE,ly,tv⟩;obtain⟨q,r,rfl⟩:∃q,ps[i]?=Ya q/\q.1=y:=by
    rw[Yv]at hy;cases w:ps[i]? with
    |none=>rw[w]at hy;cases hy
    |some q=>rw[w]at hy;exact⟨q,rfl,YC hy⟩
   have hi:=(Yi.mp r).1;have Z:=(ab.kc q (pin q (Yy r))).up (.same Y);obtain⟨qv,qx⟩:=q;have Z:gK K mg B qv qx:=Z;obtain⟨pc,Cc,bf,tc,bg,rfl,an,bh,bi,bl,bm,bn⟩:=id Z;have tail:∀j g,aG B j->kP j (.ref g) qx->∃l,j E=Ya (.lst l)/\l.length<sizeLine/\∃v b,[Ya (V.ref pc)]=[v]/\aG A (upd j E (.lst (l++[.ref g])))/\(upd j E (.lst (l++[.ref g]))) E=Ya (.lst b)/\b.length=i+ 1/\Paired (kP (upd j E (.lst (l++[.ref g])))) b ((ps.take (i+ 1)).map (·.2)):=λj g d tl=>by
    have ad:=d _ _ gE;have kp:dF j (upd j E (.lst (b++[V.ref g]))):=dF.lst ad;refine⟨b,ad,aJ (by omega),_,b++[.ref g],rfl,λc o e=>?_,ai,by rw[Yq,ly];rfl,?_⟩
    ·rw[ak (ay e hE)];exact d _ _ (Y c o e)
    ·rw[aT r,Yt];exact jL (Paired.mapP tv λ_ _ z=>z.up (λa xs e=>kp _ _ (d _ _ e))) (tl.up kp)
   show eZ _ _ _ _ _ (V.ref pc) _ _;rcases an with⟨_,e⟩|⟨_,e⟩|⟨_,e⟩
   ·rw[aC]at e;cases e;lia;exact⟨.ref pc,rfl,qx,Z,λj g d _ tl=>tail j g d tl⟩
   ·rw[aw]at e;cases e;lia;exact⟨.ref pc,rfl,qx,Z,λj g d _ tl=>tail j g d tl⟩
   ·rw[aB]at e;cases e;lia;exact⟨.ref pc,rfl,qx,Z,λj g d _ tl=>tail j g d tl⟩
  rintro σ B ⟨v9,b,rfl,Y,gE,ly,tv⟩;rw[Yf,YM]at tv;refine⟨E,b,rfl,.inl ⟨bo.of gE,λg ap=>?_⟩⟩;have L:=aD (o:=.tup b) ap;have g3:(upd B g (.tup b)) g=Ya (.tup b):=ai;generalize upd B g (.tup b)=H3 at L g3⊢;have aq:Paired (kP H3) b (ps.map (·.2)):=Paired.mapP tv λ_ _ z=>z.up (dF.same L);have P3:=ab.same (Y.trans L);obtain⟨C3,bt,ae,_,ar⟩:=P3.ob;rw[aU]at ae;cases ae;obtain⟨xo,bv,as⟩:=P3.od;obtain⟨⟨bw,bE,ag,aI⟩,_⟩:=id P3.ta;rw[aR]at ag;cases ag;obtain⟨⟨bF,bG,ah,aK⟩,_⟩:=id P3.ab;rw[aR]at ah;cases ah;lia;intro oo H4 bN M g4;have P4:=P3.same M;have aQ:=M _ _ ar;have a7:=M _ _ aI;have al:=M _ _ aK;lia;refine⟨x.ta,rfl,x.da,x.ra,S.ta,P4.ta,λH5 a1 xa O bT aS aV=>?_⟩;have P5:=P4.same O;have bW:=O _ _ aQ;have a8:=O _ _ al;lia;refine⟨x.ab,rfl,x.db,x.rb,S.ab,P5.ab,λH6 a2 xb s6 bX a0 a3=>?_⟩;lia;intro t H7 ht R g7;have U:dF H3 H7:=dF.same (M.trans (O.trans (s6.trans R)));have a4:dF H5 H7:=dF.same (s6.trans R);refine kk H7 t n (J.trans (Y.trans (L.trans (M.trans (O.trans (s6.trans R)))))) (J.free (Y.free (L.free (M.free (O.free (s6.free ht)))))) pz ⟨oo,a1,a2,g,xo,xa,xb,b,g7,R _ _ (s6 _ _ (O _ _ g4)),as.up U,R _ _ (s6 _ _ aS),ip a4 aV,R _ _ a0,ip (dF.same R) a3,U _ _ g3,(by rw[←ac];exact Paired.mapP aq λ_ _ z=>kP.up U z)⟩
 ·lia;rcases G with rfl|⟨mn,a5,rfl⟩
  ·rw[show decide (V.non=V.non)=true from decide_eq_true rfl];lia;exact Zd _ _ ⟨c1,rfl,.refl _,I⟩
  ·rw[show decide (V.int mn=V.non)=false from decide_eq_false (by intro z;cases z)];have b0:bo K H2 c1 ((n.drop m.toNat).map (·.1)):=bo.of I;lia;intro X H3 b1 L k;rw[Iu _ _ a5,←List.map_take]at k;lia;exact Zd _ _ ⟨X,rfl,L,k⟩
abbrev iL:YT:=bz (eX 46) 10
inductive E1 (dn:List (Int×Int)) (kp:List (V×bM)):List bM->List (V×bM)->Prop
 |nil:E1 dn kp [] kp
 |skip {cs:List bM} {Zi:List (V×bM)} {c:bM}:E1 dn kp cs Zi->(c.k<=ct dn c.c∨eu c∈Zi.map λq=>eu q.2)->E1 dn kp (cs++[c]) Zi
 |add {cs:List bM} {Zi:List (V×bM)} {c:bM} {v:V}:E1 dn kp cs Zi->¬ c.k<=ct dn c.c->eu c∉Zi.map (λq=>eu q.2)->E1 dn kp (cs++[c]) (Zi++[(v,c)])
theorem E1.len{kp:List (V×bM)}(h:E1 dn kp cs Zi):Zi.length<=kp.length+ cs.length:=by
 induction h with
 |nil=>exact Yj _
 |skip _ _ ih=>rw[Yq];exact cb ih (by omega)
 |add _ _ _ ih=>rw[Yq,Yq,YV,YV];omega
theorem E1.mem{kp:List (V×bM)}(h:E1 dn kp cs Zi):∀q∈Zi,q∈kp∨q.2∈cs:=by
 induction h with
 |nil=>exact λq a=>.inl a
 |skip _ _ ih=>exact λq a=>(ih q a).imp id λz=>Y1 _ z
 |add _ _ _ ih=>
  intro q a;rcases YG.mp a with z|z
  ·exact(ih q z).imp id λz=>Y1 _ z
  ·rw[Yh.mp z];exact .inr (YF _ (Yh.mpr rfl))
theorem BV:(d3 kvs k).isSome=true↔k∈kvs.map (·.1):=by
 rw[←pM,XT,YL];exact⟨fun⟨e,a,z⟩=>⟨e,a,of_decide_eq_true z⟩,fun⟨e,a,z⟩=>⟨e,a,decide_eq_true z⟩⟩
theorem LB{kp:List (V×bM)}:(d3 (kp.map BC) (eu c)).isSome=true↔eu c∈kp.map λq=>eu q.2:=by
 rw[BV,xw];rfl
theorem G7{g i j:Ye}(k:mg "OwnCall"=Ya (.ref g))(l:mg "HeardCall"=Ya (.ref i))(m:mg "OneCall"=Ya (.ref j))(h:gK K mg H v c)(q:∀H' t,aG H H'->H t=Yb->H' t=Ya (.tup [.int c.n,.int c.c,.int c.k])->Q (.ref t) H'):
  SX [(g,cV K),(i,cV K),(j,cV K)] ("name":Yn) Bd σ v H Q:=by
 obtain⟨pc,n,b,tc,o,rfl,d,f,a,p,r,s⟩:=h;have go:cV K (.ref pc::([]++[])) H Q E0:=⟨pc,rfl,n,b,_,_,_,_,_,f,a,q⟩;rcases d with⟨_,e⟩|⟨_,e⟩|⟨_,e⟩
 ·rw[k]at e;cases e;exact ur a sF go
 ·rw[l]at e;cases e;exact uC (ur a sF go)
 ·rw[m]at e;cases e;exact uC (uC (ur a sF go))
def lg(K:Yc)(mg:Yn->Option Yd):Sp:=λf H Q _=>∃(p b:Ye),f=[.ref p,.ref b]/\∃S x d cs,gL K mg H p S x/\H b=Ya (.tup d)/\Paired (kP H) d cs/\(∀c∈cs,Wf c)/\S.kp.length+ cs.length<=800/\
 ∀a e,Off [x.k] H a->gL K mg a p {S with kp:=e} x->E1 S.dn S.kp cs e->Q .non a
abbrev DY:List Yn:=["self","calls"]
theorem gQ:aE ["self","calls","told","call"] DY (ao iL):=eW
variable{zx:Ye}{xH:Yx}(kZ:aF P w K mg base bx 5 hW fT EH (gC K))(de:aF P w K mg base bx 5 eE gw aO (cV K))(z7:aF P w K mg base bx 5 zx xH ["told"] (wU K mg))(zp:eD K mg "call_of" zx xH ["told"])(pK:aF P w K mg base bx 5 oX mj og (mH K mg))
include eV kZ cW de bw z7 zp pK j5 av az aA aY aw aB aC aU aV bh bg dO in
theorem u4(F:bH K "keep_new" "Page.keep_new" iL f fd):aF P w K mg base bx 6 f fd DY (lg K mg):=by
 refine F.oj gQ ?_;rintro _ A _ _ H _ _ _ j _ _ X ⟨p,D,rfl,h⟩;refine⟨_,(au (kC Ws rfl (AH (K:=K) rfl (pv 1)) (aP (i:=2) gQ.nd rfl (YB rfl))
   (aj (aX (i:=3) gQ.nd rfl (YB rfl) (a9 z7 zp j (aa (pv 2) af)))
   (au (dg (PW.pt (w5 (mE (cK K rfl (a9 kZ cW j (aa (aH (K:=K) rfl (pv 0) rfl) (aa (bA (bU.cons aA.cl bg de bw (bU.cons av.cl aV de bw (bU.cons az.cl bh de bw bU.nil))) (pv 3) j) af))))) (ue (Fq (JC X (bA (bU.cons aA.cl bg de bw (bU.cons av.cl aV de bw (bU.cons az.cl bh de bw bU.nil))) (pv 3) j) (aH (K:=K) rfl (pv 0) rfl)))))) (au (dC (bP (bU.cons aY.cl dO pK j5 bU.nil) (pv 0) j (aa (pv 3) af)))) bD))))),?_⟩
 obtain⟨S,x,N,cs,PA,O,tl,wf,hl,Y⟩:=h;have Z:N.length=cs.length:=Y0 tl;lia;refine Bq (xs:=N) (λi σ A=>∃l m a,σ=[Ya (.ref p),Ya (.ref D),l,m]/\Off [x.k] H A/\gL K mg A p {S with kp:=a} x/\E1 S.dn S.kp (cs.take i) a) ⟨Yb,Yb,S.kp,rfl,Off.refl _ _,PA,.nil⟩ (λi σ A _ z=>?_) ?_ ?_
 ·obtain⟨_,_,_,_,z,_⟩:=z;exact bC.of (z _ _ O (GD O PA.kp (by intro w;cases w)))
 ·rintro i y σ A hy ⟨l,m,a,rfl,n,d,kr⟩;obtain⟨c,s,tc⟩:=dD tl hy;have kf:lQ H A:=n.kpf1 PA.kp trivial;have E:=wf c (Yy s);have hi:=(Yi.mp s).1;obtain⟨C,dx,mP,T,hp⟩:=d.ob;have Q:=mP;rw[aU]at Q;cases Q;obtain⟨cl,n1,n2,n3,n4,n5,n6,n7,n8,n9,n10,n11⟩:=id T;lia;refine⟨y,rfl,c,tc.up kf.smh,E,λA1 pc t ab R=>?_⟩;have v:=d.same t;have G:=t _ _ hp;have I:=v.dn;have ac:=v.kp;have skip:∀{B:Hp},aG A1 B->(c.k<=ct S.dn c.c∨eu c∈a.map λq=>eu q.2)->∃l m a,[Ya (V.ref p),Ya (V.ref D),Ya y,Ya (V.ref pc)]=[Ya (.ref p),Ya (.ref D),l,m]/\Off [x.k] H B/\gL K mg B p {S with kp:=a} x/\E1 S.dn S.kp (cs.take (i+ 1)) a:=fun{B} s' h=>by
   refine⟨_,_,a,rfl,(n.same t).same s',v.same s',?_⟩;rw[aT s];exact .skip kr h
  lia;refine G7 aC aw aB R λA2 t2 g ad g2=>?_;lia;refine⟨x.d,t2,rfl,S.dn,_,_,_,.inl (g _ _ I),bC.of g2,?_⟩;lia;refine du (λh1=>?_) λh1=>?_
  ·have h1:¬ c.k<=ct S.dn c.c:=by simpa using h1
   have J:=g _ _ G;have o:=R.up (.same g);lia;refine G7 aC aw aB o λA3 t3 r ae g3=>?_;have ag:=r _ _ J;have U:=v.same (g.trans r);have L:=U.kp;lia;refine⟨x.k,_,rfl,iy.t (k:=eu c) L g3,?_⟩;lia;refine du (λh2=>?_) λh2=>?_
   ·have h2:eu c∉a.map λq=>eu q.2:=λz=>by rw[LB.mpr z]at h2;exact absurd h2 (by decide)
    have M:=o.up (.same r);have kl:=kr.len;have lt:(cs.take i).length<=cs.length:=by rw[Y8];omega
    lia;refine⟨p,.ref pc,rfl,_,x,c,U,M,h2,E.c0,E.c1,by show a.length<=900;omega,λA4 o4 P4=>?_⟩;lia;refine⟨_,_,a++[(.ref pc,c)],rfl,λb u e W=>o4 b u (r _ _ (g _ _ (t _ _ (n b u e W)))) W,P4,?_⟩;rw[aT s];exact .add kr h1 h2
   ·have h2:eu c∈a.map λq=>eu q.2:=LB.mp (by
     cases w:(d3 (a.map BC) (eu c)).isSome with
     |true=>rfl
     |false=>rw[w]at h2;exact absurd rfl h2)
    exact skip (g.trans r) (.inr h2)
  ·have h1:c.k<=ct S.dn c.c:=by simpa using h1
   exact skip g (.inl h1)
 rintro σ A ⟨l,m,a,rfl,n,d,kr⟩;rw[Z,YM]at kr;exact Y A a n d kr
abbrev kF:YT:=bz (eX 46) 9
abbrev lP:YT:=bz (eX 46) 14
def S8(tb ls a:List (Int×List (Int×Int))):Prop:=a.map (·.1)=tb.map (·.1)/\∀h∈tb.map (·.1),∀k,ct ((tbl a h).getD []) k=QJ ls h k (ct ((tbl tb h).getD []) k)
theorem S8.len{ls:List (Int×List (Int×Int))}(h:S8 tb ls Zt):Zt.length=tb.length:=by
 have:=congrArg abv h.1;rw[Yf,Yf]at this;exact this
def V3(S:Pg)(c:List Nm)(e f:List (Int×List (Int×Int)))(cs:List bM)(g:Pg):Prop:=∃d a b,E1 S.dn S.kp cs d/\S8 S.ta e a/\S8 S.ab f b/\g={S with kp:=d,od:=if S.od.length<c.length then c else S.od,ta:=a,ab:=b}
def ju(K:Yc)(mg:Yn->Option Yd):Sp:=λn H Q _=>∃(p t:Ye),n=[.ref p,.ref t]/\∃S x g h d f cs,gL K mg H p S x/\Vv H t g h d f cs/\(∀c∈cs,Wf c/\c.n=S.nu)/\Nf S 100/\S.kp.length+ cs.length<=60/\h.length<=100/\d.length<=64/\f.length<=64/\(∀e∈d,Td e.2)/\(∀e∈f,Td e.2)/\
 (g=S.me->∀b l,aG H b->H l=Yb->b l=Ya (.lst [])->Q (.ref l) b)/\
 (g≠S.me->∀b i j k rw l m,Off (x.ft p) H b->(∀a,b a=Yb->H a=Yb)->gL K mg b p k i->(∀a∈i.ft p,a∈x.ft p∨H a=Yb)->V3 S h d f cs j->Kr j k rw->H l=Yb->l∉i.ft p->b l=Ya (.lst m)->Cz b m rw->Q (.ref l) b)
abbrev BY:List Yn:=["self","piece"]
theorem xC:aE ["self","piece"] BY (ao kF):=eW
variable{qT:Ye}{nN:Ye}{oQ:Yx}{kU:Yx}(kK:aF P w K mg base bx 8 qT oQ C0 (pW K mg))(km:Binds K oQ C0 [])(nD:aF P w K mg base bx 8 nN kU DY (lg K mg))(nF:Binds K kU DY [])(eG:bB K cS "merge" qT)(eR:bB K cj "keep_new" nN)
include eV kK km j4 jT nD nF d5 iO aN aY aR aU eG eR dJ in
theorem yb(F:bH K "listen" "Page.listen" kF f fd):aF P w K mg base bx 9 f fd BY (ju K mg):=by
 refine F.oj xC ?_;rintro _ A _ _ H _ _ _ hr _ _ _ ⟨p,t,rfl,h⟩;refine⟨_,(aj (dg (bc oP (bp (br (K:=K) rfl) (pv 1) ax (λ_ _=>rfl)) (aH (K:=K) rfl (pv 0) rfl) (bu _)) (au (aL (dQ af))) bD)
   (aj (dC (bP (bU.cons aY.cl eR nD nF bU.nil) (pv 0) hr (aa (bp (br (K:=K) rfl) (pv 1) ax (λ_ _=>rfl)) af)))
   (aj (dg (bc L0 (bj (cY (K:=K) rfl) (by rfl) d5 Wr (aa (bp (br (K:=K) rfl) (pv 1) ax (λ_ _=>rfl)) af)) (bj (cY (K:=K) rfl) (by rfl) d5 Wr (aa (aH (K:=K) rfl (pv 0) rfl) af)) (bu _)) (au (cF (K:=K) rfl (pv 0) (bO (yH (K:=K) rfl) (by rfl) iO W4 (aa (bp (br (K:=K) rfl) (pv 1) ax (λ_ _=>rfl)) af)) rfl)) bD)
   (aj (dC (bP (bU.cons aN.cl eG kK km bU.nil) (aH (K:=K) rfl (pv 0) rfl) hr (aa (bp (br (K:=K) rfl) (pv 1) ax (λ_ _=>rfl)) af)))
   (aj (dC (bP (bU.cons aN.cl eG kK km bU.nil) (aH (K:=K) rfl (pv 0) rfl) hr (aa (bp (br (K:=K) rfl) (pv 1) ax (λ_ _=>rfl)) af)))
   (au (aL (bA (bU.cons aY.cl dJ j4 jT bU.nil) (pv 0) hr)))))))),?_⟩
 obtain⟨S,x,L,D,la,lb,cs,PA,⟨O,Q,R,U,xo,xa,xb,xt,gt,ar,no,as,av,aw,az,aA,aB⟩,wf,ok,hl,bv,aC,aI,aK,aQ,k1,k2⟩:=h;obtain⟨C,dx,mP,T,hp⟩:=PA.ob;have eC:=mP;rw[aU]at eC;cases eC;obtain⟨cl,n1,n2,n3,n4,n5,n6,n7,n8,n9,n10,n11⟩:=id T;have tK:=aN.cl;have nL:=aN.n1;have bw:bC K H t [.int L,.ref O,.ref Q,.ref R,.ref U]:=bC.of gt;refine tW ?_;lia;refine du (λz=>?_) λz=>?_
 ·have z:L=S.me:=of_decide_eq_true z;lia;intro l d aS s1 g1;exact k1 z d l s1 aS g1
 ·have z:¬ L=S.me:=λw=>z (decide_eq_true w);have k2:=k2 z;lia;refine⟨p,U,rfl,S,x,xt,cs,PA,aA,aB,λc hc=>(wf c hc).1,by omega,λd Zi o1 M kr=>?_⟩;have aV:lQ H d:=o1.kpf1 PA.kp trivial;have u1:=aV.smh;have bl:bC K d t [.int L,.ref O,.ref Q,.ref R,.ref U]:=bC.of (u1 _ _ gt);obtain⟨C1,a0,V,_,E⟩:=M.ob;rw[aU]at V;cases V;obtain⟨xq,a3,a4⟩:=M.od;have bE:bo K d x.o xq:=bo.of a3;have bm:bC K d O xo:=bC.of (u1 _ _ ar);have bF:xo.length=D.length:=no.len;have bG:xq.length=S.od.length:=a4.len;refine Ad (λσ A=>∃j,σ=[Ya (.ref p),Ya (.ref t)]/\Off [p] d A/\gL K mg A p {S with kp:=Zi,od:=if S.od.length<D.length then D else S.od} {x with o:=j}/\(j=x.o∨d j=Yb)) ?_ λN Zd=>?_
  ·rintro σ A ⟨j,rfl,oA,g,fo⟩;have a5:lQ d A:=oA.kpf1 E (by show(11:Nat)≠5;decide);have uA:=u1.trans a5.smh;obtain⟨CA,bN,W,_,a6⟩:=g.ob;rw[aU]at W;cases W;have bn:bC K A t [.int L,.ref O,.ref Q,.ref R,.ref U]:=bC.of (uA _ _ gt);obtain⟨⟨bR,bT,X,bW⟩,_⟩:=id g.ta;rw[aR]at X;cases X;lia;refine⟨x.ta,Q,rfl,x.da,x.ra,S.ta,xa,la,g.ta,bC.of (uA _ _ as),ip uA av,aC,aK,λy a7 k m Y e1 e2 Z=>?_⟩;have P3:=g.lra m Y Z;have o3:Off [x.da] A y:=λb u e n=>m b u (λw=>n (Yh.mpr w)) e;have a8:lQ A y:=o3.kpf1 g.ta.dc trivial;have u3:=uA.trans a8.smh;obtain⟨C3,bX,ab,_,bY⟩:=P3.ob;rw[aU]at ab;cases ab;have bt:bC K y t [.int L,.ref O,.ref Q,.ref R,.ref U]:=bC.of (u3 _ _ gt);obtain⟨⟨b0,b1,ac,b2⟩,_⟩:=id P3.ab;rw[aR]at ac;cases ac;lia;refine⟨x.ab,R,rfl,x.db,x.rb,S.ab,xb,lb,P3.ab,bC.of (u3 _ _ aw),ip u3 az,aI,aQ,λH4 ba ad G ae f1 f2 ag=>?_⟩;have P4:=P3.lrb G ae ag;obtain⟨C4,b4,ah,_,b5⟩:=P4.ob;rw[aU]at ah;cases ah;have I:S8 S.ta la k:=⟨e1,e2⟩;have bb:S8 S.ab lb ad:=⟨f1,f2⟩;have kl:=kr.len;lia;refine⟨p,rfl,_,_,P4,?_,?_,?_,?_,?_,ok.me,?_,λH5 x' S' rw l ys o5 bd P5 be st bf nl gl tv=>?_⟩
   ·intro w;have w:k=[]:=w;have:=I.len;rw[w]at this;exact ok.ne (WY.mp this.symm)
   ·show k.length<=10;rw[I.len];exact ok.l10
   ·show Zi.length<=60;omega
   ·show(if S.od.length<D.length then D else S.od).length<=300;have:=ok.ol;split<;>omega
   ·show S.tk.length<=800;have:=ok.tl;omega
   ·intro q hq;rcases kr.mem q hq with w|w
    ·exact ok.nu q w
    ·exact(wf _ w).2
   ·have al:∀b u,H b=Ya u->b∉x.ft p->H4 b=Ya u:=λb u e B=>by
     have s:=λh=>B (cD.mpr h);have e1:=o1 b u e (λw=>s (by simp[Yh.mp w]));have eA:=oA b u e1 (λw=>s (.inl (Yh.mp w)));have e3:=m b u (λw=>s (by simp[w])) eA;exact G b u (λw=>s (by simp[w])) e3
    have am:∀a,d a=Yb->H a=none:=λa e=>by
     cases v:H a with
     |none=>rfl
     |some u=>
      by_cases w:a=x.k
      ·rw[w,M.kp]at e;cases e
      ·rw[o1 a u v (by simp[w])]at e;cases e
    have an:∀a,A a=Yb->H a=none:=λa e=>am a (by
     cases v:d a with
     |none=>rfl
     |some u=>
      by_cases w:a=p
      ·rw[w,a6]at e;cases e
      ·rw[oA a u v (by simp[w])]at e;cases e)
    have ap:∀a,y a=Yb->H a=none:=λa e=>an a (by
     cases v:A a with
     |none=>rfl
     |some u=>
      by_cases w:a=x.da
      ·rw[w,Y.dc]at e;cases e
      ·rw[m a u w v]at e;cases e)
    have J:∀a,H4 a=Yb->H a=none:=λa e=>ap a (by
     cases v:y a with
     |none=>rfl
     |some u=>
      by_cases w:a=x.db
      ·rw[w,ae.dc]at e;cases e
      ·rw[G a u w v]at e;cases e)
    have aq:∀a∈({{{x with o:=j}with ra:=a7}with rb:=ba}:P7).ft p,a∈x.ft p∨H a=none:=λa ha=>by
     rcases cD.mp ha with w|w|w|w|w|w|w|w|w|w|w
     ·exact .inl (cD.mpr (by simp[w]))
     ·exact .inl (cD.mpr (by simp[w]))
     ·exact .inl (cD.mpr (by simp[w]))
     ·exact .inl (cD.mpr (by simp[w]))
     ·have w:a=j:=w;rcases fo with v|v
      ·exact .inl (cD.mpr (by simp[w,v]))
      ·exact .inr (w▸am _ v)
     ·exact .inl (cD.mpr (by simp[w]))
     ·exact .inl (cD.mpr (by simp[w]))
     ·exact .inl (cD.mpr (by simp[w]))
     ·exact .inl (cD.mpr (by simp[w]))
     ·obtain⟨q,hq,e⟩:=df.mp w;rcases Z q hq with v|⟨r,e',v⟩
      ·have:a∈rwa x.ra:=df.mpr ⟨q,v,e⟩;exact .inl (cD.mpr (by simp[this]))
      ·rw[e]at e';cases e';exact .inr (an _ v)
     ·obtain⟨q,hq,e⟩:=df.mp w;rcases ag q hq with v|⟨r,e',v⟩
      ·have:a∈rwa x.rb:=df.mpr ⟨q,v,e⟩;exact .inl (cD.mpr (by simp[this]))
      ·rw[e]at e';cases e';exact .inr (ap _ v)
    refine k2 H5 x' _ S' rw l ys (λb u e B=>o5 b u (al b u e B) (λw=>?_)) (λa e=>J a (bd a e)) P5 (λa ha=>?_) ⟨Zi,k,ad,kr,I,bb,rfl⟩ st (J l bf) nl gl tv
    ·rcases aq b w with v|v
     ·exact B v
     ·rw[e]at v;cases v
    ·rcases be a ha with v|v
     ·exact aq a v
     ·exact .inr (J a v)
  ·lia;refine du (λw=>?_) λw=>?_
   ·have w:S.od.length<D.length:=by
     have w:((xq.length:Nat):Int)<((xo.length:Nat):Int):=of_decide_eq_true w;omega
    lia;intro j H2 i s2 bg;have bh:=s2 _ _ E;lia;intro y b3 g3;rw[xU]at g3;have P2:=M.same s2;have o3:Off [p] H2 y:=λb u e B=>b3.at (λv=>B (Yh.mpr v)) e;have k3:lQ H2 y:=o3.kpf1 bh (by show(11:Nat)≠5;decide);have bi:j≠p:=λv=>by rw[v,E]at i;cases i
    refine Zd _ _ ⟨j,rfl,λb u e B=>o3 b u (s2 _ _ e) B,?_,.inr i⟩;rw[if_pos w];exact P2.newo (ma':=S.ma) o3 ⟨_,a0,mP,T,g3⟩ (b3.at bi bg) (no.up ((u1.trans (dF.same s2)).trans k3.smh)) (λv=>by rw[←v,M.tk]at i;cases i)
   ·have w:¬ S.od.length<D.length:=λv=>w (decide_eq_true (by
     show((xq.length:Nat):Int)<((xo.length:Nat):Int);omega))
    refine Zd _ _ ⟨x.o,rfl,Off.refl _ _,?_,.inl rfl⟩;rw[if_neg w];exact M
def qJ(K:Yc)(mg:Yn->Option Yd):Sp:=λb H Q _=>∃(p:Ye),b=[.ref p]/\∃S x,gL K mg H p S x/\∀a d,aG H a->H d=Yb->a d=Ya (.dK (dI S.dn))->Q (.ref d) a
theorem yV:aE ["self"] aO (ao lP):=eW
include eV iI aY aU in
theorem zh(F:bH K "taken" "Page.taken" lP f fd):aF P w K mg base bx 1 f fd aO (qJ K mg):=by
 refine F.oj yV ?_;rintro _ _ _ _ _ _ _ _ _ _ _ _ ⟨p,rfl,h⟩;refine⟨_,(au (aL (bO JB (by rfl) iI W5 (aa (aH (K:=K) rfl (pv 0) rfl) af)))),?_⟩;obtain⟨S,x,PA,a⟩:=h;obtain⟨C,g,i,T,hp⟩:=PA.ob;obtain⟨cl,n1,n2,n3,n4,n5,n6,n7,n8,n9,n10,n11⟩:=id T;have j:=PA.dn;have ld:=PA.td.toCk.len;lia;intro d b hd c e;exact a b d c hd e
abbrev SW(x:bM):Nm:=(x.n,x.c,x.k)
theorem GL{α:Type}[DecidableEq α]:∀{l m:List α},l.Nodup->(∀a∈l,a∈m)->l.length<=m.length
 |[],_,_,_=>Y6 _
 |a::l,m,nd,h=>by
  rw[tq]at nd;have ha:=h a Ys;have:=GL (l:=l) (m:=m.erase a) nd.2 λb c=>by
   refine(abf λz:b=a=>nd.1 (z▸c)).mpr (h b (Yp _ c))
  rw[List.length_erase_of_mem ha]at this;have:=List.length_pos_of_mem ha;rw[cw];omega
structure Ik(hs:List Int)(mk:List bM)(S:Pg):Prop where
 ne:S.ta≠[]
 l10:S.ta.length<=10
 me:S.me∈GB.hl S.ha
 kin:∀q∈S.kp,q.2∈mk
 kl:S.kp.length<=mk.length
 od:S.od.Nodup
 oin:∀n∈S.od,n∈mk.map SW
 tl:S.tk.length+ mz mk S.dn<=mk.length
 dk:∀e∈S.dn,e.1∈hs
structure N0(hs:List Int)(nu:Int)(mk:List bM):Prop where
 wf:∀c∈mk,Wf c
 nu:∀c∈mk,c.n=nu
 hs:∀c∈mk,c.c∈hs
variable{hs:List Int}{nu:Int}
def wV(m:List (Int×Int))(rw:List (V×bM)):Prop:=∀(i:Nat) (q:V×bM),rw[i]?=Ya q->q.2.k=ct (lN m (rw.take i)) q.2.c+ 1/\(q.2.kd=("own":Yn)∨cov (lN m (rw.take i)) (eh q.2.cs)=true)
theorem wV.snoc(h:wV m rw)(hk:q.2.k=ct (lN m rw) q.2.c+ 1)(b:q.2.kd="own"∨cov (lN m rw) (eh q.2.cs)=true):wV m (rw++[q]):=by
 intro i r a;rcases XS i rw.length with z|z
 ·rw[Xf z]at a;rw[abj (pe z)];exact h i r a
 ·have:i=rw.length:=by
   have:=(Yi.mp a).1;rw[Yq,YV]at this;omega
  subst this;rw[W9 (Yj _),acf]at a;have:q=r:=YC a;subst this;rw[aeu]
  ·exact⟨hk,b⟩
  ·rfl
theorem Jw(h:∀k,ct m k=ct m' k):cov m n=cov m' n:=by
 unfold cov;simp only[h]
theorem Qq{d:List (Int×Int)}(h0:∀k,ct m0 k=ct d k)(h:Fw hs (yZ zs) ns m0 rw Zh m):wV d rw/\(∀k,ct m k=ct (lN d rw) k)/\∀q∈rw,q∈zs:=by
 induction h with
 |start=>exact⟨λi q a=>by simp at a,h0,λq a=>nomatch a⟩
 |@step rw Zh m v x f e ih=>
  obtain⟨h,_,l,b⟩:=wF e;obtain⟨n,c,g⟩:=qj l;have g:x.k=ct m h+ 1:=g;have c:x.c=h:=c;obtain⟨c1,j,o⟩:=ih;refine⟨c1.snoc ?_ ?_,λk=>?_,λq a=>?_⟩
  ·show x.k=ct (lN d rw) x.c+ 1;rw[←j,g,c]
  ·show x.kd="own"∨cov (lN d rw) (eh x.cs)=true;unfold Cp Oq at b;rw[XQ,XQ,aek]at b;rcases b.1.2 with z|z
   ·exact .inl (of_decide_eq_true z)
   ·exact .inr (by rw[←Jw j];exact z)
  ·rw[sO,uT,uT];by_cases z:k=x.c
   ·rw[if_pos z,if_pos z]
   ·rw[if_neg z,if_neg z];exact j k
  ·rcases YG.mp a with z|z
   ·exact o q z
   ·rw[Yh.mp z];exact n
theorem Dx(zs:List (V×bM)):(zs.map (·.1)).zip (zs.map (·.2))=zs:=by
 rw[ada];exact aaN zs
theorem R6(h:Rn (zs.map (·.1)) (zs.map (·.2)) m ns rw m'):wV m rw/\∀q∈rw,q∈zs:=by
 obtain⟨hs,a,b,_,_,e,f,_⟩:=h;rw[Dx]at f;have:=Qq e f;exact⟨this.1,this.2.2⟩
theorem RL:∀{rw:List (V×bM)},wV m rw->(∀q∈rw,q.2∈mk)->rw.length+ mz mk (lN m rw)<=mz mk m:=by
 intro rw;generalize e:rw.length=n
 induction n generalizing rw with
 |zero=>
  intro _ _;rw[WY.mp e];show 0+ mz mk m<=mz mk m;omega
 |succ n ih=>
  intro h hm;have ne:rw≠[]:=λz=>by rw[z]at e;cases e
  obtain⟨l,q,rfl⟩:∃l q,rw=l++[q]:=⟨rw.dropLast,rw.getLast ne,(List.dropLast_concat_getLast ne).symm⟩;have b:l.length=n:=by rw[Yq,YV]at e;omega
  have h1:wV m l:=λi r a=>by
   have c:=(Yi.mp a).1;have:=h i r (by rw[Xf c];exact a);rw[abj (pe c)]at this;exact this
  have f:=ih b h1 λr a=>hm r (Y1 _ a);have d:=(h n q (by rw[W9 (by omega),b,acf];rfl)).1;rw[aeu b]at d;have:=Ls (cs:=mk) (m:=lN m l) (hm q (YF _ (Yh.mpr rfl))) d;rw[sO];omega
theorem zG{k v:Int}:∀{m:List (Int×Int)} {e:Int×Int},e∈dR m k v->e.1=k∨∃a∈m,a.1=e.1
 |[],e,h=>by
  have:e=(k,v):=by simpa [dR]using h
  exact .inl (by rw[this])
 |p::m,e,h=>by
  unfold dR at h;by_cases z:p.1=k
  ·rw[if_pos z]at h;rcases Ym.mp h with w|w
   ·exact .inl (by rw[w];exact z)
   ·exact .inr ⟨e,Yp _ w,rfl⟩
  ·rw[if_neg z]at h;rcases Ym.mp h with w|w
   ·exact .inr ⟨p,Ys,by rw[w]⟩
   ·exact(zG w).imp id fun⟨a,h1,h2⟩=>⟨a,Yp _ h1,h2⟩
theorem JK(h0:∀e∈m,e.1∈hs):∀{rw:List (V×bM)},(∀q∈rw,q.2.c∈hs)->∀e∈lN m rw,e.1∈hs:=by
 intro rw;unfold lN
 induction rw generalizing m with
 |nil=>intro _;exact h0
 |cons q rw ih=>
  intro b;refine ih (m:=dR m q.2.c q.2.k) (λe c=>?_) λr d=>b r (Yp _ d);have:=zG c;rcases this with z|z
  ·rw[z];exact b q Ys
  ·obtain⟨f,a,g⟩:=z;rw[←g];exact h0 f a
theorem U9{T:List Nm}(hz:∀q∈zs,SW q.2∈T)(nd:ns.Nodup)(hn:∀n∈ns,n∈T)(h:Pw (zs.map (·.1)) (zs.map (·.2)) m ns Zu gs m'):gs.Nodup/\∀n∈gs,n∈T:=by
 induction h with
 |start _=>exact⟨nd,hn⟩
 |@step Zu rw gs m1 m2 q j p la fo rn ih=>
  obtain⟨i,l⟩:=ih;obtain⟨g,o,_⟩:=la;rw[Dx]at g;refine⟨?_,λn d=>?_⟩
  ·rw[xi];refine⟨i.sublist (aaf _ _),by simp,λa ha b f z=>?_⟩;have f:b=(q.2.n,q.2.c,q.2.k):=by simpa using f
   obtain⟨k,c⟩:=YR ha;rw[adz]at c;by_cases w:k<j
   ·rw[if_pos w]at c;obtain⟨r,e⟩:=Yi.mp c;have:=fo.2.1 k r w;rw[e,z,f]at this;have this:q.2.k<=ct m1 q.2.c:=this;have:=(AQ o).2;omega
   ·rw[if_neg w]at c;cases c
  ·rcases YG.mp d with z|z
   ·exact l n (aar z)
   ·rw[Yh.mp z];exact hz q g
theorem LX(M:N0 hs nu mk)(h:Ik hs mk S)(st:Kr S S' rw):Ik hs mk S'/\wV S.dn rw/\(∀q∈rw,q.2∈mk)/\S'.dn=lN S.dn rw/\S'.me=S.me/\S'.nu=S.nu/\S'.ha=S.ha/\S'.ro=S.ro/\S'.ma=S.ma/\∀q∈S'.kp,q∈S.kp:=by
 obtain⟨v,i,w,x,d,k,b,j,g,_,l,m,o,y,f,p,A,rfl⟩:=st;obtain⟨c1,r⟩:=R6 f;have c:∀q∈rw,q.2∈mk:=λq a=>h.kin q (g.mem_iff.mp (r q a));have lt:b.length=S.ta.length:=by
  have:=congrArg abv p.keys;rw[Yf,Yf]at this;exact this
 have e:d.Nodup/\∀n∈d,n∈mk.map SW:=by
  by_cases z:zk S.ha=.int S.me
  ·obtain⟨s,B,t,_⟩:=m z;exact U9 (λq a=>YY (h.kin q (g.mem_iff.mp a))) h.od h.oin t
  ·rw[l z];exact⟨h.od,h.oin⟩
 have u:=RL c1 c;have tl:=h.tl;refine⟨⟨λz=>?_,by show b.length<=10;rw[lt];exact h.l10,h.me,λq a=>h.kin q (Y4.mp a).1,cb (YQ _ _) h.kl,e.1,e.2,?_,JK h.dk λq a=>M.hs _ (c q a)⟩,c1,c,rfl,rfl,rfl,rfl,rfl,rfl,λq a=>(Y4.mp a).1⟩
 ·have z:b=[]:=z;rw[z]at lt;exact h.ne (WY.mp lt.symm)
 ·show(S.tk++rw).length+ mz mk (lN S.dn rw)<=mk.length;rw[Yq];omega
abbrev jn:YT:=eX 48
abbrev mF:YT:=eX 49
abbrev mN:YT:=eX 50
def nA(K:Yc):Sp:=λb H Q _=>∃(a:Ye) (k:Int),b=[.ref a,.int k]/\∃ns:List Int,bo K H a (ns.map V.int)/\0<=k/\∀c:Int,Q (.int c) H
abbrev DN:List Yn:=["_law_script","_law_k"]
theorem vT:aE ["_law_script","_law_k"] DN (ao jn):=eW
include eV d5 in
theorem vY(F:bH K "_law_cell_at" "_law_cell_at" jn f fd):aF P w K mg base bx 1 f fd DN (nA K):=by
 refine F.oj vT ?_;rintro _ _ _ _ _ _ _ _ _ _ _ _ ⟨a,k,rfl,h⟩;refine⟨_,(aj (dg (bc yl (pv 1) (bj (cY (K:=K) rfl) (by rfl) d5 Wr (aa (pv 0) af)) (bu _)) (au (aL (bp (bI (K:=K) rfl) (pv 0) (pv 1) (λ_ _=>rfl)))) bD)
   (au (aL ax))),?_⟩
 obtain⟨ns,d,h0,q⟩:=h;lia;refine du (λh1=>?_) λh1=>?_
 ·have h1:k<((ns.map V.int).length:Nat):=of_decide_eq_true h1;rw[Yf]at h1;have b:k.toNat<ns.length:=by omega
  have c:sf (ns.map V.int) k=Ya (V.int ns[k.toNat]):=Gn h0 (by rw[Yv,Yk b];rfl);lia;exact q _
 ·lia;exact q _
def qQ(K:Yc):Sp:=λa H Q _=>∃(c k:Int),a=[.int c,.int k]/\0<=k/\k<=100/\∀r:Int,0<=r->r<2147483647->Q (.int r) H
abbrev B4:List Yn:=["_law_cell","_law_k"]
theorem rf:aE ["_law_cell","_law_k","_law_number"] B4 (ao mF):=eW
include eV in
theorem y4(F:bH K "_law_mixed" "_law_mixed" mF f fd):aF P w K mg base bx 1 f fd B4 (qQ K):=by
 refine F.oj rf ?_;rintro _ _ _ _ _ _ _ _ _ _ _ _ ⟨c,k,rfl,h⟩;refine⟨_,(aj (aX (i:=2) rf.nd rfl (YB rfl) (aW c7 (aW uM (aW d0 (aW d0 (aW c7 (pv 0) ax) (aW uM ax (pv 1))) ax) ax) ax))
   (au (aL (aW c7 (aW uM (pv 2) (aW d0 (aW f9 (pv 2) ax) ax)) ax)))),?_⟩
 obtain⟨h0,h1,a⟩:=h;have c0:=xl c (show(2147483647:Int)≠0 by decide);have c1:=Wo c (show(0:Int)<2147483647 by decide);have e:Ba 7919 k:=.inl ⟨by decide,by decide⟩;have g:Ba (c%2147483647+ 7919*k+ 1) 48271:=.inl ⟨by omega,by omega⟩;have b:=xl ((c%2147483647+ 7919*k+ 1)*48271) (show(2147483647:Int)≠0 by decide);have d:=Wo ((c%2147483647+ 7919*k+ 1)*48271) (show(0:Int)<2147483647 by decide);generalize hz:((c%2147483647+ 7919*k+ 1)*48271)%2147483647=z at b d;have j:Ba z (z / 1009+ 69621):=.inl ⟨by omega,by omega⟩;lia;rw[hz];lia;exact a _ (xl _ (by decide)) (Wo _ (by decide))
def hnd(a b:Int)(n:Nat):List Int:=(Y3 n).map fun(k:Nat)=>a+ (k:Int)*b
theorem QQ{a b:Int}{n:Nat}(h0:0<=a)(h1:a<40)(f:1<=b)(g:b<=7)(hn:n<=4):Hs (hnd a b n):=by
 refine⟨?_,λx c=>?_⟩
 ·unfold hnd;rw[abS];refine aab.imp fun{i j} h=>?_;have:((i:Int)+ 1)*b<=(j:Int)*b:=abh (by omega) (by omega);have e:((i:Int)+ 1)*b=(i:Int)*b+ b:=by rw[Int.add_mul,adS]
  omega
 ·unfold hnd at c;obtain⟨k,d,rfl⟩:=YL.mp c;have d:=WG.mp d;have l:0<=(k:Int)*b:=Int.mul_nonneg (by omega) (by omega);have m:(k:Int)*b<=3*b:=abh (by omega) (by omega);omega
def qE(K:Yc):Sp:=λe H Q _=>∃(c n:Int),e=[.int c,.int n]/\2<=n/\n<=4/\∀d l a b,aG H d->H l=Yb->0<=a->a<40->1<=b->b<=7->d l=Ya (.lst ((hnd a b n.toNat).map V.int))->Q (.ref l) d
abbrev DU:List Yn:=["_law_cell","_law_amount"]
theorem zd:aE ["_law_cell","_law_amount"] DU (ao mN):=eW
include eV iV in
theorem zg(F:bH K "_law_hands" "_law_hands" mN f fd):aF P w K mg base bx 1 f fd DU (qE K):=by
 refine F.oj zd ?_;rintro _ A _ _ H _ _ _ _ _ _ _ ⟨c,n,rfl,h⟩;refine⟨_,(au (aL (bQ ["_law_cell","_law_k"] [Ya 0,Yb] rfl rfl (by kernel_rfl) (qg rfl iV (aa (pv 1) af)) (λ_ _ _ _ _ nd=>aP (i:=1) nd rfl (YB rfl)) (λ_ _ _ _ _=>ed) (λ_ _ _ _ _=>(aW d0 (aW c7 (pv 0) ax) (aW uM (pv 1) (aW d0 ax (aW c7 (aW f9 (pv 0) ax) ax)))))))),?_⟩;obtain⟨h0,h1,j⟩:=h;obtain⟨N,rfl⟩:=WJ (show 0<=n by omega);have k:=xl c (show(40:Int)≠0 by decide);have l:=Wo c (show(0:Int)<40 by decide);have m:=xl (c / 40) (show(7:Int)≠0 by decide);have p:=Wo (c / 40) (show(0:Int)<7 by decide);lia;refine⟨_,rfl,by omega,by omega,λD a=>?_⟩;refine rW (λi σ A=>∃v,σ=[Ya (.int c),v]/\aG H A/\A D=Ya (.lst ((hnd (c%40) (1+ c / 40%7) i).map V.int))) ⟨Yb,rfl,aD a,ai⟩ ?_ ?_
 ·rintro i σ A g ⟨v,rfl,d,e⟩;have g:i<N:=by simpa using g
  have q:Ba (0+ (i:Int)) (1+ c / 40%7):=.inl ⟨by omega,by omega⟩;lia;refine⟨_,e,?_,_,rfl,λb o z=>?_,?_⟩
  ·rw[Yf];unfold hnd;rw[Yf,KW];exact aJ (by omega)
  ·rw[ak (ay z a)];exact d b o z
  ·rw[ai];unfold hnd;rw[aaB,Yt,Yt,acg];rfl
 rintro σ A ⟨v,rfl,d,e⟩;lia;exact j A D _ _ d a k l (by omega) (by omega) e
abbrev lY:YT:=eX 51
abbrev PW:=Ye×Pg×P7
variable{W:List PW}{w':PW}
def rJ(w:PW):List Ye:=w.2.2.ft w.1
structure Wd(K:Yc)(mg:Yn->Option Yd)(H:Hp)(hs:List Int)(nu gr:Int)(W:List PW)(mk:List bM):Prop where
 ho:Hs hs
 len:W.length=hs.length
 pg:∀(i:Nat) (w:PW),W[i]?=Ya w->gL K mg H w.1 w.2.1 w.2.2
 dj:∀(i j:Nat) (u v:PW),W[i]?=Ya u->W[j]?=Ya v->i≠j->∀a∈rJ u,a∉rJ v
 st:∀(i:Nat) (w:PW),W[i]?=Ya w->hs[i]?=Ya w.2.1.me/\w.2.1.nu=nu/\w.2.1.ha=gr
 ok:∀(i:Nat) (w:PW),W[i]?=Ya w->Ik hs mk w.2.1
 mo:N0 hs nu mk
 ma:∀(i:Nat) (w:PW),W[i]?=Ya w->w.2.1.ma=(((mk.filter λc=>decide (c.c=w.2.1.me)).length:Nat):Int)
 mx:∀c∈mk,∀(i:Nat) (w:PW),W[i]?=Ya w->c.c=w.2.1.me->c.k<=w.2.1.ma
section
theorem Wd.tr(D:Wd K mg H hs nu gr W mk){w:PW}(h:W[i]?=Ya w)(ha:a∈rJ w):∃o,H a=Ya o/\Th o:=(D.pg i w h).fto a ha
theorem Wd.off(D:Wd K mg H hs nu gr W mk)(o:Off F H H')(k:lQ H H')(n:∀(i:Nat) (w:PW),W[i]?=Ya w->∀a∈rJ w,a∉F):Wd K mg H' hs nu gr W mk:=
 ⟨D.ho,D.len,λi w h=>(D.pg i w h).off o k (n i w h),D.dj,D.st,D.ok,D.mo,D.ma,D.mx⟩
theorem Wd.same(D:Wd K mg H hs nu gr W mk)(s:aG H H'):Wd K mg H' hs nu gr W mk:=D.off (F:=[]) (Off.of s) (.same s) λ_ _ _ _ _ z=>nomatch z
theorem Wd.put(D:Wd K mg H hs nu gr W mk){w:PW}(h:W[i]?=Ya w){mk':List bM}(o:Off (rJ w) H H')(P:gL K mg H' w.1 S' x')(ft:∀a∈x'.ft w.1,a∈rJ w∨H a=Yb)(mo:N0 hs nu mk')(d:S'.me=w.2.1.me/\S'.nu=w.2.1.nu/\S'.ha=w.2.1.ha)(ok:Ik hs mk' S')(l:∀(j:Nat) (u:PW),W[j]?=Ya u->j≠i->Ik hs mk' u.2.1)(ma:S'.ma=(((mk'.filter λc=>decide (c.c=w.2.1.me)).length:Nat):Int))(m:∀(j:Nat) (u:PW),W[j]?=Ya u->j≠i->u.2.1.ma=(((mk'.filter λc=>decide (c.c=u.2.1.me)).length:Nat):Int))(mx:∀c∈mk',c.c=w.2.1.me->c.k<=S'.ma)(p:∀c∈mk',∀(j:Nat) (u:PW),W[j]?=Ya u->j≠i->c.c=u.2.1.me->c.k<=u.2.1.ma):Wd K mg H' hs nu gr (W.set i (w.1,S',x')) mk':=by
 have t:=(Yi.mp h).1;have x:lQ H H':=i4 o λa ha=>D.tr h ha;have cs:∀{j:Nat} {u:PW},(W.set i (w.1,S',x'))[j]?=Ya u->(j=i/\u=(w.1,S',x'))∨(j≠i/\W[j]?=Ya u):=fun{j u} e=>by
  rw[WE]at e;by_cases z:i=j
  ·rw[if_pos z,if_pos t]at e;exact .inl ⟨z.symm,(YC e).symm⟩
  ·rw[if_neg z]at e;exact .inr ⟨λy=>z y.symm,e⟩
 have g:∀{j:Nat} {u:PW},W[j]?=Ya u->j≠i->∀a∈rJ u,a∉x'.ft w.1:=fun{j u} e n a ha r=>by
  rcases ft a r with z|z
  ·exact D.dj j i u w e h n a ha z
  ·obtain⟨_,q,_⟩:=D.tr e ha;rw[q]at z;cases z
 refine⟨D.ho,by rw[aev];exact D.len,λj u e=>?_,λj k u v e f n a ha=>?_,λj u e=>?_,λj u e=>?_,mo,λj u e=>?_,λc s j u e=>?_⟩
 ·rcases cs e with⟨_,rfl⟩|⟨n,e⟩
  ·exact P
  ·exact(D.pg j u e).off o x λa ha=>D.dj j i u w e h n a ha
 ·rcases cs e with⟨rfl,rfl⟩|⟨n1,e⟩
  ·rcases cs f with⟨rfl,rfl⟩|⟨n2,f⟩
   ·exact absurd rfl n
   ·exact λr=>g f n2 a r ha
  ·rcases cs f with⟨z,rfl⟩|⟨n2,f⟩
   ·exact g e n1 a ha
   ·exact D.dj j k u v e f n a ha
 ·rcases cs e with⟨rfl,rfl⟩|⟨_,e⟩
  ·obtain⟨a,b,c⟩:=D.st j w h;exact⟨by rw[a];show _=Ya S'.me;rw[d.1],d.2.1.trans b,d.2.2.trans c⟩
  ·exact D.st j u e
 ·rcases cs e with⟨_,rfl⟩|⟨n,e⟩
  ·exact ok
  ·exact l j u e n
 ·rcases cs e with⟨_,rfl⟩|⟨n,e⟩
  ·show S'.ma=(((mk'.filter λc=>decide (c.c=S'.me)).length:Nat):Int);rw[d.1];exact ma
  ·exact m j u e n
 ·rcases cs e with⟨_,rfl⟩|⟨n,e⟩
  ·exact λz=>mx c s (by rw[←d.1];exact z)
  ·exact p c s j u e n
theorem Wd.put0(D:Wd K mg H hs nu gr W mk){w:PW}(h:W[i]?=Ya w)(o:Off (rJ w) H H')(P:gL K mg H' w.1 S' x')(ft:∀a∈x'.ft w.1,a∈rJ w∨H a=Yb)(d:S'.me=w.2.1.me/\S'.nu=w.2.1.nu/\S'.ha=w.2.1.ha)(ok:Ik hs mk S')(ma:S'.ma=w.2.1.ma):Wd K mg H' hs nu gr (W.set i (w.1,S',x')) mk:=
 D.put h o P ft D.mo d ok (λj u e _=>D.ok j u e) (ma.trans (D.ma i w h)) (λj u e _=>D.ma j u e) (λc b z=>by rw[ma];exact D.mx c b i w h z) λc b j u e _ z=>D.mx c b j u e z
end
def rh(K:Yc)(mg:Yn->Option Yd):Sp:=λd H Q _=>∃(a:Ye),d=[.ref a]/\∃ns:List Int,bo K H a (ns.map V.int)/\
 ∀b t c ap hs nu e W,aG H b->b t=Ya (.tup [.ref c,.int nu,.ref ap])->b c=Ya (.lst (hs.map V.int))->b ap=Ya (.lst (W.map λw=>V.ref w.1))->Wd K mg b hs nu e W []->2<=hs.length->hs.length<=4->(∀(i:Nat) (w:PW),W[i]?=Ya w->w.2.1.dn=[]/\∀a∈rJ w,H a=Yb/\a≠c/\a≠ap)->H c=Yb->H ap=Yb->Q (.ref t) b
abbrev vt:List Yn:=["_law_script"]
theorem ij:aE ["_law_script","_law_hands_here","_law_number","_law_group"] vt (ao lY):=eW
variable{m6:Ye}{pV:Ye}{sh:Ye}{lJ:Yx}{mX:Yx}{qC:Yx}(nJ:aF P w K mg base bx 6 m6 lJ DH (lB K mg))(ng:Binds K lJ DH [])(eN:aF P w K mg base bx 7 pV mX DN (nA K))(eK:eD K mg "_law_cell_at" pV mX DN)(tZ:aF P w K mg base bx 7 sh qC DU (qE K))(tG:eD K mg "_law_hands" sh qC DU)(Qg:mg "sum"=Yb)(Az:Mk K cj m6)
include eV nJ ng eN eK tZ tG Qg aY aU Az in
theorem y3(F:bH K "_law_pages" "_law_pages" lY f fd):aF P w K mg base bx 8 f fd vt (rh K mg):=by
 refine F.oj ij ?_;rintro _ A _ _ H _ _ E p _ _ _ ⟨a,rfl,h⟩;refine⟨_,(aj (aX (i:=1) ij.nd rfl (YB rfl) (a9 tZ tG p (aa (aW f9 (a9 eN eK p (aa (pv 0) (aa ax af))) ax) (aa (aW d0 ax (aW c7 (a9 eN eK p (aa (pv 0) (aa ax af))) ax)) af))))
   (aj (aX (i:=2) ij.nd rfl (abB rfl) (aW c7 (a9 eN eK p (aa (pv 0) (aa ax af))) (aW d0 (aW Bg ax ax) ax)))
   (aj (aX (i:=3) ij.nd rfl (abB rfl) (bj (Ic rfl) (by rfl) Qg afi (aa (bQ ["_law_hand"] [Yb] rfl rfl (by kernel_rfl) (bJ (K:=K) rfl (pv 1)) (λ_ _ _ _ _ nd=>aP (i:=0) nd rfl (YB rfl)) (λ_ _ _ _ _=>ed) (λ_ _ _ _ _=>(aW LW ax (pv 0)))) af)))
   (au (aL (cv (aa (pv 1) (aa (pv 2) (aa (bQ ["_law_number","_law_group","_law_script","_law_hand"] [Ya 2,Ya 3,Ya 0,Yb] rfl rfl (by kernel_rfl) (bJ (K:=K) rfl (pv 1)) (λ_ _ _ _ _ nd=>aP (i:=3) nd rfl (YB rfl)) (λ_ _ _ _ _=>ed) (λ_ _ _ _ _=>(qd Az nJ p rfl aU ng .nil nH (aa (pv 3) (aa (pv 0) (aa (pv 1) (aa (aW d0 ax (aW c7 (a9 eN eK p (aa (pv 2) (aa ax af))) ax)) af))))))) af))))))))),?_⟩
 obtain⟨ns,hS,kk⟩:=h;lia;refine⟨a,0,rfl,ns,hS,by decide,λc0=>?_⟩;lia;refine⟨a,0,rfl,ns,hS,by decide,λr=>?_⟩;lia;have q0:=xl r (show(3:Int)≠0 by decide);have q1:=Wo r (show(0:Int)<3 by decide);refine⟨c0 / 3,2+ r%3,rfl,by omega,by omega,λH1 ah ha d s1 ae a0 a1 b1 b7 B=>?_⟩;obtain⟨hs,Hh,lh,ag⟩:∃hs,Hs hs/\hs.length=(2+ r%3).toNat/\hs=hnd ha d (2+ r%3).toNat:=⟨_,QQ a0 a1 b1 b7 (by omega),by unfold hnd;rw[Yf,KW],rfl⟩;rw[←ag]at B;have Q:=s1.seq hS;have aB:=LS;have aA:MA 10 18:=⟨by decide,by decide,by decide⟩;lia;refine⟨a,1,rfl,ns,Q,by decide,λc1=>?_⟩;lia;intro D0 R;refine bL (K:=K) (a:=ah) (xs:=hs.map V.int) (λi σ H'=>∃v,σ=[v]/\aG H1 H'/\H' D0=Ya (.lst (((hs.take i).map λh=>1*(2:Int)^h.toNat).map V.int))) ⟨Yb,rfl,aD R,ai⟩ ?_ ?_ ?_
 ·rintro i σ H' _ ⟨_,_,z,_⟩;exact bo.of (z _ _ B)
 ·rintro i x σ H' hx ⟨v,rfl,sm,al⟩;obtain⟨h,C,rfl⟩:=fP hx;have hi:=(Yi.mp C).1;have p:=Hh.rg h (Yy C);have cp:MA 1 h:=⟨p.1,by omega,by decide⟩;lia;refine⟨_,al,?_,_,rfl,λb o z=>?_,?_⟩
  ·rw[Yf,Yf,Y8];exact aJ (by omega)
  ·rw[ak (ay z R)];exact sm b o z
  ·rw[ai,aT C,Yt,Yt];rfl
 rintro σ H2 ⟨v,rfl,S,T⟩;rw[show hs.take (hs.map V.int).length=hs by rw[Yf,YM]]at T;obtain⟨n0,n1,n2⟩:=Hh.set;refine⟨D0,_,rfl,bo.of T,?_⟩;generalize ((hs.map λh=>1*(2:Int)^h.toNat)).sum=gr at n0 n1 n2⊢;obtain⟨nu,am⟩:∃nu:Int,nu=c1%(10^XE 18+ 1):=⟨_,rfl⟩;rw[←am];have an:=S.seq Q;have m:=S _ _ B;lia;intro E U;have aC:ah≠E:=λz=>by rw[←z,m]at U;cases U
 refine bL (K:=K) (a:=ah) (xs:=hs.map V.int) (λi σ A=>∃v W,σ=[Ya (.int nu),Ya (.int gr),Ya (.ref a),v]/\aG H2 A/\A E=Ya (.lst ((W:List PW).map λw=>V.ref w.1))/\W.length=i/\(∀(j:Nat) (w:PW),W[j]?=Ya w->gL K mg A w.1 w.2.1 w.2.2/\(∃h ro,hs[j]?=Ya h/\w.2.1=Pg.new h nu gr ro)/\∀b∈rJ w,H2 b=Yb/\b≠E)/\∀(j k:Nat) (u w:PW),W[j]?=Ya u->W[k]?=Ya w->j≠k->∀b∈rJ u,b∉rJ w) ⟨Yb,[],rfl,aD U,ai,rfl,(λj w e=>by simp at e),λj k u w e=>by simp at e⟩ ?_ ?_ ?_
 ·rintro i σ A _ ⟨_,_,_,z,_⟩;exact bo.of (z _ _ m)
 ·rintro i y σ A hy ⟨v,W,rfl,M,N,X,l,dj⟩;obtain⟨h,C,rfl⟩:=fP hy;have hi:=(Yi.mp C).1;have p:=Hh.rg h (Yy C);have ap:=M.seq an;lia;refine⟨a,2,rfl,ns,ap,by decide,λc2=>?_⟩;lia;intro q dx A1 O g g1;refine⟨q,h,nu,gr,1+ c2%5,rfl,_,dx,aU,aY,g1,n0,n1,p.1,p.2,λY Z k2 P2 aq=>⟨rfl,?_⟩⟩;have ab:q≠E:=λz=>by rw[z,N]at O;cases O
  have ac:Y E=Ya (.lst (W.map λw=>V.ref w.1)):=k2 _ _ (g _ _ N) (cT ab);have D:Off [E] A (upd Y E (.lst (W.map (λw=>V.ref w.1)++[V.ref q]))):=λb o e G=>by
   have G:b≠E:=λz=>G (Yh.mpr z);rw[ak G];exact k2 _ _ (g _ _ e) (λz=>by rw[z,O]at e;cases e)
  have ar:lQ A _:=D.kpf1 N trivial;have ad:Off [E] Y (upd Y E (.lst (W.map (λw=>V.ref w.1)++[V.ref q]))):=λb o e G=>by
   rw[ak λz=>G (Yh.mpr z)];exact e
  have as:lQ Y _:=ad.kpf1 ac trivial;have fr:∀b∈Z.ft q,A b=Yb/\b≠E:=λb d=>by
   rcases aq b d with z|z
   ·rw[z];exact⟨O,ab⟩
   ·exact⟨g.free z,λw=>by rw[w,g _ _ N]at z;cases z⟩
  have s:∀{j:Nat} {w:PW},W[j]?=Ya w->∀b∈rJ w,b∉Z.ft q:=fun{j w} e b d I=>by
   obtain⟨o,q1,_⟩:=(l j w e).1.fto b d;rw[(fr b I).1]at q1;cases q1
  have cs:∀{j:Nat} {u:PW},(W++[(q,Pg.new h nu gr (1+ c2%5),Z)])[j]?=Ya u->(W[j]?=Ya u)∨(j=i/\u=(q,Pg.new h nu gr (1+ c2%5),Z)):=fun{j u} e=>by
   rcases XS j W.length with z|z
   ·rw[Xf z]at e;exact .inl e
   ·have hj:=(Yi.mp e).1;rw[Yq,YV]at hj;have:j=W.length:=by omega
    subst this;rw[W9 (Yj _),acf]at e;exact .inr ⟨X,(YC e).symm⟩
  refine⟨_,ac,aJ (by rw[Yf];omega),_,W++[(q,Pg.new h nu gr (1+ c2%5),Z)],rfl,λb o e=>?_,by rw[ai,Yt];rfl,by rw[Yq,X];rfl,λj u e=>?_,λj k u w e f n b d=>?_⟩
  ·have G:b≠E:=λz=>by rw[z,U]at e;cases e
   exact D b o (M b o e) (λz=>G (Yh.mp z))
  ·rcases cs e with e|⟨rfl,rfl⟩
   ·obtain⟨p1,p2,p3⟩:=l j u e;exact⟨p1.off D ar λb d z=>(p3 b d).2 (Yh.mp z),p2,p3⟩
   ·exact⟨P2.off ad as λb d z=>(fr b d).2 (Yh.mp z),⟨h,_,C,rfl⟩,λb d=>⟨M.free (fr b d).1,(fr b d).2⟩⟩
  ·rcases cs e with e|⟨rfl,rfl⟩
   ·rcases cs f with f|⟨rfl,rfl⟩
    ·exact dj j k u w e f n b d
    ·exact s e b d
   ·rcases cs f with f|⟨z,rfl⟩
    ·exact λI=>s f b I d
    ·exact absurd z.symm n
 rintro σ A ⟨v,W,rfl,M,N,X,l,dj⟩;rw[Yf]at X;lia;intro t A1 ht g g1;have av:aG H A:=s1.trans (S.trans M);have aw:(GB.hl gr).length<=10:=by rw[n2];omega
 have az:hs≠[]:=λz=>by rw[z]at lh;rw[W0]at lh;omega
 refine kk A1 t ah E hs nu gr W (av.trans g) g1 (g _ _ (M _ _ m)) (g _ _ N) ⟨Hh,X,λi w e=>(l i w e).1.same g,dj,λi w e=>?_,λi w e=>?_,⟨(λc J=>nomatch J),(λc J=>nomatch J),λc J=>nomatch J⟩,λi w e=>?_,λc J=>nomatch J⟩ (by omega) (by omega) (λi w e=>?_) ae (s1.free (S.free U))
 ·obtain⟨_,⟨h,ro,e1,L⟩,_⟩:=l i w e;rw[L];exact⟨e1,rfl,rfl⟩
 ·obtain⟨_,⟨h,ro,e1,L⟩,_⟩:=l i w e;rw[L];refine⟨?_,?_,?_,(λq O=>nomatch O),Yj _,.nil,(λn hn=>nomatch hn),Yj _,λe he=>nomatch he⟩
  ·show((GB.hl gr).map λh=>(h,([]:List (Int×Int))))≠[];rw[n2];intro z;exact az (XY.mp z)
  ·show((GB.hl gr).map λh=>(h,([]:List (Int×Int)))).length<=10;rw[Yf];exact aw
  ·show h∈GB.hl gr;rw[n2];exact Yy e1
 ·obtain⟨_,⟨h,ro,e1,L⟩,_⟩:=l i w e;rw[L];rfl
 ·obtain⟨_,⟨h,ro,e1,L⟩,e3⟩:=l i w e;refine⟨by rw[L];rfl,λb d=>⟨s1.free (S.free (e3 b d).1),λz=>?_,(e3 b d).2⟩⟩;have:=(e3 b d).1;rw[z,m]at this;cases this
abbrev mS:YT:=eX 54
structure Vu(H:Hp)(am:Ye)(es:List (bM×V)):Prop where
 dt:H am=Ya (.dT (es.map λe=>(eu e.1,e.2)))
 tl:∀e∈es,kP H e.2 e.1
 nd:(es.map λe=>eu e.1).Nodup
theorem Vu.val(M:Vu H am es){e:bM×V}(a:e∈es):d3 (es.map λe=>(eu e.1,e.2)) (eu e.1)=Ya e.2:=by
 have nd:=M.nd;clear M
 induction es with
 |nil=>cases a
 |cons f es ih=>
  rw[Yz,tq]at nd;rcases Ym.mp a with z|z
  ·rw[z,Yz];exact dw rfl
  ·rw[Yz,dq]
   ·exact ih z nd.2
   ·intro w;exact nd.1 (YL.mpr ⟨e,z,w.symm⟩)
theorem Qi{K:Yc}{n c k w:Int}(h:H a=Ya (.tup [.int n,.int c,.int k,.str kd,.int w,.ref t]))(q:∀p H',H p=Yb->aG H H'->H' p=Ya (.tup [.int n,.int c,.int k])->Q (.ref p) H'):Su K (.ref a) Yb (Ya 3) H Q:=
 ⟨a,_,rfl,bC.of h,by show ¬ (HT.fZ 6 0 Yb=0/\HT.fZ 6 6 (Ya 3)=6);decide,λp hp=>q p _ hp (aD hp) ai⟩
def qZ(K:Yc):Sp:=λf H Q _=>∃(l sd am:Ye),f=[.ref l,.ref sd,.ref am]/\∃d rw m a,H l=Ya (.lst d)/\Cz H d rw/\H sd=Ya (.dK (dI m))/\Td m/\Vu H am a/\wV m rw/\(∀q∈rw,q.2∈a.map (·.1))/\(∀e∈a,Wf e.1/\0<e.1.k)/\
 ∀c,(∀b o,H b=Ya o->b≠sd->c b=Ya o)->c sd=Ya (.dK (dI (lN m rw)))->Td (lN m rw)->Q (.bl true) c
abbrev De:List Yn:=["_law_found","_law_seen","_law_made"]
theorem ka:aE ["_law_found","_law_seen","_law_made","_law_take","_law_told"] De (ao mS):=eW
include eV x8 Ht cg d5 iO fq in
theorem zb(F:bH K "_law_taken" "_law_taken" mS f fd):aF P w K mg base bx 1 f fd De (qZ K):=by
 refine F.oj ka ?_;rintro _ A _ _ H _ _ _ _ x _ O ⟨l,sd,am,rfl,h⟩;refine⟨_,(aj (dg (mE (cK K rfl (bj (fM (K:=K) rfl) (by rfl) cg xp (aa (pv 0) (aa (jG iO W4) af))))) (au (aL i8)) bD)
   (aj (kC Ws rfl (bJ (K:=K) rfl (pv 0)) (aP (i:=3) ka.nd rfl (YB rfl))
   (aj (dg (PW.pt (zW (mE (cK K rfl (bj (fM (K:=K) rfl) (by rfl) cg xp (aa (pv 3) (aa (jG fq WK) af))))) (zW (bc ya (bj (cY (K:=K) rfl) (by rfl) d5 Wr (aa (pv 3) af)) ax (bu _)) (EK (mE (cK K rfl (bj (fM (K:=K) rfl) (by rfl) cg xp (aa (bp (br (K:=K) rfl) (pv 3) ax (λ_ _=>rfl)) (aa (jG fq WK) af))))))))) (au (aL i8)) bD)
   (aj (aX (i:=4) ka.nd rfl (YB rfl) (bp (br (K:=K) rfl) (pv 3) ax (λ_ _=>rfl)))
   (aj (dg (PW.pt (zW (bc ya (bj (cY (K:=K) rfl) (by rfl) d5 Wr (aa (pv 4) af)) ax (bu _)) (zW (bc (Ft (K:=K) rfl x) (pv 4) (BX O (pv 2) (p9 (NH (K:=K) rfl) (pv 4) tP (t5 ax)) ⟨rfl,rfl,rfl,rfl⟩) (bu _)) (zW (cK K rfl (bj (fM (K:=K) rfl) (by rfl) cg xp (aa (bp (br (K:=K) rfl) (pv 4) ax (λ_ _=>rfl)) (aa (jG x8 aaV) af)))) (EK (cK K rfl (bj (fM (K:=K) rfl) (by rfl) cg xp (aa (bp (br (K:=K) rfl) (pv 4) ax (λ_ _=>rfl)) (aa (jG x8 aaV) af))))))))) (au (aL i8)) bD)
   (aj (dg (bc ya (bp (br (K:=K) rfl) (pv 4) ax (λ_ _=>rfl)) (aW d0 (yd O (pv 1) (bp (br (K:=K) rfl) (pv 4) ax (λ_ _=>rfl)) ax ⟨rfl,rfl,rfl,rfl⟩) ax) (bu _)) (au (aL i8)) bD)
   (aj (dg (bc (Ft (K:=K) rfl x) (bQ ["_law_seen","_law_hand","_law_amount"] [Ya 1,Yb,Yb] rfl rfl (by kernel_rfl) (AH (K:=K) rfl (bp (br (K:=K) rfl) (pv 4) ax (λ_ _=>rfl))) (λ_ _ _ _ _ nd=>mT (K:=K) (n:=2) rfl rfl (c9 (aP (i:=1) nd rfl (YB rfl)) (c9 (aP (i:=2) nd rfl (YB rfl)) mK))) (λ_ _ _ _ _=>(eY (bc yl (yd O (pv 0) (pv 1) ax ⟨rfl,rfl,rfl,rfl⟩) (pv 2) (bu _)))) (λ_ _ _ _ _=>(pv 1))) (dQ af) (bu _)) (au (aL i8)) bD)
   (aj (dg (bc ya (bp (br (K:=K) rfl) (pv 3) ax (λ_ _=>rfl)) (bp (bI (K:=K) rfl) (dQ (aa gF (aa gF af))) (bO Iw (by rfl) Ht acT (aa (mi oP (bp (br (K:=K) rfl) (pv 4) ax (λ_ _=>rfl)) gF (bu _)) af)) (λ_ _=>rfl)) (bu _)) (au (aL i8)) bD)
   (au (mD O (pv 1) (bp (br (K:=K) rfl) (pv 4) ax (λ_ _=>rfl)) (bp (br (K:=K) rfl) (pv 4) ax (λ_ _=>rfl)) rfl)))))))))
   (au (aL i8)))),?_⟩
 obtain⟨ys,rw,m,es,gl,tv,gs,tm,M,ck,ab,wf,kk⟩:=h;have ly:ys.length=rw.length:=Y0 tv;lia;refine⟨_,_,_,true,rfl,.lst gl,(by kernel_rfl),?_⟩;lia;refine lu (xs:=ys) (λi σ A=>∃I J,σ=[Ya (.ref l),Ya (.ref sd),Ya (.ref am),I,J]/\(∀b o,H b=Ya o->b≠sd->A b=Ya o)/\A sd=Ya (.dK (dI (lN m (rw.take i))))/\Td (lN m (rw.take i))) ⟨Yb,Yb,rfl,λb o e _=>e,gs,tm⟩ (λi σ A _ z=>?_) ?_ ?_
 ·obtain⟨_,_,_,z,_⟩:=z;exact bo.of (z _ _ gl (bV gl gs (by intro w;cases w)))
 ·rintro i y σ A hy ⟨I,J,rfl,Q,R,C⟩;obtain⟨q,hq,⟨a,E,rfl,ga,tl⟩⟩:=dD tv hy;obtain⟨ac,ad⟩:=ck i q hq;have hi:=(Yi.mp hq).1;obtain⟨e,he,ee⟩:=YL.mp (ab q (Yy hq));have sm:dF H A:=λb xs w=>Q b _ w (bV w gs (by intro z;cases z));have S:=tl.up sm;have T:=(M.tl e he).up sm;have s:=sm _ _ ga;obtain⟨c,G⟩:=wf e he;rw[ee]at T c G;obtain⟨t0,tc,xc,e0,g,ae,ag⟩:=id S;cases e0;have U:=Q _ _ M.dt (bV M.dt gs (by intro z;cases z));have aN:bC K A a [.ref E,.str (RM q.2)]:=bC.of s;have aQ:bC K A E [.int q.2.n,.int q.2.c,.int q.2.k,.str q.2.kd,.int q.2.w,.ref tc]:=bC.of g;refine tW ?_;lia;refine⟨_,_,_,true,rfl,.tup s,(by kernel_rfl),?_⟩;lia;refine du (λw=>absurd w (by show ¬ (!decide ((2:Int)=2))=true;decide)) λ_=>?_;lia;refine⟨_,_,_,true,rfl,.tup g,(by kernel_rfl),?_⟩;lia;refine du (λw=>absurd w (by show ¬ (!decide ((6:Int)=6))=true;decide)) λ_=>?_;lia;refine Gf ?_;lia;refine⟨am,rfl,.inr ⟨_,.inl U⟩,?_⟩;lia;refine Qi g λu N O t gu=>?_;have gu:N u=Ya (.tup ((eu q.2).map kV)):=gu;refine⟨_,iy.t (k:=eu q.2) (t _ _ U) gu,?_⟩;have ve:d3 (es.map λe=>(eu e.1,e.2)) (eu q.2)=Ya e.2:=by rw[←ee];exact M.val he
  rw[ve];refine HY (.inl (S.up (dF.same t)).dp) (.inl (T.up (dF.same t)).dp) (KL c) (RH _) ?_;have az:bC K N E [.int q.2.n,.int q.2.c,.int q.2.k,.str q.2.kd,.int q.2.w,.ref tc]:=bC.of (t _ _ g);lia;refine⟨_,_,_,false,rfl,.int _,(by kernel_rfl),?_⟩;lia;refine⟨_,_,_,false,rfl,.int _,(by kernel_rfl),?_⟩;have ah:=t _ _ R;have aA:bC K N a [.ref E,.str (RM q.2)]:=bC.of (t _ _ s);lia;refine du (λw=>?_) λ_=>?_
  ·have e1:q.2.k=(qY (lN m (rw.take i)) q.2.c).getD 0+ 1:=ac;rw[decide_eq_true e1]at w;cases w
  have le:∀d∈q.2.cs,d.2<=ct (lN m (rw.take i)) d.1:=λd p=>by
   rcases ad with w|w
   ·rw[c.ow w]at p;cases p
   ·by_cases z:0<d.2
    ·have hp:d∈eh q.2.cs:=Y4.mpr ⟨p,decide_eq_true z⟩;have c1:=(G4 C.toCk (FE c.cs)).mp w d.1;rw[My (FE c.cs).nd hp]at c1;exact c1
    ·have:=C.toCk.ct d.1;omega
  have al:bC K N tc xc:=bC.of (t _ _ ae);have an:i6 N xc q.2.cs:=ag.mono (dF.same t);refine tW ?_;lia;intro D hD;refine Ds (K:=K) (a:=tc) (xs:=xc) (λi σ B=>∃I J,σ=[Ya (.ref sd),I,J]/\aG N B/\B D=Ya (.lst [])) ⟨Yb,Yb,rfl,aD hD,ai⟩ ?_ ?_ ?_
  ·rintro j σ B _ ⟨_,_,_,z,_⟩;exact HH z al
  ·rintro j y σ B ap ⟨w1,w2,rfl,W,gD⟩;obtain⟨d,p,pa,rfl,gp⟩:=dD (an.mono (dF.same W)) ap;have l1:=le d (Yy p);have aR:=W _ _ ah;have sp:bC K B pa [.int d.1,.int d.2]:=bC.of gp;lia;refine du (λw=>?_) λ_=>⟨_,_,rfl,W,gD⟩;have w:(qY (lN m (rw.take i)) d.1).getD 0<d.2:=of_decide_eq_true w;have l1:d.2<=(qY (lN m (rw.take i)) d.1).getD 0:=l1;omega
  rintro σ B ⟨w1,w2,rfl,W,gD⟩;lia;intro e2 B1 aS X aq;refine GZ (bo.of (X _ _ gD)) .nil rfl (bo.of aq) ?_;rw[show(!decide (([]:List Xt)=[]))=false from rfl];have r:=t.trans (W.trans X);have aB:bC K B1 a [.ref E,.str (RM q.2)]:=bC.of (r _ _ s);have aC:bC K B1 E [.int q.2.n,.int q.2.c,.int q.2.k,.str q.2.kd,.int q.2.w,.ref tc]:=bC.of (r _ _ g);refine⟨_,rfl,?_⟩;lia;intro lr B2 aU L ar;have as:bC K B2 E [.int q.2.n,.int q.2.c,.int q.2.k,.str q.2.kd,.int q.2.w,.ref tc]:=bC.of (L _ _ (r _ _ g));have aI:=L _ _ (r _ _ R);have aK:bo K B2 lr [.str "ready",.str "sure"]:=bo.of ar;have nd:=C.nd;have ld:=C.toCk.len;have av:∀b o,H b=Ya o->b≠sd->B2 b=Ya o:=λb o e n=>L _ _ (r _ _ (Q b o e n));lia;refine .inr ⟨_,rfl,?_⟩;have done:∀v,FC sd B2 v->v sd=Ya (.dK (dI (dR (lN m (rw.take i)) q.2.c q.2.k)))->∃I J,[Ya (V.ref l),Ya (V.ref sd),Ya (V.ref am),Ya (V.ref a),Ya (V.ref E)]=[Ya (.ref l),Ya (.ref sd),Ya (.ref am),I,J]/\(∀b o,H b=Ya o->b≠sd->v b=Ya o)/\v sd=Ya (.dK (dI (lN m (rw.take (i+ 1)))))/\Td (lN m (rw.take (i+ 1))):=λv Y Z=>by
   rw[aT hq,sO];exact⟨_,_,rfl,λb o e n=>Y.at n (av b o e n),Z,Fy C c.c0 c.c1 G⟩
  by_cases z:q.2.kd="one"
  ·have ew:RM q.2="sure":=if_pos z;rw[decide_eq_true z,if_pos rfl,ew];have aw:sf [V.str "ready",V.str "sure"] 1=Ya (V.str "sure"):=rfl;lia;rw[show decide (("sure":Yn)="sure")=true from decide_eq_true rfl];refine du (λw=>by cases w) λ_=>?_;lia;intro v Y Z;exact done v Y Z
  ·have ew:RM q.2="ready":=if_neg z;rw[decide_eq_false z,if_neg (by decide),ew];have aw:sf [V.str "ready",V.str "sure"] 0=Ya (V.str "ready"):=rfl;lia;rw[show decide (("ready":Yn)="ready")=true from decide_eq_true rfl];refine du (λw=>by cases w) λ_=>?_;lia;intro v Y Z;exact done v Y Z
 rintro σ A ⟨I,J,rfl,Q,R,C⟩;rw[ly,YM]at R C;lia;exact kk A Q R C
structure Ps(K:Yc)(mg:Yn->Option Yd)(H:Hp)(hs:List Int)(nu gr:Int)(W:List PW)(es:List (bM×V))(ah ap as am:Ye)(sl:List Ye)(ml:List (List (Int×Int)))(res:List (Nat×List (V×bM))):Prop where
 wd:Wd K mg H hs nu gr W (es.map (·.1))
 ha:H ah=Ya (.lst (hs.map V.int))
 hp:H ap=Ya (.lst (W.map λw=>V.ref w.1))
 hs':H as=Ya (.lst (sl.map V.ref))
 ls:sl.length=hs.length
 lm:ml.length=hs.length
 sd:∀(i:Nat) (a:Ye) (m:List (Int×Int)),sl[i]?=Ya a->ml[i]?=Ya m->H a=Ya (.dK (dI m))/\Td m
 sn:sl.Nodup
 md:Vu H am es
 kp:∀e∈es,0<e.1.k
 out:∀(i:Nat) (w:PW),W[i]?=Ya w->∀a∈rJ w,a∉ah::ap::as::am::sl
 n2:2<=hs.length
 n4:hs.length<=4
 nd:(res.map (·.1)).Nodup
 rs:∀e∈res,∃w m,W[e.1]?=Ya w/\ml[e.1]?=Ya m/\w.2.1.dn=lN m e.2/\wV m e.2/\∀q∈e.2,q.2∈es.map (·.1)
 ot:∀(i:Nat) (w:PW) (m:List (Int×Int)),W[i]?=Ya w->ml[i]?=Ya m->i∉res.map (·.1)->w.2.1.dn=m
def Wa(H:Hp)(v:V)(e:Nat×List (V×bM)):Prop:=∃a b c,v=.ref a/\H a=Ya (.tup [.int e.1,.ref b])/\H b=Ya (.lst c)/\Cz H c e.2
section
theorem Ps.same(D:Ps K mg H hs nu gr W es ah ap as am sl ml res)(s:aG H H'):Ps K mg H' hs nu gr W es ah ap as am sl ml res:=
 ⟨D.wd.same s,s _ _ D.ha,s _ _ D.hp,s _ _ D.hs',D.ls,D.lm,λi a m e f=>⟨s _ _ (D.sd i a m e f).1,(D.sd i a m e f).2⟩,D.sn,⟨s _ _ D.md.dt,λe b=>(D.md.tl e b).up (dF.same s),D.md.nd⟩,D.kp,D.out,D.n2,D.n4,D.nd,D.rs,D.ot⟩
theorem F6{w:PW}(h:W[i]?=Ya w)(e:w'.1=w.1):(W.set i w').map (λw=>V.ref w.1)=W.map λw=>V.ref w.1:=by
 refine aaT λj=>?_;rw[Yv,Yv,WE];by_cases z:i=j
 ·rw[if_pos z,←z,h,if_pos (Yi.mp h).1];show Ya (V.ref w'.1)=Ya (V.ref w.1);rw[e]
 ·rw[if_neg z]
theorem Ps.put(D:Ps K mg H hs nu gr W es ah ap as am sl ml res){w:PW}(h:W[i]?=Ya w)(o:Off (rJ w) H H')(P:gL K mg H' w.1 S' x')(ft:∀a∈x'.ft w.1,a∈rJ w∨H a=Yb)(g:i∉res.map (·.1))(t:S'.me=w.2.1.me/\S'.nu=w.2.1.nu/\S'.ha=w.2.1.ha)(ok:Ik hs (es.map (·.1)) S')(ma:S'.ma=w.2.1.ma)(dn:S'.dn=lN w.2.1.dn rw)(v:wV w.2.1.dn rw)(k:∀q∈rw,q.2∈es.map (·.1)):Ps K mg H' hs nu gr (W.set i (w.1,S',x')) es ah ap as am sl ml (res++[(i,rw)]):=by
 have l:=(Yi.mp h).1;have x:lQ H H':=i4 o λa ha=>D.wd.tr h ha;have d:∀{a},a∈ah::ap::as::am::sl->a∉rJ w:=λha c=>D.out i w h _ c ha;have tr:∀{a},a∈ah::ap::as::am::sl->∃u,H a=Ya u:=fun{a} ha=>by
  rcases Ym.mp ha with z|ha
  ·rw[z];exact⟨_,D.ha⟩
  rcases Ym.mp ha with z|ha
  ·rw[z];exact⟨_,D.hp⟩
  rcases Ym.mp ha with z|ha
  ·rw[z];exact⟨_,D.hs'⟩
  rcases Ym.mp ha with z|ha
  ·rw[z];exact⟨_,D.md.dt⟩
  obtain⟨j,r⟩:=YR ha;have A:=(Yi.mp r).1;obtain⟨m,hm⟩:∃m,ml[j]?=Ya m:=⟨_,Yk (by rw[D.lm,←D.ls];exact A)⟩;exact⟨_,(D.sd j a m r hm).1⟩
 have cs:∀{j:Nat} {u:PW},(W.set i (w.1,S',x'))[j]?=Ya u->(j=i/\u=(w.1,S',x'))∨(j≠i/\W[j]?=Ya u):=fun{j u} e=>by
  rw[WE]at e;by_cases z:i=j
  ·rw[if_pos z,if_pos l]at e;exact .inl ⟨z.symm,(YC e).symm⟩
  ·rw[if_neg z]at e;exact .inr ⟨λy=>z y.symm,e⟩
 have B:(W.set i (w.1,S',x'))[i]?=Ya (w.1,S',x'):=by rw[WE,if_pos rfl,if_pos l]
 refine⟨D.wd.put0 h o P ft t ok ma,o _ _ D.ha (d (by simp)),?_,o _ _ D.hs' (d (by simp)),D.ls,D.lm,λj a m e f=>⟨o _ _ (D.sd j a m e f).1 (d (by simp[Yy e])),(D.sd j a m e f).2⟩,D.sn,⟨o _ _ D.md.dt (d (by simp)),λe p=>(D.md.tl e p).up x.smh,D.md.nd⟩,D.kp,λj u e a ha c=>?_,D.n2,D.n4,?_,λe p=>?_,λj u m e f n=>?_⟩
 ·rw[F6 (w':=(w.1,S',x')) h rfl];exact o _ _ D.hp (d (by simp))
 ·rcases cs e with⟨rfl,rfl⟩|⟨n,e⟩
  ·rcases ft a ha with z|z
   ·exact d c z
   ·obtain⟨u,q⟩:=tr c;rw[q]at z;cases z
  ·exact D.out j u e a ha c
 ·rw[Yt,xi];refine⟨D.nd,by simp,λa ha b c z=>?_⟩;have:b=i:=by simpa using c
  rw[z,this]at ha;exact g ha
 ·rcases YG.mp p with z|z
  ·obtain⟨u,m,C,E,F⟩:=D.rs e z;have ne:e.1≠i:=λy=>g (y▸YY z);refine⟨u,m,?_,E,F⟩;rw[WE,if_neg (λy=>ne y.symm)];exact C
  ·rw[Yh.mp z];obtain⟨m,hm⟩:∃m,ml[i]?=Ya m:=⟨_,Yk (by rw[D.lm,←D.wd.len];exact l)⟩;have s:=D.ot i w m h hm g;refine⟨_,m,B,hm,by rw[←s];exact dn,by rw[←s];exact v,k⟩
 ·rw[Yt,YG,not_or]at n;rcases cs e with⟨rfl,rfl⟩|⟨_,e⟩
  ·exact absurd (Yh.mpr rfl) n.2
  ·exact D.ot j u m e f n.1
theorem Rj(h:Hs hs){a:Int}(f:hs[i]?=Ya a)(g:hs[j]?=Ya a):i=j:=by
 obtain⟨b,c⟩:=Yi.mp f;obtain⟨d,e⟩:=Yi.mp g;rcases abT i j with z|z|z
 ·have:=Xg.mp h.up i j b d z;rw[c,e]at this;omega
 ·exact z
 ·have:=Xg.mp h.up j i d b z;rw[c,e]at this;omega
theorem Ed(h:Ik hs mk S):Ik hs (mk++[c]) S:=by
 refine⟨h.ne,h.l10,h.me,λq a=>Y1 _ (h.kin q a),by rw[Yq];exact cb h.kl (by omega),h.od,λn hn=>by rw[Yt];exact Y1 _ (h.oin n hn),?_,h.dk⟩;have:=h.tl;unfold mz at this⊢;rw[YS,Yq,Yq,YV];have:=YQ (λq:bM=>decide (ct S.dn q.c<q.k)) [c];rw[YV]at this;omega
theorem Vf{w:Int}(n:Vx S kd w c)(hk:kd="own"∨kd="heard"∨kd="one")(hw:(if w<0 then-w else w)<10^(60:Int).toNat)(t:Td S.dn)(a:0<=S.me)(b:S.me<63):Wf c:=by
 obtain⟨hs,d,_,rfl⟩:=n;refine⟨hk,hw,?_,λz=>if_pos z,a,b⟩;show Ck (if kd="own"then[]else rZ S.dn hs);by_cases z:kd="own"
 ·rw[if_pos z];exact Ck.nil
 ·rw[if_neg z];exact L3 t.toCk d
theorem Ps.made{x:Hp}(D:Ps K mg H hs nu gr W es ah ap as am sl ml []){w:PW}(h:W[i]?=Ya w){tv:V}{wd:Int}(o:Off (rJ w) H x)(P:gL K mg x w.1 S' x')(ft:∀a∈x'.ft w.1,a∈rJ w∨H a=Yb)(Y:Vx w.2.1 kd wd c)(hk:kd="own"∨kd="heard"∨kd="one")(hw:(if wd<0 then-wd else wd)<10^(60:Int).toNat)(st:Kr {w.2.1 with ma:=w.2.1.ma+ 1,kp:=w.2.1.kp++[(v,c)]} S' rw)(I:Off [am] x H')(gd:H' am=Ya (.dT ((es++[(c,tv)]).map λe=>(eu e.1,e.2))))(tl:kP H' tv c):Ps K mg H' hs nu gr (W.set i (w.1,S',x')) (es++[(c,tv)]) ah ap as am sl ml [(i,rw)]:=by
 have J:=(Yi.mp h).1;have PA:=D.wd.pg i w h;have ok:=D.wd.ok i w h;obtain⟨B,L,ab⟩:=D.wd.st i w h;have M:=Vf Y hk hw PA.td PA.me.1 PA.me.2;obtain⟨N,g,C⟩:c.n=w.2.1.nu/\c.c=w.2.1.me/\c.k=w.2.1.ma+ 1:=by
  obtain⟨_,_,_,e⟩:=Y;rw[e];exact⟨rfl,rfl,rfl⟩
 have Z:(es++[(c,tv)]).map (·.1)=es.map (·.1)++[c]:=by rw[Yt];rfl
 have mo:N0 hs nu (es.map (·.1)++[c]):=⟨λd hd=>?_,λd hd=>?_,λd hd=>?_⟩
 rotate_left
 ·rcases YG.mp hd with z|z
  ·exact D.wd.mo.wf d z
  ·rw[Yh.mp z];exact M
 ·rcases YG.mp hd with z|z
  ·exact D.wd.mo.nu d z
  ·rw[Yh.mp z,N];exact L
 ·rcases YG.mp hd with z|z
  ·exact D.wd.mo.hs d z
  ·rw[Yh.mp z,g];exact Yy B
 have O:Ik hs (es.map (·.1)++[c]) {w.2.1 with ma:=w.2.1.ma+ 1,kp:=w.2.1.kp++[(v,c)]}:=by
  have q:=Ed (c:=c) ok;refine⟨q.ne,q.l10,q.me,λr hr=>?_,?_,q.od,q.oin,q.tl,q.dk⟩
  ·rcases YG.mp hr with z|z
   ·exact q.kin r z
   ·rw[Yh.mp z];exact YF _ (Yh.mpr rfl)
  ·show(w.2.1.kp++[(v,c)]).length<=(es.map (·.1)++[c]).length;rw[Yq,Yq,YV,YV];have:=ok.kl;omega
 obtain⟨Q,ck,R,S,A,e2,e3,e4,e5,_⟩:=LX mo O st;have E:=D.wd.ma i w h;have F:∀{j:Nat} {u:PW},W[j]?=Ya u->j≠i->u.2.1.me≠w.2.1.me:=fun{j u} e n z=>by
  have A:=(D.wd.st j u e).1;rw[z]at A;exact n (Rj D.wd.ho A B)
 have kf:lQ H x:=i4 o λa ha=>D.wd.tr h ha;have G:lQ x H':=by
  have T:x am=Ya (.dT (es.map λe=>(eu e.1,e.2))):=o _ _ D.md.dt (λz=>D.out i w h _ z (by simp));exact I.kpf1 T trivial
 have U:=D.wd.put (mk':=es.map (·.1)++[c]) h o P ft mo ⟨A,e2,e3⟩ Q (λj u e n=>Ed (D.wd.ok j u e)) ?_ (λj u e n=>?_) (λd hd z=>?_) λd hd j u e n z=>?_
 rotate_left
 ·rw[e5,YS,Yq];have:[c].filter (λd=>decide (d.c=w.2.1.me))=[c]:=by simp[g]
  rw[this,YV];show w.2.1.ma+ 1=_;rw[E]
  push_cast
  rfl
 ·rw[D.wd.ma j u e,YS,Yq];have:[c].filter (λd=>decide (d.c=u.2.1.me))=[]:=by
   have:=F e n;simp[g];exact λz=>this z.symm
  rw[this];simp
 ·rw[e5];show d.k<=w.2.1.ma+ 1;rcases YG.mp hd with y|y
  ·have:=D.wd.mx d y i w h z;omega
  ·rw[Yh.mp y,C];exact Xi _
 ·rcases YG.mp hd with y|y
  ·exact D.wd.mx d y j u e z
  ·rw[Yh.mp y,g]at z;exact absurd z.symm (F e n)
 have nf:∀{a},a∈ah::ap::as::am::sl->a∉rJ w:=λha l=>D.out i w h _ l ha;have tr:∀{a},a∈ah::ap::as::am::sl->∃u,H a=Ya u:=fun{a} ha=>by
  rcases Ym.mp ha with z|ha
  ·rw[z];exact⟨_,D.ha⟩
  rcases Ym.mp ha with z|ha
  ·rw[z];exact⟨_,D.hp⟩
  rcases Ym.mp ha with z|ha
  ·rw[z];exact⟨_,D.hs'⟩
  rcases Ym.mp ha with z|ha
  ·rw[z];exact⟨_,D.md.dt⟩
  obtain⟨j,hj⟩:=YR ha;have lj:=(Yi.mp hj).1;obtain⟨m,hm⟩:∃m,ml[j]?=Ya m:=⟨_,Yk (by rw[D.lm,←D.ls];exact lj)⟩;exact⟨_,(D.sd j a m hj hm).1⟩
 have cs:∀{j:Nat} {u:PW},(W.set i (w.1,S',x'))[j]?=Ya u->(j=i/\u=(w.1,S',x'))∨(j≠i/\W[j]?=Ya u):=fun{j u} e=>by
  rw[WE]at e;by_cases z:i=j
  ·rw[if_pos z,if_pos J]at e;exact .inl ⟨z.symm,(YC e).symm⟩
  ·rw[if_neg z]at e;exact .inr ⟨λy=>z y.symm,e⟩
 have t:∀(j:Nat) (u:PW),(W.set i (w.1,S',x'))[j]?=Ya u->∀a∈rJ u,a∉ah::ap::as::am::sl:=λj u e a ha l=>by
  rcases cs e with⟨rfl,rfl⟩|⟨n,e⟩
  ·rcases ft a ha with z|z
   ·exact nf l z
   ·obtain⟨u,q⟩:=tr l;rw[q]at z;cases z
  ·exact D.out j u e a ha l
 have p:∀{a:Ye} {u:HO},H a=Ya u->a∈ah::ap::as::am::sl->(∀k,u≠.dT k)->H' a=Ya u:=fun{a u} e ha d=>I a u (o a u e (nf ha)) (λz=>by
  rw[Yh.mp z,D.md.dt]at e;cases e;exact d _ rfl)
 have X:∀e∈es,eu e.1≠eu c:=λe s z=>by
  unfold eu at z;have A:e.1.c=c.c:=WM (xj (xj z).2).1;have e2:e.1.k=c.k:=WM (xj (xj (xj z).2).2).1;have:=D.wd.mx e.1 (YY s) i w h (by rw[A,g]);omega
 have iw:(W.set i (w.1,S',x'))[i]?=Ya (w.1,S',x'):=by rw[WE,if_pos rfl,if_pos J]
 refine⟨by rw[Z];exact U.off I G λj u e a ha z=>t j u e a ha (by rw[Yh.mp z];simp),p D.ha (by simp) (by intro _ z;cases z),?_,p D.hs' (by simp) (by intro _ z;cases z),D.ls,D.lm,λj a m e f=>⟨p (D.sd j a m e f).1 (by simp[Yy e]) (by intro _ z;cases z),(D.sd j a m e f).2⟩,D.sn,⟨gd,λe s=>?_,?_⟩,λe s=>?_,t,D.n2,D.n4,by simp,λe s=>?_,λj u m e f n=>?_⟩
 ·rw[F6 (w':=(w.1,S',x')) h rfl];exact p D.hp (by simp) (by intro _ z;cases z)
 ·rcases YG.mp s with z|z
  ·exact(D.md.tl e z).up (kf.smh.trans G.smh)
  ·rw[Yh.mp z];exact tl
 ·rw[Yt,xi];refine⟨D.md.nd,by simp,λa ha b l z=>?_⟩;obtain⟨e,s,ee⟩:=YL.mp ha;have l:b=eu c:=by simpa using l
  exact X e s (by rw[ee,z,l])
 ·rcases YG.mp s with z|z
  ·exact D.kp e z
  ·rw[Yh.mp z];show 0<c.k;rw[C,E];omega
 ·rw[Yh.mp s];obtain⟨m,hm⟩:∃m,ml[i]?=Ya m:=⟨_,Yk (by rw[D.lm,←D.wd.len];exact J)⟩;have e0:=D.ot i w m h hm (by simp);refine⟨_,m,iw,hm,by rw[←e0];exact S,by rw[←e0];exact ck,λq hq=>by rw[Z];exact R q hq⟩
 ·rcases cs e with⟨rfl,rfl⟩|⟨_,e⟩
  ·exact absurd (by simp) n
  ·exact D.ot j u m e f (by simp)
end
abbrev p7:YT:=eX 52
theorem Rz{n:Nat}(h:Ik hs mk S)(hn:mk.length<=n)(a:∀q∈S.kp,q.2.n=S.nu)(ma:0<=S.ma)(mx:∀q∈S.kp,q.2.c=S.me->q.2.k<=S.ma):Nf S n:=by
 have ol:S.od.length<=mk.length:=by
  have:=GL h.od h.oin;rw[Yf]at this;exact this
 have kl:=h.kl;have tl:=h.tl;exact⟨h.ne,h.l10,by omega,by omega,by omega,h.me,a,ma,mx⟩
theorem Ps.pgok(D:Ps K mg H hs nu gr W es ah ap as am sl ml res){w:PW}(h:W[i]?=Ya w){n:Nat}(hn:es.length<=n):Nf w.2.1 n:=by
 refine Rz (D.wd.ok i w h) (by rw[Yf];exact hn) (λq a=>?_) ?_ λq a z=>D.wd.mx _ ((D.wd.ok i w h).kin q a) i w h z
 ·rw[D.wd.mo.nu _ ((D.wd.ok i w h).kin q a),(D.wd.st i w h).2.1]
 ·rw[D.wd.ma i w h];exact adl _
theorem Ps.none'(D:Ps K mg H hs nu gr W es ah ap as am sl ml [])(b:i<hs.length):Ps K mg H hs nu gr W es ah ap as am sl ml [(i,[])]:=by
 refine⟨D.wd,D.ha,D.hp,D.hs',D.ls,D.lm,D.sd,D.sn,D.md,D.kp,D.out,D.n2,D.n4,by simp,λe c=>?_,λj u m e f n=>D.ot j u m e f (by simp)⟩;rw[Yh.mp c];have h1:i<W.length:=by rw[D.wd.len];exact b
 have h2:i<ml.length:=by rw[D.lm];exact b
 exact⟨_,_,Yk h1,Yk h2,D.ot i _ _ (Yk h1) (Yk h2) (by simp),(λj q a=>by simp at a),λq a=>nomatch a⟩
theorem thaw_same(hd:H d=Ya (.dT kvs))(a:JH d H A)(s:aG A B):aG H (upd B d (.dT kvs)):=λb u e=>by
 by_cases z:b=d
 ·rw[z,ai,←e,z,hd]
 ·rw[ak z];exact s _ _ (a b u z e)
theorem Rx{S:List Int}(h:Hs hs)(t:Td m)(hk:∀e∈m,e.1∈hs)(a:S.Perm (m.map (·.1)))(b:S.Pairwise (·<=·)):rZ m hs=rZ m S:=by
 rw[F9 t.toCk a b];unfold rZ Av;have:=pI (l:=hs.filter λk=>decide (0<ct m k)) (m:=AZ.filter λk=>decide (0<ct m k)) (h.up.filter _) (Bf.filter _) λx=>?_
 ·rw[this]
 ·rw[Y4,Y4];constructor
  ·rintro⟨h1,h2⟩;have:=h.rg x h1;exact⟨Bm.mpr this,h2⟩
  ·rintro⟨h1,h2⟩;refine⟨?_,h2⟩;have h2:=of_decide_eq_true h2;by_cases z:x∈m.map (·.1)
   ·obtain⟨p,hp,rfl⟩:=YL.mp z;exact hk p hp
   ·rw[mJ z]at h2;cases h2
def oy(W:List PW):List Ye:=W.flatMap rJ
theorem iY:a∈oy W↔∃w∈W,a∈rJ w:=List.mem_flatMap
theorem uF{w:PW}(h:W[i]?=Ya w)(ha:a∈rJ w):a∈oy W:=iY.mpr ⟨w,Yy h,ha⟩
theorem Hn{w:PW}(h:W[i]?=Ya w)(ft:∀a∈rJ w',a∈rJ w∨H a=Yb):∀a∈oy (W.set i w'),a∈oy W∨H a=none:=λa ha=>by
 obtain⟨u,c,b⟩:=iY.mp ha;rcases abX c with z|z
 ·exact .inl (iY.mpr ⟨u,z,b⟩)
 ·rw[z]at b;exact(ft a b).imp (uF h) id
def sj(K:Yc)(mg:Yn->Option Yd):Sp:=λc H Q _=>∃(i:Nat) (d:Ye) (nu:Int) (ap e am:Ye) (cell:Int),c=[.int (i:Nat),.ref d,.int nu,.ref ap,.ref e,.ref am,.int cell]/\∃hs g W f h j w,Ps K mg H hs nu g W f d ap e am h j []/\i<hs.length/\W[i]?=Ya w/\f.length<=30/\
 ∀b r c k l rw,Ps K mg b hs nu g k l d ap e am h j [(i,rw)]->Off (am::rJ w) H b->(∃ex,l=f++ex/\ex.length<=1)->(∀a∈oy k,a∈oy W∨H a=Yb)->H r=Yb->b r=Ya (.lst c)->Paired (Wa b) c [(i,rw)]->Q (.ref r) b
abbrev Cr:List Yn:=["_law_at","_law_hands_here","_law_number","_law_pages_here","_law_seen","_law_made","_law_cell"]
theorem cu:aE ["_law_at","_law_hands_here","_law_number","_law_pages_here","_law_seen","_law_made","_law_cell","_law_hand","_law_kind","_law_count","_law_causes","_law_told","_law_found","_law_good"] Cr (ao p7):=eW
variable{sy:Ye}{qU:Yx}(tX:aF P w K mg base (BB P w) 9 sy qU B8 (qK K mg))(ui:Binds K qU B8 [])(iq:bB K cj "utter" sy)(fV:LN K bW bW)
include eV tX ui d5 fq aY aU iq mG fV in
theorem Bb(F:bH K "_law_call" "_law_call" p7 f fd):aF P w K mg base bx 10 f fd Cr (sj K mg):=by
 refine F.oj cu ?_;rintro _ A _ _ H _ _ E hr _ _ hu ⟨i,ah,nu,ap,as,am,cell,rfl,h⟩;refine⟨_,(aj (aX (i:=7) cu.nd rfl (abB rfl) (bp (bI (K:=K) rfl) (pv 1) (pv 0) (λ_ _=>rfl)))
   (aj (aX (i:=8) cu.nd rfl (YB rfl) (bp (bI (K:=K) rfl) (dQ (aa gF (aa gF (aa gF af)))) (aW c7 (pv 6) ax) (λ_ _=>rfl)))
   (aj (MV (aX (i:=9) cu.nd rfl (YB rfl) (aW d0 ax (bj (cY (K:=K) rfl) (by rfl) d5 Wr (aa (bQ ["_law_hand","_law_name"] [Ya 7,Yb] rfl rfl (by kernel_rfl) (Mi (pv 5)) (λ_ _ _ _ _ nd=>aP (i:=1) nd rfl (YB rfl)) (λ_ _ _ _ _=>(eY (bc oP (bp (br (K:=K) rfl) (pv 1) ax (λ_ _=>rfl)) (pv 0) (bu _)))) (λ_ _ _ _ _=>(pv 1))) af)))))
   (aj (aX (i:=10) cu.nd rfl (YB rfl) (cv af))
   (aj (dg (bc ya (pv 8) gF (bu _)) (au (aX (i:=10) cu.nd rfl (YB rfl) (bO (iu (K:=K) rfl) (by rfl) fq WK (aa (bQ ["_law_seen","_law_at","_law_one"] [Ya 4,Ya 0,Yb] rfl rfl (by kernel_rfl) (bJ (K:=K) rfl (pv 1)) (λ_ _ _ _ _ nd=>aP (i:=2) nd rfl (YB rfl)) (λ_ _ _ _ _=>(eY (Fq (JI hu (pv 2) (bp (bI (K:=K) rfl) (pv 0) (pv 1) (λ_ _=>rfl)))))) (λ_ _ _ _ _=>(cv (aa (pv 2) (aa (wK hu (bp (bI (K:=K) rfl) (pv 0) (pv 1) (λ_ _=>rfl)) (pv 2) (λ_ _=>rfl)) af))))) af)))) bD)
   (aj (aX (i:=11) cu.nd rfl (YB rfl) (cv (aa (pv 2) (aa (pv 7) (aa (pv 9) (aa (pv 8) (aa (aW d0 (aW xT (aW c7 (aW f9 (pv 6) ax) (aW xT (aW uM ax (aW Bg ax ax)) ax)) (aW Bg ax ax)) ax) (aa (pv 10) af))))))))
   (aj (aX (i:=12) cu.nd rfl (YB rfl) (dQ af))
   (aj (aX (i:=13) cu.nd rfl (YB rfl) i8)
   (aj (Pj (K:=K) rfl rfl rfl (by rfl) mG fV (λZa EE=>(au (aX (i:=12) cu.nd rfl (YB rfl) (MR (bp (bI (K:=K) rfl) (pv 3) (pv 0) (λ_ _=>rfl)) aY.cl iq tX hr ui (aa (pv 8) (aa (bp (br (K:=K) rfl) (pv 11) ax (λ_ _=>rfl)) af)))))) (λea=>(au (aX (i:=13) cu.nd rfl (YB rfl) i8))))
   (aj (dg (mE (Ke (K:=K) rfl (pv 13))) (au (mD hu (pv 5) (cv (aa (pv 2) (aa (pv 7) (aa (pv 9) af)))) (pv 11) rfl)) bD)
   (au (aL (dQ (aa (cv (aa (pv 0) (aa (pv 12) af))) af)))))))))))))),?_⟩
 obtain⟨hs,gr,W,p,sl,ml,w,D,hi,hw,bw,kk⟩:=h;obtain⟨aS,aV,bE⟩:=D.wd.st i w hw;have hS:bo K H ah (hs.map V.int):=bo.of D.ha;have bF:sf (hs.map V.int) (i:Int)=Ya (.int w.2.1.me):=cE (by rw[Yv,aS];rfl);have q0:=xl cell (show(3:Int)≠0 by decide);have q1:=Wo cell (show(0:Int)<3 by decide);lia;intro lk H1 bG s1 a0;have bN:bo K H1 lk [.str "one",.str "heard",.str "own"]:=bo.of a0;obtain⟨kd,bm,ag⟩:∃kd:Yn,sf [V.str "one",V.str "heard",V.str "own"] (cell%3)=Ya (.str kd)/\(kd="own"∨kd="heard"∨kd="one"):=by
  have:cell%3=0∨cell%3=1∨cell%3=2:=by omega
  rcases this with z|z|z
  ·exact⟨"one",by rw[z];rfl,.inr (.inr rfl)⟩
  ·exact⟨"heard",by rw[z];rfl,.inr (.inl rfl)⟩
  ·exact⟨"own",by rw[z];rfl,.inl rfl⟩
 have X:=s1 _ _ D.md.dt;have D1:=D.same s1;lia;refine OO (d:=am) X ?_;lia;refine L5 X λo A hA sA=>?_;intro Dc al;refine EA (kvs:=p.map λe=>(eu e.1,e.2)) (λi σ B=>∃v g,σ=[Ya (.int w.2.1.me),v]/\aG A B/\B Dc=Ya (.lst g)/\g.length=((p.take i).filter λe=>decide (e.1.c=w.2.1.me)).length) ⟨Yb,[],rfl,aD al,ai,rfl⟩ ?_ ?_ ?_
 ·rintro j σ B _ ⟨_,_,_,z,_⟩;exact z _ _ hA
 ·rintro j k v b σ B hk ⟨v0,g,rfl,s,gD,lx⟩ gb;rw[Yv]at hk;obtain⟨e,he,L⟩:=X8.mp hk;cases L;have hj:=(Yi.mp he).1;have bR:bC K B b [.int e.1.n,.int e.1.c,.int e.1.k]:=bC.of gb;have lf:=YQ (λe:bM×V=>decide (e.1.c=w.2.1.me)) (p.take j);rw[Y8]at lf;rw[aT he,YS];lia;refine du (λz=>?_) λz=>?_
  ·have z:e.1.c=w.2.1.me:=of_decide_eq_true z;lia;refine⟨g,gD,aJ (by omega),_,g++[.ref b],rfl,λb' Y q=>?_,ai,?_⟩
   ·rw[ak (ay q al)];exact s b' Y q
   ·rw[acp (by exact decide_eq_true z),Yq,Yq,lx];rfl
  ·have z:¬ e.1.c=w.2.1.me:=λq=>z (decide_eq_true q);refine⟨_,g,rfl,s,gD,?_⟩;rw[acq (by rw[decide_eq_false z];exact YN),List.filter_nil,gf];exact lx
 rintro σ B ⟨v0,g,rfl,s,gD,lx⟩;rw[Yf,YM]at lx;have a1:=D.wd.ma i w hw;have a2:(g.length:Int)=w.2.1.ma:=by
  rw[a1,lx,List.filter_map,Yf];rfl
 have bT:bo K B Dc g:=bo.of gD;lia;rw[a2];refine⟨⟨o,s _ _ hA⟩,?_⟩;have s2:aG H1 _:=thaw_same X sA s;generalize upd B am (.dT (p.map λe=>(eu e.1,e.2)))=H2 at s2⊢;have an:=s1.trans s2;have D2:=D.same an;obtain⟨ae,aq⟩:∃a,sl[i]?=Ya a:=⟨_,Yk (by rw[D.ls];exact hi)⟩;obtain⟨m,hm⟩:∃m,ml[i]?=Ya m:=⟨_,Yk (by rw[D.lm];exact hi)⟩;have em:=D.ot i w m hw hm (by simp);obtain⟨a3,tm⟩:=D2.sd i ae m aq hm;have a4:=D.wd.ok i w hw;have a5:∀e∈m,e.1∈hs:=by rw[←em];exact a4.dk
 have bn:sf (sl.map V.ref) (i:Int)=Ya (.ref ae):=cE (by rw[Yv,aq];rfl);lia;intro t0 H3 bW s3 a6;have D3:=D2.same s3;have a7:=s3 _ _ a3;have bX:bo K H3 ah (hs.map V.int):=bo.of D3.ha;refine Ad (λσ A=>∃tc xc,σ=[Ya (.int i),Ya (.ref ah),Ya (.int nu),Ya (.ref ap),Ya (.ref as),Ya (.ref am),Ya (.int cell),Ya (.int w.2.1.me),Ya (.str kd),Ya (.int (1+ w.2.1.ma)),Ya (.ref tc),Yb,Yb,Yb]/\aG H3 A/\A tc=Ya (.tup xc)/\i6 A xc (if kd="own"then[]else rZ m hs)) ?_ λN Zd=>?_
 rotate_left
 ·lia;refine du (λz=>?_) λz=>?_
  ·have z:¬ kd="own":=λq=>by rw[q]at z;exact absurd z (by decide)
   lia;intro E hE;refine bL (K:=K) (a:=ah) (xs:=hs.map V.int) (λj σ B=>∃v g,σ=[Ya (.ref as),Ya (.int i),v]/\aG H3 B/\B E=Ya (.lst g)/\i6 B g (rZ m (hs.take j))) ⟨Yb,[],rfl,aD hE,ai,.nil⟩ ?_ ?_ ?_
   ·rintro j σ B _ ⟨_,_,_,z,_⟩;exact bo.of (z _ _ D3.ha)
   ·rintro j y σ B hy ⟨v,g,rfl,s,gE,pr⟩;obtain⟨h,hh,rfl⟩:=fP hy;have hj:=(Yi.mp hh).1;have lx:=Y0 pr;have a8:=Ox m (hs.take j);rw[Y8]at a8;have bY:bo K B as (sl.map V.ref):=bo.of (s _ _ D3.hs');have b0:=s _ _ a7;have n4:=D.n4;rw[aT hh];lia;refine du (λq=>?_) λq=>?_
    ·obtain⟨c,hc⟩:=aaE.mp q;have cc:ct m h=c:=by unfold ct;rw[hc];rfl
     have cp:0<ct m h:=by
      by_cases y:h∈m.map (·.1)
      ·exact tm.pos y
      ·rw[F7 y]at hc;cases hc
     lia;intro u B1 hu n gu;rw[←cc]at gu;have ar:=n _ _ gE;have kp:dF B1 (upd B1 E (.lst (g++[.ref u]))):=dF.lst ar;refine⟨g,ar,aJ (by omega),_,g++[.ref u],rfl,λb Y e=>?_,ai,?_⟩
     ·rw[ak (ay e hE)];exact n _ _ (s b Y e)
     ·rw[GP cp];exact jL ((pr.mono (dF.same n)).mono kp) ⟨u,rfl,kp _ _ gu⟩
    ·have cp:¬ 0<ct m h:=λy=>q (by
      unfold ct at y;cases e:qY m h with
      |none=>rw[e]at y;cases y
      |some _=>rfl)
     refine⟨_,g,rfl,s,gE,?_⟩;rw[Kq cp];exact pr
   rintro σ B ⟨v,g,rfl,s,gE,pr⟩;rw[show hs.take (hs.map V.int).length=hs by rw[Yf,YM]]at pr;have b1:bo K B E g:=bo.of gE;lia;intro tc B1 b2 n Z;refine Zd _ _ ⟨tc,g,rfl,s.trans n,Z,?_⟩;rw[if_neg z];exact pr.mono (dF.same n)
  ·have z:kd="own":=by
    by_cases q:kd="own"
    ·exact q
    ·exact absurd (by rw[decide_eq_false q];rfl) z
   lia;refine Zd _ _ ⟨t0,[],rfl,λb o e=>e,a6,?_⟩;rw[if_pos z];exact .nil
 rintro σ A ⟨tc,xc,rfl,av,Z,ba⟩;have b3:=LQ;have M:(0:Int)<2*10^(60:Int).toNat-1:=by omega
 have bt:MA 10 60:=⟨by decide,by decide,by decide⟩;have b4:Ba 2 (10^(60:Int).toNat):=.inl ⟨by decide,by decide⟩;have DA:=D3.same av;lia;have y0:=xl (cell / 3) (ach M);have y1:=Wo (cell / 3) M;have ab:(if cell / 3%(2*10^XE 60-1)-10^XE 60+ 1<0 then-(cell / 3%(2*10^XE 60-1)-10^XE 60+ 1)else cell / 3%(2*10^XE 60-1)-10^XE 60+ 1)<(10:Int)^(60:Int).toNat:=by
  generalize cell / 3%(2*10^XE 60-1)=y at y0 y1⊢;generalize (10:Int)^XE 60=P at y0 y1⊢;split<;>omega
 generalize cell / 3%(2*10^XE 60-1)-10^XE 60+ 1=wd at ab⊢;intro x A1 b5 G bb;lia;intro fl O b6 t bd;have I:=DA.same (G.trans t);have Q:=t _ _ bb;have s5:aG H O:=an.trans (s3.trans (av.trans (G.trans t)));have b7:bC K O x [.int nu,.int w.2.1.me,.int (1+ w.2.1.ma),.str kd,.int wd,.ref tc]:=bC.of Q;have b8:bo K O ap (W.map λw=>V.ref w.1):=bo.of I.hp;have bv:sf (W.map λw=>V.ref w.1) (i:Int)=Ya (.ref w.1):=cE (by rw[Yv,hw];rfl);have PA:=I.wd.pg i w hw;obtain⟨C,dx,mP,T,hp⟩:=PA.ob;have eC:=mP;rw[aU]at eC;cases eC;lia;refine RI ?_;lia;refine Pa ?_;lia;refine⟨w.1,dx,_,rfl,hp,Al,?_⟩;lia;refine⟨w.1,kd,wd,rfl,w.2.1,w.2.2,PA,I.pgok hw (by omega),ag,ab,λH' x' S' rw l ys v c j Y be P' aw bf bg nw st hl nl gl tv=>?_,λH' j ea Ce s' bf bg mh he=>?_⟩
 ·have kf:lQ O H':=i4 Y λa ha=>I.wd.tr hw ha;have az:H' am=Ya (.dT (p.map λe=>(eu e.1,e.2))):=Y _ _ I.md.dt (λz=>I.out i w hw _ z (by simp));have ec:c=⟨kd,nu,w.2.1.me,1+ w.2.1.ma,wd,if kd="own"then[]else rZ m hs⟩:=by
   obtain⟨S0,pm,so,e⟩:=nw;rw[e,Rx D.wd.ho tm a5 (by rw[←em];exact pm) so,em,aV,Int.add_comm]
  have bh:kP H' (.ref x) c:=by
   rw[ec];exact⟨x,tc,xc,rfl,kf.smh _ _ Q,kf.smh _ _ (t _ _ (G _ _ Z)),(ba.mono (dF.same (G.trans t))).mono kf.smh⟩
  lia;refine tW ?_;lia;intro u R hu S gu;have aA:eu c=[YD nu,YD w.2.1.me,YD (1+ w.2.1.ma)]:=by rw[ec];rfl
  have nk:eu c∉(p.map λe=>(eu e.1,e.2)).map (·.1):=λz=>by
   rw[xw]at z;obtain⟨e,he,L⟩:=YL.mp z;have L:eu e.1=eu c:=L;rw[aA]at L;unfold eu at L;have e1:e.1.c=w.2.1.me:=WM (xj (xj L).2).1;have e2:e.1.k=1+ w.2.1.ma:=WM (xj (xj (xj L).2).2).1;have:=D.wd.mx e.1 (YY he) i w hw e1;omega
  refine⟨am,_,rfl,y6.t (k:=eu c) (S _ _ az) (by rw[aA];exact gu) (aJ (by rw[Yf];omega)),?_⟩;rw[Ap nk];have o6:Off (rJ w) O R:=λb o e U=>S _ _ (Y b o e U);have o7:Off [am] R (upd R am (.dT ((p.map λe=>(eu e.1,e.2))++[(eu c,.ref x)]))):=λb u e U=>by rw[ak (λz=>U (Yh.mpr z))];exact e
  have k7:lQ R _:=o7.kpf1 (S _ _ az) trivial;have D7:=I.made (tv:=.ref x) hw o6 (P'.same S) aw nw ag ab st o7 (by rw[ai,Yt];rfl) ((bh.up (dF.same S)).up k7.smh);have aB:l≠am:=λz=>by rw[z,I.md.dt]at hl;cases hl
  have aC:upd R am (.dT ((p.map λe=>(eu e.1,e.2))++[(eu c,.ref x)])) l=Ya (.lst ys):=by rw[ak aB];exact S _ _ gl
  have aI:=(tv.up (dF.same S)).up k7.smh;have oA:Off (am::rJ w) O (upd R am (.dT ((p.map λe=>(eu e.1,e.2))++[(eu c,.ref x)]))):=λb o e U=>o7 b o (o6 b o e λz=>U (Yp _ z)) λz=>U (by rw[Yh.mp z];exact Ys);have aK:∀a,upd R am (.dT ((p.map λe=>(eu e.1,e.2))++[(eu c,.ref x)])) a=Yb->O a=none:=λa e=>by
   by_cases z:a=am
   ·rw[z,ai]at e;cases e
   ·rw[ak z]at e;exact be a (S.free e)
  generalize upd R am (.dT ((p.map λe=>(eu e.1,e.2))++[(eu c,.ref x)]))=A7 at D7 aC aI oA aK⊢;lia;intro u' A8 b9 s8 bi;lia;intro r A9 bl s9 ac;have J:=s8.trans s9;exact kk A9 r _ _ _ rw (D7.same J) (λb o e U=>J _ _ (oA b o (s5 _ _ e) U)) ⟨[(c,.ref x)],rfl,Yj _⟩ (Hn hw λa ha=>(aw a ha).imp id λz=>s5.free z) (s5.free (aK _ (s8.free bl))) ac (.cons ⟨u',l,ys,rfl,s9 _ _ bi,J _ _ aC,aI.up (dF.same J)⟩ .nil)
 ·have aN:aG O (upd H' ea (xO ea Ce)):=λb o e=>by
   rw[ak (λz=>by rw[z,he]at e;cases e)];exact s' b o e
  rw[mG]at mh;cases mh;refine⟨ea,_,rfl,rfl,fV,?_⟩;lia;refine tW ?_;lia;intro u A3 hu aQ gu;lia;intro r A4 hr aR ac;have ad:=aN.trans (aQ.trans aR);refine kk A4 r _ W p [] ((I.same ad).none' hi) (Off.of (s5.trans ad)) ⟨[],by simp,by simp⟩ (λa ha=>.inl ha) (s5.free (aN.free (aQ.free hr))) ac (.cons ⟨u,fl,[],rfl,aR _ _ gu,ad _ _ bd,.nil⟩ .nil)
theorem O4(c:Ck m):Td (Av (ct m)):=by
 have a:(Av (ct m)).map (·.1)=AZ.filter λk=>decide (0<ct m k):=by
  unfold Av;rw[xw];exact aaN _
 refine⟨⟨?_,λp hp=>?_,λp hp=>?_⟩,λp hp=>?_⟩
 ·rw[a];exact(Bf.imp λh=>ae1 h).filter _
 all_goals
  unfold Av at hp;obtain⟨k,b,rfl⟩:=YL.mp hp;obtain⟨h1,h2⟩:=Y4.mp b
 ·exact c.ct k
 ·exact Bm.mp h1
 ·exact of_decide_eq_true h2
theorem GJ(h:∀e∈tb,Td e.2):∀e∈vf tb,Td e.2:=λe a=>by
 unfold vf at a;obtain⟨q,b,rfl⟩:=YL.mp a;exact O4 (h q (Y4.mp b).1).toCk
theorem Eg(tb:List (Int×List (Int×Int))):(vf tb).length<=tb.length:=by
 unfold vf;rw[Yf];exact YQ _ _
theorem MW{rs:List (Int×V)}(k:kQ K mg H p d rs tb):tb.length<=64:=by
 have:=iJ (k.hs.up.imp λh=>ae1 h) k.hs.rg;rw[Yf]at this;omega
def wW(mk:List bM)(H:Hp)(t:Ye)(f:Int):Prop:=∃a b d cs,Vv H t f a b d cs/\(∀c∈cs,c∈mk)/\cs.length<=mk.length/\a.Nodup/\(∀n∈a,n∈mk.map SW)/\b.length<=64/\d.length<=64/\(∀e∈b,Td e.2)/\∀e∈d,Td e.2
theorem wW.up(u:dF H H')(h:wW mk H t sm):wW mk H' t sm:=by
 obtain⟨a,b,c,cs,⟨d,e,f,g,i,j,k,l,h1,h2,h3,h4,h5,h6,h7,h8,h9⟩,r⟩:=h;exact⟨a,b,c,cs,⟨d,e,f,g,i,j,k,l,u _ _ h1,u _ _ h2,h3.up u,u _ _ h4,ip u h5,u _ _ h6,ip u h7,u _ _ h8,Paired.mapP h9 λ_ _ z=>z.up u⟩,r⟩
theorem wW.mono(h:wW mk H t sm):wW (mk++ex) H t sm:=by
 obtain⟨a,b,d,cs,h1,h2,h3,h4,h5,h6⟩:=h;exact⟨a,b,d,cs,h1,λc e=>Y1 _ (h2 c e),by rw[Yq];omega,h4,λn hn=>by rw[Yt];exact Y1 _ (h5 n hn),h6⟩
def Te(e:Int×List (Int×Int)):Xt:=.tuple [.int e.1,.tuple (e.2.map JE)]
theorem Cf{K:Yc}:∀{xs:List V} {ls:List (Int×List (Int×Int))},xD H xs ls->CL K H xs (ls.map Te):=by
 intro xs ls w
 induction w with
 |nil=>exact .nil
 |cons w r ih=>
  obtain⟨t,u,xs,a,b,c,d⟩:=w;subst a;exact .cons (.tup (bC.of b) (.cons (.int _) (.cons (.tup (bC.of c) d.dps) .nil))) ih
theorem F8:∀ls:List (Int×List (Int×Int)),WD (ls.map Te)=true
 |[]=>rfl
 |e::ls=>by
  have:(Te e).canLay0=true:=by simp[Te,acV,WD,Be]
  rw[Yz,Xy,this,F8 ls];rfl
theorem wW.dp{K:Yc}(h:wW mk H t sm)(wf:∀c∈mk,Wf c):∃d,Dp K H (.ref t) d/\d.canLay0=true:=by
 obtain⟨a,b,e,cs,⟨g,i,j,k,l,m,n,o,h1,h2,h3,h4,h5,h6,h7,h8,h9⟩,h10,_⟩:=h;refine⟨.tuple [.int sm,.tuple (a.map Gg),.tuple (b.map Te),.tuple (e.map Te),.tuple (cs.map Qh)],.tup (bC.of h1) (.cons (.int _) (.cons (.tup (bC.of h2) h3.dps) (.cons (.tup (bC.of h4) (Cf h5)) (.cons (.tup (bC.of h6) (Cf h7)) (.cons (.tup (bC.of h8) (Vy.dps h9)) .nil))))),?_⟩;simp[acV,WD,Hi,F8,GN λc f=>wf c (h10 c f)]
def wm(mk:List bM)(H:Hp)(pl:List V):Prop:=∀v∈pl,∃t a,v=.ref t/\wW mk H t a
theorem wm.up(u:dF H H')(h:wm mk H pl):wm mk H' pl:=λv a=>by
 obtain⟨t,b,e,q⟩:=h v a;exact⟨t,b,e,q.up u⟩
theorem wm.mono(h:wm mk H pl):wm (mk++ex) H pl:=λv a=>by
 obtain⟨t,b,e,q⟩:=h v a;exact⟨t,b,e,q.mono⟩
theorem wm.dps{K:Yc}{mk:List bM}{H:Hp}(wf:∀c∈mk,Wf c):∀{pl:List V},wm mk H pl->∃ds,CL K H pl ds/\WD ds=true
 |[],_=>⟨[],.nil,rfl⟩
 |v::pl,h=>by
  obtain⟨t,b,rfl,q⟩:=h v Ys;obtain⟨d,h1,h2⟩:=q.dp (K:=K) wf;obtain⟨ds,h3,h4⟩:=wm.dps (K:=K) wf λv a=>h v (Yp _ a);exact⟨d::ds,.cons h1 h3,by rw[Xy,h2,h4];rfl⟩
theorem G0:(∀q∈O2 zs sk mv,q∈zs)/\(O2 zs sk mv).length<=zs.length:=by
 unfold O2;split
 ·exact⟨λq a=>aas (aar a),by rw[Y8,Xw];omega⟩
 ·exact⟨λq a=>aas a,by rw[Xw];omega⟩
section
theorem Ps.pc(D:Ps K mg H hs nu gr W es ah ap as am sl ml res){w:PW}(h:W[i]?=Ya w)(a:zs.Perm w.2.1.kp)(b:Vv H' t w.2.1.me w.2.1.od (vf w.2.1.ta) (vf w.2.1.ab) ((O2 zs sk mv).map (·.2))):wW (es.map (·.1)) H' t w.2.1.me:=by
 have PA:=D.wd.pg i w h;have ok:=D.wd.ok i w h;refine⟨_,_,_,_,b,λc d=>?_,?_,ok.od,ok.oin,cb (Eg _) (MW PA.ta),cb (Eg _) (MW PA.ab),GJ PA.ta.td,GJ PA.ab.td⟩
 ·obtain⟨q,e,rfl⟩:=YL.mp d;exact ok.kin q (a.mem_iff.mp (G0.1 q e))
 ·rw[Yf];have:=(G0 (zs:=zs) (sk:=sk) (mv:=mv)).2;have:=a.length_eq;have:=ok.kl;omega
theorem E1.nd{kp:List (V×bM)}(h:E1 dn kp cs Zi)(e:(kp.map λq=>eu q.2).Nodup):(Zi.map λq=>eu q.2).Nodup:=by
 induction h with
 |nil=>exact e
 |skip _ _ ih=>exact ih
 |@add _ _ c _ _ _ n ih=>
  rw[Yt,xi];refine⟨ih,by simp,λa ha b d z=>?_⟩;have d:b=eu c:=by simpa using d
  rw[z,d]at ha;exact n ha
theorem RN{b:Pg}{d:List Nm}{l o:List (Int×List (Int×Int))}(h:Ik hs mk S)(kn:(S.kp.map λq=>eu q.2).Nodup)(p:V3 S d l o cs b)(f:∀c∈cs,c∈mk)(sn:d.Nodup)(g:∀n∈d,n∈mk.map SW):Ik hs mk b/\b.dn=S.dn/\b.me=S.me/\b.nu=S.nu/\b.ha=S.ha/\b.ma=S.ma:=by
 obtain⟨j,e,r,kr,k,s,rfl⟩:=p;have kin:∀q∈j,q.2∈mk:=λq i=>(kr.mem q i).elim (h.kin q) (f _);refine⟨⟨λz=>?_,?_,h.me,kin,?_,?_,?_,h.tl,h.dk⟩,rfl,rfl,rfl,rfl,rfl⟩
 ·have z:e=[]:=z;have:=k.len;rw[z]at this;exact h.ne (WY.mp this.symm)
 ·show e.length<=10;rw[k.len];exact h.l10
 ·show j.length<=mk.length;have:=GL (m:=mk.map eu) (kr.nd kn) λa ha=>by
   obtain⟨q,i,rfl⟩:=YL.mp ha;exact YY (kin q i)
  rw[Yf,Yf]at this;exact this
 ·show(if S.od.length<d.length then d else S.od).Nodup;split
  ·exact sn
  ·exact h.od
 ·show∀n∈(if S.od.length<d.length then d else S.od),n∈mk.map SW;split
  ·exact g
  ·exact h.oin
theorem L7{w:PW}(h:W[i]?=Ya w):W.set i (w.1,w.2.1,w.2.2)=W:=by
 refine aaT λj=>?_;rw[WE];by_cases z:i=j
 ·rw[if_pos z,←z,h,if_pos (Yi.mp h).1]
 ·rw[if_neg z]
theorem Ps.listen{E:XK}(D:Ps K mg H hs nu gr W es ah ap as am sl ml res){w:PW}(h:W[i]?=Ya w)(F:i∉res.map (·.1))(pc:wW (es.map (·.1)) H t sm)(L:es.length<=30)(q:∀H' n rw l ys,Ps K mg H' hs nu gr n es ah ap as am sl ml (res++[(i,rw)])->Off (oy W) H H'->lQ H H'->(∀a,H' a=Yb->H a=Yb)->(∀a∈oy n,a∈oy W∨H a=Yb)->H l=Yb->l∉oy n->H' l=Ya (.lst ys)->Cz H' ys rw->Q (.ref l) H'):ju K mg [.ref w.1,.ref t] H Q E:=by
 obtain⟨G,M,N,cs,O,d,cl,sn,f,R,S,T,U⟩:=pc;have ok:=D.wd.ok i w h;have PA:=D.wd.pg i w h;obtain⟨V,p,X⟩:=D.wd.st i w h;rw[Yf]at cl;have kl:=ok.kl;rw[Yf]at kl;have Y:G.length<=es.length:=by
  have:=GL sn f;rw[Yf,Yf]at this;exact this
 have tr:∀{a:Ye},a∈oy W->∃o,H a=Ya o:=fun{a} ha=>by
  obtain⟨u,r,g⟩:=iY.mp ha;obtain⟨j,Z⟩:=YR r;obtain⟨o,e,_⟩:=D.wd.tr Z g;exact⟨o,e⟩
 refine⟨w.1,t,rfl,w.2.1,w.2.2,sm,G,M,N,cs,PA,O,λc I=>⟨D.wd.mo.wf c (d c I),by rw[D.wd.mo.nu c (d c I),p]⟩,D.pgok h (by omega),by omega,by omega,R,S,T,U,λz H' l s hl v=>?_,λz H' x' S2 S' rw l ys o nn P ft ln st hl nl v tv=>?_⟩
 ·have m:=D.same s;have:=m.put h (rw:=[]) (Off.refl _ _) (m.wd.pg i w h) (λa ha=>.inl ha) F ⟨rfl,rfl,rfl⟩ ok rfl rfl (λj q x=>by simp at x) λq x=>nomatch x
  rw[L7 h]at this;refine q H' W [] l [] this (Off.of s) (.same s) (λa e=>s.free e) (λa ha=>.inl ha) hl (λha=>?_) v .nil;obtain⟨o,e⟩:=tr ha;rw[hl]at e;cases e
 ·obtain⟨A,e1,e2,e3,e4,e5⟩:=RN ok PA.kn ln d sn f;obtain⟨B,J,C,k,f1,f2,f3,f4,f5,_⟩:=LX D.wd.mo A st;rw[e1]at J k;have m:=D.put h o P ft F ⟨f1.trans e2,f2.trans e3,f3.trans e4⟩ B (f5.trans e5) k J C;refine q H' _ rw l ys m (λb u e nb=>o b u e λy=>nb (uF h y)) (i4 o λa ha=>D.wd.tr h ha) nn (Hn h ft) hl (λha=>?_) v tv;obtain⟨u,r,g⟩:=iY.mp ha;rcases abX r with y|y
  ·obtain⟨o,e⟩:=tr (iY.mpr ⟨u,y,g⟩);rw[hl]at e;cases e
  ·rw[y]at g;exact nl g
end
abbrev pA:YT:=eX 53
section
theorem Ps.off(D:Ps K mg H hs nu gr W es ah ap as am sl ml res)(o:Off F H H')(k:lQ H H')(n:∀a∈oy W,a∉F)(n2:∀a∈ah::ap::as::am::sl,a∉F):Ps K mg H' hs nu gr W es ah ap as am sl ml res:=
 ⟨D.wd.off o k λi w h a ha=>n a (uF h ha),o _ _ D.ha (n2 _ (by simp)),o _ _ D.hp (n2 _ (by simp)),o _ _ D.hs' (n2 _ (by simp)),D.ls,D.lm,λi a m e f=>⟨o _ _ (D.sd i a m e f).1 (n2 _ (by simp[Yy e])),(D.sd i a m e f).2⟩,D.sn,⟨o _ _ D.md.dt (n2 _ (by simp)),λe b=>(D.md.tl e b).up k.smh,D.md.nd⟩,D.kp,D.out,D.n2,D.n4,D.nd,D.rs,D.ot⟩
theorem Nu(o:Off F H H')(h:∀a∈F,∃u,H a=Ya u/\∀xs,u≠.tup xs):dF H H':=λb xs e=>o b _ e λz=>by
 obtain⟨u,q,n⟩:=h b z;rw[e]at q;cases q;exact n xs rfl
theorem Ps.ftu(D:Ps K mg H hs nu gr W es ah ap as am sl ml res)(ha:a∈oy W):∃u,H a=Ya u/\∀xs,u≠.tup xs:=by
 obtain⟨w,hw,b⟩:=iY.mp ha;obtain⟨j,c⟩:=YR hw;obtain⟨o,e,f⟩:=D.wd.tr c b;exact⟨o,e,λxs z=>by rw[z]at f;exact f⟩
end
theorem Ps.ltr(D:Ps K mg H hs nu gr W es ah ap as am sl ml res)(ha:a∈ah::ap::as::am::sl):∃u,H a=Ya u:=by
 rcases Ym.mp ha with z|ha
 ·rw[z];exact⟨_,D.ha⟩
 rcases Ym.mp ha with z|ha
 ·rw[z];exact⟨_,D.hp⟩
 rcases Ym.mp ha with z|ha
 ·rw[z];exact⟨_,D.hs'⟩
 rcases Ym.mp ha with z|ha
 ·rw[z];exact⟨_,D.md.dt⟩
 obtain⟨j,b⟩:=YR ha;have c:=(Yi.mp b).1;obtain⟨m,hm⟩:∃m,ml[j]?=Ya m:=⟨_,Yk (by rw[D.lm,←D.ls];exact c)⟩;exact⟨_,(D.sd j a m b hm).1⟩
def Vz(F:List Ye)(H:Hp)(v:V)(e:Nat×List (V×bM)):Prop:=∃a b c,v=.ref a/\H a=Ya (.tup [.int e.1,.ref b])/\H b=Ya (.lst c)/\Cz H c e.2/\b∉F
theorem Vz.off{F':List Ye}{e:Nat×List (V×bM)}(h:Vz F H v e)(o:Off F H H')(u:dF H H')(n:∀a∈F',a∈F∨H a=Yb):Vz F' H' v e:=by
 obtain⟨a,b,f,g,i,c,j,d⟩:=h;refine⟨a,b,f,g,u _ _ i,o _ _ c d,j.up u,λz=>?_⟩;rcases n b z with y|y
 ·exact d y
 ·rw[c]at y;cases y
def tf(K:Yc)(mg:Yn->Option Yd):Sp:=λf H Q _=>∃(g:Ye) (nu:Int) (ap h am d:Ye) (cell k:Int),f=[.ref g,.int nu,.ref ap,.ref h,.ref am,.ref d,.int cell,.int k]/\∃hs n W i l o j,Ps K mg H hs nu n W i g ap h am l o []/\i.length<=29/\0<=k/\k<=100/\H d=Ya (.lst j)/\wm (i.map (·.1)) H j/\d∉oy W/\d∉g::ap::h::am::l/\j.length<=100/\
 ∀b r f p m e c,Ps K mg b hs nu n p m g ap h am l o e->Off (am::d::oy W) H b->(∀a∈oy p,a∈oy W∨H a=Yb)->m.length<=i.length+ 1->b d=Ya (.lst c)->c.length<=j.length+ 1->wm (m.map (·.1)) b c->H r=Yb->b r=Ya (.lst f)->Paired (Wa b) f e->Q (.ref r) b
abbrev DL:List Yn:=["_law_hands_here","_law_number","_law_pages_here","_law_seen","_law_made","_law_pool","_law_cell","_law_k"]
theorem eT:aE ["_law_hands_here","_law_number","_law_pages_here","_law_seen","_law_made","_law_pool","_law_cell","_law_k","_law_amount","_law_draw","_law_at","_law_other","_law_rest"] DL (ao pA):=eW
variable{tT:Ye}{qB:Ye}{t7:Ye}{vJ:Ye}{kD:Yx}{om:Yx}{qH:Yx}{tu:Yx}{oi:aay}(gH:aF P w K mg base bx 10 tT kD xJ (qy K mg))(fj:Binds K kD xJ [.int 0 oi,.none])(mO:Binds K kD xJ [])(fm:aF P w K mg base bx 10 qB om BY (ju K mg))(fc:Binds K om BY [])(ub:aF P w K mg base bx 10 t7 qH B4 (qQ K))(sJ:eD K mg "_law_mixed" t7 qH B4)(vC:aF P w K mg base bx 10 vJ tu Cr (sj K mg))(vB:eD K mg "_law_call" vJ tu Cr)(c8:bB K cj "listen" qB)(dA:bB K cj "piece" tT)
include eV gH fj mO fm fc ub sJ vC vB d5 iV aY aU c8 dA in
theorem Aw(F:bH K "_law_deed" "_law_deed" pA f fd):aF P w K mg base bx 11 f fd DL (tf K mg):=by
 refine F.oj eT ?_;rintro _ A _ _ H vs Q E X aC _ hu ⟨ah,nu,ap,as,am,aq,cell,k,rfl,h⟩;refine⟨_,(aj (aX (i:=8) eT.nd rfl (YB rfl) (bj (cY (K:=K) rfl) (by rfl) d5 Wr (aa (pv 2) af)))
   (aj (aX (i:=9) eT.nd rfl (YB rfl) (a9 ub sJ X (aa (pv 6) (aa (pv 7) af))))
   (aj (aX (i:=10) eT.nd rfl (abB rfl) (aW c7 (aW f9 (pv 9) ax) (pv 8)))
   (aj (aX (i:=11) eT.nd rfl (YB rfl) (aW c7 (aW d0 (aW d0 (pv 10) ax) (aW c7 (aW f9 (pv 9) ax) (aW xT (pv 8) ax))) (pv 8)))
   (aj (dg (bc yl (aW c7 (pv 9) ax) ax (bu _)) (au (aL (a9 vC vB X (aa (pv 10) (aa (pv 0) (aa (pv 1) (aa (pv 2) (aa (pv 3) (aa (pv 4) (aa (pv 6) af)))))))))) bD)
   (aj (dg (bc oP (aW c7 (pv 9) ax) ax (bu _)) (aj (dC (rO (K:=K) rfl (F5 X0 X5 aaM qm (pv 5) (aa (bP (bU.cons aY.cl dA gH mO bU.nil) (bp (bI (K:=K) rfl) (pv 2) (pv 10) (λ_ _=>rfl)) X (aa (aW c7 (aW f9 (pv 9) ax) ax) (aa (aW c7 (aW f9 (pv 9) ax) ax) af))) af))))
   (au (aL (dQ af)))) bD)
   (aj (dg (PW.pt (w5 (bc oP (aW c7 (pv 9) ax) ax (bu _)) (ue (bc (Ft (K:=K) rfl aC) (pv 5) (dQ af) (bu _))))) (au (aL (dQ (aa (cv (aa (pv 10) (aa (bP (bU.cons aY.cl c8 fm fc bU.nil) (bp (bI (K:=K) rfl) (pv 2) (pv 10) (λ_ _=>rfl)) X (aa (bp (bI (K:=K) rfl) (pv 5) (aW c7 (aW f9 (pv 9) ax) (bj (cY (K:=K) rfl) (by rfl) d5 Wr (aa (pv 5) af))) (λ_ _=>rfl)) af)) af))) af)))) bD)
   (aj (dg (bc oP (aW c7 (pv 9) ax) ax (bu _)) (aj (GU (i:=12) ["_law_at","_law_one"] [Ya 10,Yb] eT.nd rfl (YB rfl) rfl rfl (by kernel_rfl) (qg rfl iV (aa (pv 8) af)) (λ_ _ _ _ _ nd=>aP (i:=1) nd rfl (YB rfl)) (λ_ _ _ _ _=>(eY (bc ya (pv 1) (pv 0) (bu _)))) (λ_ _ _ _ _=>(pv 1)))
   (au (aL (bQ ["_law_pages_here","_law_at","_law_one"] [Ya 2,Ya 10,Yb] rfl rfl (by kernel_rfl) (bJ (K:=K) rfl (pv 12)) (λ_ _ _ _ _ nd=>aP (i:=2) nd rfl (YB rfl)) (λ_ _ _ _ _=>ed) (λ_ _ _ _ _=>(cv (aa (pv 2) (aa (bP (bU.cons aY.cl c8 fm fc bU.nil) (bp (bI (K:=K) rfl) (pv 0) (pv 2) (λ_ _=>rfl)) X (aa (wO (bp (bI (K:=K) rfl) (pv 0) (pv 1) (λ_ _=>rfl)) aY.cl dA gH X fj (show Vals [V.int 0,V.non] _ from(.cons ⟨_,rfl⟩ (.cons rfl .nil))) nH) af)) af)))))))) bD)
   (aj (dg (bc oP (aW c7 (pv 9) ax) ax (bu _)) (au (aL (dQ (aa (cv (aa (pv 10) (aa (bP (bU.cons aY.cl c8 fm fc bU.nil) (bp (bI (K:=K) rfl) (pv 2) (pv 10) (λ_ _=>rfl)) X (aa (bP (bU.cons aY.cl dA gH mO bU.nil) (bp (bI (K:=K) rfl) (pv 2) (pv 11) (λ_ _=>rfl)) X (aa (aW c7 (aW f9 (pv 9) ax) ax) (aa (aW d0 ax (aW c7 (aW f9 (pv 9) ax) ax)) af))) af)) af))) af)))) bD)
   (au (aL (dQ (aa (cv (aa (pv 10) (aa (bP (bU.cons aY.cl c8 fm fc bU.nil) (bp (bI (K:=K) rfl) (pv 2) (pv 10) (λ_ _=>rfl)) X (aa (wO (bp (bI (K:=K) rfl) (pv 2) (pv 11) (λ_ _=>rfl)) aY.cl dA gH X fj (show Vals [V.int 0,V.non] _ from(.cons ⟨_,rfl⟩ (.cons rfl .nil))) nH) af)) af))) af))))))))))))),?_⟩
 obtain⟨hs,gr,W,es,sl,ml,pl,D,bW,k0,k1,gq,po,nq,aI,bX,kk⟩:=h;have bY:bo K H ap (W.map λw=>V.ref w.1):=bo.of D.hp;have lW:((W.map λw=>V.ref w.1).length:Int)=(hs.length:Int):=by rw[Yf,D.wd.len]
 have n2:=D.n2;have n4:=D.n4;lia;rw[lW];lia;refine⟨cell,k,rfl,k0,k1,λr r0 r1=>?_⟩;have ad:(0:Int)<(hs.length:Int):=by omega
 have b3:(0:Int)<(hs.length:Int)-1:=by omega
 have a0:=xl (r / 8) (ach ad);have a1:=Wo (r / 8) ad;lia;obtain⟨i,hi⟩:=WJ a0;rw[hi];rw[hi]at a1;lia;have b0:=xl ((i:Int)+ 1+ r / 64%((hs.length:Int)-1)) (ach ad);have b1:=Wo ((i:Int)+ 1+ r / 64%((hs.length:Int)-1)) ad;obtain⟨j,hj⟩:=WJ b0;rw[hj];rw[hj]at b1;have an:i<hs.length:=by omega
 have a3:j<hs.length:=by omega
 obtain⟨w,hw⟩:∃w,W[i]?=Ya w:=⟨_,Yk (by rw[D.wd.len];exact an)⟩;obtain⟨Y,J⟩:∃w,W[j]?=Ya w:=⟨_,Yk (by rw[D.wd.len];exact a3)⟩;have bF:sf (W.map λw=>V.ref w.1) (i:Int)=Ya (.ref w.1):=cE (by rw[Yv,hw];rfl);have bG:sf (W.map λw=>V.ref w.1) (j:Int)=Ya (.ref Y.1):=cE (by rw[Yv,J];rfl);obtain⟨C,dx,mP,T,hp⟩:=(D.wd.pg i w hw).ob;have eC:=mP;rw[aU]at eC;cases eC;obtain⟨Cj,a4,a5,Tj,a6⟩:=(D.wd.pg j Y J).ob;have eC:=a5;rw[aU]at eC;cases eC;have aK:aq≠am:=λz=>aI (by simp[z]);have zf:∀{i:Nat} {w:PW},W[i]?=Ya w->w.2.1.kp.length<64:=fun{i w} h=>by
  have:=(D.wd.ok i w h).kl;rw[Yf]at this;omega
 have done:∀{A L A2:Hp} {d:List PW} {rw:List (V×bM)} {l u r:Ye} {Z:List V},aG H A->Ps K mg L hs nu gr d es ah ap as am sl ml ([]++[(i,rw)])->Off (oy W) A L->lQ A L->(∀a,L a=Yb->A a=Yb)->(∀a∈oy d,a∈oy W∨A a=Yb)->aG L A2->L l=Ya (.lst Z)->Cz L Z rw->A2 u=Ya (.tup [.int i,.ref l])->L r=Yb->A2 r=Ya (.lst [.ref u])->Q (.ref r) A2:=fun{A L A2 d rw l u r Z} U D' M n G c O gl tv gu a7 ar=>by
  refine kk A2 r _ d es [(i,rw)] pl (D'.same O) (λb o e x=>O _ _ (M b o (U _ _ e) λz=>x (by simp[z]))) (λa ha=>(c a ha).imp id U.free) (by omega) (O _ _ (M _ _ (U _ _ gq) nq)) (by omega) (((po.up (dF.same U)).up n.smh).up (dF.same O)) (U.free (G _ a7)) ar (.cons ⟨u,l,Z,rfl,gu,O _ _ gl,tv.up (dF.same O)⟩ .nil)
 lia;refine du (λ_=>?_) λ_=>?_
 ·lia;refine⟨i,ah,nu,ap,as,am,cell,rfl,hs,gr,W,es,sl,ml,w,D,an,hw,by omega,λL r vs d Zk rw D' M ex c X ar pr=>?_⟩;obtain⟨ex,rfl,b4⟩:=ex;have sm:dF H L:=Nu M λa ha=>by
   rcases Ym.mp ha with z|z
   ·rw[z];exact⟨_,D.md.dt,λxs z=>by cases z⟩
   ·exact D.ftu (uF hw z)
  refine kk L r vs d _ [(i,rw)] pl D' (λb o e x=>M b o e λz=>x ?_) c (by rw[Yq];omega) (M _ _ gq λz=>?_) (by omega) (by rw[Yt];exact(po.mono).up sm) X ar pr
  ·rcases Ym.mp z with z|z
   ·simp[z]
   ·simp[uF hw z]
  ·rcases Ym.mp z with z|z
   ·exact aK z
   ·exact nq (uF hw z)
 refine tW ?_;have a8:=xl (r / 512) (show(3:Int)≠0 by decide);have ba:=xl (r / 2048) (show(4:Int)≠0 by decide);lia;refine du (λ_=>?_) λ_=>?_
 ·lia;refine⟨w.1,_,_,rfl,w.2.1,w.2.2,D.wd.pg i w hw,zf hw,a8,.inr ⟨_,ba,rfl⟩,λH1 t zs g ht pz pa=>?_⟩;have bb:=g _ _ gq;have pc:=D.pc hw pz pa;lia;intro H2 b2 g2;lia;intro rr H3 R S g3;have o2:Off [aq] H1 H2:=λb u e x=>b2.at (λz=>x (Yh.mpr z)) e;have av:lQ H1 H2:=o2.kpf1 bb trivial;have D2:=(D.same g).off o2 av (λa ha z=>nq (by rw[←Yh.mp z];exact ha)) λa ha z=>aI (by rw[←Yh.mp z];exact ha);have bd:∀a,H2 a=Yb->H a=none:=λa e=>g.free (by
   cases v:H1 a with
   |none=>rfl
   |some u=>
    by_cases z:a=aq
    ·rw[z,g2]at e;cases e
    ·rw[b2.at z v]at e;cases e)
  refine kk H3 rr [] W es [] (pl++[.ref t]) (D2.same S) (λb o e x=>S _ _ (o2 b o (g _ _ e) λz=>x (by simp[Yh.mp z]))) (λa ha=>.inl ha) (by omega) (S _ _ g2) (by rw[Yq];exact Yj _) (λv hv=>?_) (bd _ R) g3 .nil;rcases YG.mp hv with z|z
  ·exact((po.up (dF.same g)).up (av.smh.trans (dF.same S))) v z
  ·exact⟨t,_,Yh.mp z,pc.up (av.smh.trans (dF.same S))⟩
 refine LL ?_;dsimp only;refine Ad (λσ A=>σ=[Ya (.ref ah),Ya (.int nu),Ya (.ref ap),Ya (.ref as),Ya (.ref am),Ya (.ref aq),Ya (.int cell),Ya (.int k),Ya (.int (hs.length:Nat)),Ya (.int r),Ya (.int i),Ya (.int j),Yb]/\aG H A) ?_ λN Zd=>?_
 rotate_left
 ·lia;refine du (λ_=>?_) λ_=>?_
  ·lia;intro e2 H1 b5 g be;obtain⟨ds,hd,bf⟩:=(po.up (dF.same g)).dps (K:=K) D.wd.mo.wf;refine GZ (bo.of (g _ _ gq)) hd bf (bo.of be) ?_;by_cases z:ds=[]
   ·rw[decide_eq_true z];lia;exact Zd _ _ ⟨rfl,g⟩
   rw[decide_eq_false z];have b6:0<pl.length:=by
    cases hd with
    |nil=>exact absurd rfl z
    |cons _ _=>exact aeV _
   have b7:bo K H1 aq pl:=bo.of (g _ _ gq);have bN:bo K H1 ap (W.map λw=>V.ref w.1):=bo.of (g _ _ D.hp);have b8:=g _ _ hp;have ag:(0:Int)<(pl.length:Int):=by omega
   have i0:=xl (r / 512) (ach ag);have i1:=Wo (r / 512) ag;obtain⟨ix,bg⟩:=WJ i0;obtain⟨v,hv⟩:∃v,pl[ix]?=Ya v:=⟨_,Yk (by omega)⟩;have aN:sf pl (r / 512%(pl.length:Int))=Ya v:=by rw[bg];exact cE hv
   obtain⟨t,sm,rfl,pc⟩:=po v (Yy hv);lia;refine(D.same g).listen hw (by simp) (pc.up (dF.same g)) (by omega) λL d rw l Z D' M n G c hl nl gl tv=>?_;lia;intro u A1 hu O gu;lia;intro rr A2 R S g3;exact done g D' M n G c (O.trans S) gl tv (S _ _ gu) (O.free R) g3
  ·lia;exact Zd _ _ ⟨rfl,.refl _⟩
 rintro σ A ⟨rfl,U⟩;have DA:=D.same U;refine tW ?_;lia;refine du (λ_=>?_) λ_=>?_
 ·lia;refine⟨_,rfl,by omega,by omega,λE0 aw=>?_⟩;refine rW (λm σ B=>∃v,σ=[Ya (.int i),v]/\aG A B/\B E0=Ya (.lst (((Y3 m).filter λq=>decide (q≠i)).map fun(q:Nat)=>V.int q))) ⟨Yb,rfl,aD aw,ai⟩ ?_ ?_
  ·rintro m σ B hm ⟨v,rfl,sB,gB⟩;rw[aaB,YS,Yt];have lf:=YQ (λq=>decide (q≠i)) (Y3 m);rw[KW]at lf;have b9:m<hs.length:=by rw[YH]at hm;exact hm
   have e0:(0:Int)+ (m:Int)=(m:Int):=acg _;rw[e0];lia;refine du (λz=>?_) λz=>?_
   ·have z:m≠i:=λy=>by rw[y,decide_eq_true rfl]at z;cases z
    lia;refine⟨_,gB,aJ (by rw[Yf];omega),_,rfl,λb o q=>?_,?_⟩
    ·rw[ak (ay q aw)];exact sB b o q
    ·rw[ai,acp (by exact decide_eq_true z)];rfl
   ·have z:m=i:=by
     by_cases y:m=i
     ·exact y
     ·exact absurd (by rw[decide_eq_false (show ¬ (m:Int)=(i:Int) by omega)];rfl) z
    refine⟨_,rfl,sB,?_⟩;rw[acq (by rw[decide_eq_false (λy=>y z)];exact YN)];exact gB.trans (by simp)
  rintro σ A1 ⟨v,rfl,g,g1⟩;rw[YH]at g1;obtain⟨rs,ae⟩:∃rs,rs=(Y3 hs.length).filter λq=>decide (q≠i):=⟨_,rfl⟩;have bh:rs.Nodup:=by rw[ae];exact List.nodup_range.filter _
  have bi:∀q∈rs,q<hs.length:=λq hq=>by
   rw[ae]at hq;exact WG.mp (Y4.mp hq).1
  have bR:rs.length<=4:=by
   have:=YQ (λq=>decide (q≠i)) (Y3 hs.length);rw[←ae,KW]at this;omega
  rw[←ae]at g1;have ab:aG H A1:=U.trans g;have D1:=D.same ab;lia;intro E hE;have nE:E∉oy W:=λz=>by
   obtain⟨u,e,_⟩:=D1.ftu z;rw[hE]at e;cases e
  have bl:E∉ah::ap::as::am::sl:=λz=>by
   obtain⟨u,e⟩:=D1.ltr z;rw[hE]at e;cases e
  refine bL (K:=K) (a:=E0) (xs:=rs.map fun(q:Nat)=>V.int q) (λm σ B=>∃v d p xs,σ=[Ya (.ref ap),Ya (.int i),v]/\Ps K mg B hs nu gr d es ah ap as am sl ml p/\p.map (·.1)=rs.take m/\B E=Ya (.lst xs)/\Paired (Vz (E::oy d) B) xs p/\Off (oy W) A1 B/\dF A1 B/\(∀a∈oy d,a∈oy W∨A1 a=Yb)/\E∉oy d/\∀a,B a=Yb->A1 a=Yb) ?_ ?_ ?_ ?_
  ·have se:=aD (o:=.lst []) hE;exact⟨Yb,W,[],[],rfl,D1.same se,rfl,ai,.nil,Off.of se,dF.same se,λa ha=>.inl ha,nE,λa e=>se.free e⟩
  ·rintro m σ B _ ⟨_,_,_,_,_,_,_,_,_,o,_⟩;exact bo.of (o _ _ g1 λz=>by
    obtain⟨u,e,_⟩:=D.ftu z;have:=U.free aw;rw[e]at this;cases this)
  ·rintro m y σ B hy ⟨v,d,p,xs,rfl,DB,er,gE,pr,oB,uB,fB,az,aA⟩;rw[Yv]at hy;obtain⟨q,hq,rfl⟩:=X8.mp hy;have hm:=(Yi.mp hq).1;have bm:=bi q (Yy hq);have bn:q∉p.map (·.1):=by
    rw[er];intro z;have:=aT hq;have nd:(rs.take (m+ 1)).Nodup:=bh.sublist (aaf _ _);rw[this,xi]at nd;exact nd.2.2 q z q (Yh.mpr rfl) rfl
   obtain⟨wq,aB⟩:∃w,d[q]?=Ya w:=⟨_,Yk (by rw[DB.wd.len];exact bm)⟩;obtain⟨wi,ac⟩:∃w,d[i]?=Ya w:=⟨_,Yk (by rw[DB.wd.len];exact an)⟩;have aN:sf (d.map λw=>V.ref w.1) (q:Int)=Ya (.ref wq.1):=cE (by rw[Yv,aB];rfl);have bt:sf (d.map λw=>V.ref w.1) (i:Int)=Ya (.ref wi.1):=cE (by rw[Yv,ac];rfl);obtain⟨Cq,ca,aQ,Tq,cc⟩:=(DB.wd.pg q wq aB).ob;rw[aU]at aQ;cases aQ;obtain⟨Ci,bv,aR,Ti,bw⟩:=(DB.wd.pg i wi ac).ob;rw[aU]at aR;cases aR;have cd:bo K B ap (d.map λw=>V.ref w.1):=bo.of DB.hp;have ce:xs.length=p.length:=Y0 pr;have cf:p.length<=4:=by
    have:=congrArg abv er;rw[Yf,Y8]at this;omega
   have bE:wi.2.1.kp.length<64:=by
    have:=(DB.wd.ok i wi ac).kl;rw[Yf]at this;omega
   lia;refine AE ?_;lia;refine⟨wi.1,bv,_,rfl,bw,uY,?_⟩;lia;refine⟨wi.1,0,.non,rfl,wi.2.1,wi.2.2,DB.wd.pg i wi ac,bE,by decide,.inl rfl,λB1 t zs s ht pz pa=>?_⟩;lia;refine(DB.same s).listen aB bn (DB.pc ac pz pa) (by omega) λL W2 rw l Z D' M n G c hl nl gl tv=>?_;lia;intro u B2 hu I gu;have aS:B2 E=Ya (.lst xs):=I _ _ (M _ _ (s _ _ gE) az);have oE:Off [E] B2 (upd B2 E (.lst (xs++[.ref u]))):=λb o e x=>by rw[ak λz=>x (Yh.mpr z)];exact e
   have kE:lQ B2 _:=oE.kpf1 aS trivial;have lE:l≠E:=λz=>by rw[z,s _ _ gE]at hl;cases hl
   have al:E∉oy W2:=λz=>by
    rcases c E z with y|y
    ·exact az y
    ·rw[s _ _ gE]at y;cases y
   refine⟨xs,aS,aJ (by omega),_,W2,p++[(q,rw)],xs++[.ref u],rfl,(D'.same I).off oE kE (λa ha z=>al (by rw[←Yh.mp z];exact ha)) (λa ha z=>bl (by rw[←Yh.mp z];exact ha)),?_,ai,?_,?_,?_,λa ha=>(c a ha).elim (fB a) λy=>.inr (aA a (s.free y)),al,λa e=>?_⟩
   ·rw[aT hq,Yt,er];rfl
   ·refine jL (Paired.mapP pr λ_ _ z=>?_) ?_
    ·have z1:=z.off (F':=E::oy d) (Off.of s) (dF.same s) λa ha=>.inl ha;have z2:=z1.off (F':=E::oy W2) (λb o e x=>I _ _ (M b o e λy=>x (Yp _ y))) (n.smh.trans (dF.same I)) λa ha=>by
      rcases Ym.mp ha with y|y
      ·exact .inl (by simp[y])
      ·exact(c a y).imp (Yp _) id
     exact z2.off (λb o e x=>oE b o e λy=>x (by simp[Yh.mp y])) kE.smh λa ha=>.inl ha
    ·refine⟨u,l,Z,rfl,kE.smh _ _ gu,oE _ _ (I _ _ gl) (by simp[lE]),(tv.up (dF.same I)).up kE.smh,λz=>?_⟩;rcases Ym.mp z with y|y
     ·exact lE y
     ·exact nl y
   ·intro b o e x;have e1:=s _ _ (oB b o e x);have n1:b∉oy d:=λz=>by
     rcases fB b z with y|y
     ·exact x y
     ·rw[e]at y;cases y
    exact oE _ _ (I _ _ (M b o e1 n1)) (λz=>by rw[Yh.mp z,hE]at e;cases e)
   ·exact uB.trans ((dF.same s).trans (n.smh.trans ((dF.same I).trans kE.smh)))
   ·by_cases z:a=E
    ·rw[z,ai]at e;cases e
    ·rw[ak z]at e;exact aA a (s.free (G a (I.free e)))
  rintro σ B ⟨v,d,p,xs,rfl,DB,er,gE,pr,oB,uB,fB,az,aA⟩;lia;have oH:Off (oy W) H B:=λb o e x=>oB b o (ab _ _ e) x;exact kk B E xs d es p pl DB (λb o e x=>oH b o e λz=>x (by simp[z])) (λa ha=>(fB a ha).imp id ab.free) (by omega) (oH _ _ gq nq) (by omega) ((po.up (dF.same ab)).up uB) (ab.free hE) gE (Paired.mapP pr λ_ _ ⟨a,fl,Z,e1,e2,e3,e4,_⟩=>⟨a,fl,Z,e1,e2,e3,e4⟩)
 have bT:bo K A ap (W.map λw=>V.ref w.1):=bo.of DA.hp;have cg:=U _ _ hp;have aV:=U _ _ a6;have a2:=xl (r / 512) (show(4:Int)≠0 by decide);have ch:=xl (r / 2048) (show(2:Int)≠0 by decide);lia;refine du (λ_=>?_) λ_=>?_
 ·lia;refine⟨Y.1,_,_,rfl,Y.2.1,Y.2.2,DA.wd.pg j Y J,zf J,a2,.inr ⟨_,by omega,rfl⟩,λH1 t zs g ht pz pa=>?_⟩;lia;refine(DA.same g).listen hw (by simp) (DA.pc J pz pa) (by omega) λL d rw l Z D' M n G c hl nl gl tv=>?_;lia;intro u A1 hu O gu;lia;intro rr A2 R S g3;exact done (U.trans g) D' M n G c (O.trans S) gl tv (S _ _ gu) (O.free R) g3
 lia;refine AE ?_;lia;refine⟨Y.1,a4,_,rfl,aV,uY,?_⟩;lia;refine⟨Y.1,0,.non,rfl,Y.2.1,Y.2.2,DA.wd.pg j Y J,zf J,by decide,.inl rfl,λH1 t zs g ht pz pa=>?_⟩;lia;refine(DA.same g).listen hw (by simp) (DA.pc J pz pa) (by omega) λL d rw l Z D' M n G c hl nl gl tv=>?_;lia;intro u A1 hu O gu;lia;intro rr A2 R S g3;exact done (U.trans g) D' M n G c (O.trans S) gl tv (S _ _ gu) (O.free R) g3
abbrev zE:YT:=eX 55
section
theorem Ps.seen(D:Ps K mg H hs nu gr W es ah ap as am sl ml ((i,rw)::res))(ha:sl[i]?=Ya a)(hm:ml[i]?=Ya m)(k:∀b o,H b=Ya o->b≠a->H' b=Ya o)(g:H' a=Ya (.dK (dI (lN m rw))))(t:Td (lN m rw)):Ps K mg H' hs nu gr W es ah ap as am sl (ml.set i (lN m rw)) res:=by
 have ga:=(D.sd i a m ha hm).1;have o:Off [a] H H':=λb u e v=>k b u e λz=>v (Yh.mpr z);have s:lQ H H':=o.kpf1 ga trivial;have p:=(Yi.mp hm).1;have nd:=D.nd;rw[Yz,tq]at nd;have cs:∀{j:Nat} {c:List (Int×Int)},(ml.set i (lN m rw))[j]?=Ya c->(j=i/\c=lN m rw)∨(j≠i/\ml[j]?=Ya c):=fun{j c} e=>by
  rw[WE]at e;by_cases z:i=j
  ·rw[if_pos z,if_pos p]at e;exact .inl ⟨z.symm,(YC e).symm⟩
  ·rw[if_neg z]at e;exact .inr ⟨λy=>z y.symm,e⟩
 refine⟨D.wd.off o s λj w h b x z=>D.out j w h b x (by rw[Yh.mp z];simp[Yy ha]),k _ _ D.ha (bV D.ha ga (by intro z;cases z)),k _ _ D.hp (bV D.hp ga (by intro z;cases z)),k _ _ D.hs' (bV D.hs' ga (by intro z;cases z)),D.ls,by rw[aev];exact D.lm,λj b c e f=>?_,D.sn,⟨k _ _ D.md.dt (bV D.md.dt ga (by intro z;cases z)),λe l=>(D.md.tl e l).up s.smh,D.md.nd⟩,D.kp,D.out,D.n2,D.n4,nd.2,λe l=>?_,λj w c e f n=>?_⟩
 ·rcases cs f with⟨rfl,rfl⟩|⟨n,f⟩
  ·rw[ha]at e;cases e;exact⟨g,t⟩
  ·obtain⟨A,B⟩:=D.sd j b c e f;refine⟨k _ _ A λz=>n ?_,B⟩;rw[z]at e;exact(List.getElem?_inj (Yi.mp e).1 D.sn).mp (e.trans ha.symm)
 ·obtain⟨w,c,q,d,r⟩:=D.rs e (Yp _ l);refine⟨w,c,q,?_,r⟩;rw[WE,if_neg (λy:i=e.1=>nd.1 (by show i∈_;rw[y];exact YY l))];exact d
 ·rcases cs f with⟨rfl,rfl⟩|⟨C,f⟩
  ·obtain⟨F,E,q,d,r,_⟩:=D.rs (j,rw) Ys;rw[q]at e;cases e;have d:ml[j]?=Ya E:=d;rw[hm]at d;cases d;exact r
  ·refine D.ot j w c e f ?_;rw[Yz,Ym,not_or];exact⟨C,n⟩
end
theorem Tv{ta:TA}{R:It->Hp->Prop}(h:ta σ H λvs a=>∃i j:Int,vs=[.int i,.int j]/\(-(2^62)<=i/\i<2^62/\-(2^62)<=j/\j<2^62)/\R (JG i (j-i).toNat) a):PD ta σ H R:=h
theorem OB{α:Type}{l:List α}{x:α}(h:l[i]?=Ya x):l.drop i=x::l.drop (i+ 1):=by
 obtain⟨a,e⟩:=Yi.mp h;rw[abW a,e]
def AM(K:Yc):Sp:=λb H Q _=>∃(a:Ye) (ns:List Int),b=[.ref a]/\bo K H a (ns.map V.int)/\ns.length<=63/\∀c,Q (.bl true) c
theorem iF:aE ["_law_script","_law_hands_here","_law_number","_law_pages_here","_law_seen","_law_made","_law_pool","_law_k","_law_at","_law_found","_law_counts"] vt (ao zE):=eW
variable{tJ:Ye}{tM:Ye}{tF:Ye}{vM:Ye}{qG:Yx}{q5:Yx}{qD:Yx}{t8:Yx}(lZ:aF P w K mg base bx 11 tJ qG aO (qJ K mg))(mf:Binds K qG aO [])(sY:aF P w K mg base bx 11 tM q5 vt (rh K mg))(sG:eD K mg "_law_pages" tM q5 vt)(sM:aF P w K mg base bx 11 tF qD De (qZ K))(su:eD K mg "_law_taken" tF qD De)(vK:aF P w K mg base bx 11 vM t8 DL (tf K mg))(vA:eD K mg "_law_deed" vM t8 DL)(fh:bB K cj "taken" tJ)
include eV lZ mf sY sG sM su vK vA iI cg d5 vy iV aY aU fh in
theorem Q6(F:bH K "law" "law" zE f fd):aF P w K mg base bx 12 f fd vt (AM K):=by
 refine F.oj iF ?_;rintro _ A _ _ H vs _ _ hr _ aw hu ⟨a,ns,rfl,h⟩;refine⟨_,(aj (SG (a9 sY sG hr (aa (pv 0) af)) (mT (K:=K) (n:=3) rfl rfl (c9 (aP (i:=1) iF.nd rfl (YB rfl)) (c9 (aP (i:=2) iF.nd rfl (YB rfl)) (c9 (aP (i:=3) iF.nd rfl (YB rfl)) mK)))))
   (aj (GU (i:=4) ["_law_hand"] [Yb] iF.nd rfl (YB rfl) rfl rfl (by kernel_rfl) (bJ (K:=K) rfl (pv 1)) (λ_ _ _ _ _ nd=>aP (i:=0) nd rfl (YB rfl)) (λ_ _ _ _ _=>ed) (λ_ _ _ _ _=>pE))
   (aj (aX (i:=5) iF.nd rfl (YB rfl) Ek)
   (aj (aX (i:=6) iF.nd rfl (YB rfl) (dQ af))
   (aj (kC Ws rfl (Hv rfl iV (aa ax (aa (bj (HR rfl) (by rfl) vy aam (aa (bj (cY (K:=K) rfl) (by rfl) d5 Wr (aa (pv 0) af)) (aa ax af))) af))) (aP (i:=7) iF.nd rfl (YB rfl))
   (au (kC Ws rfl (bJ (K:=K) rfl (a9 vK vA hr (aa (pv 1) (aa (pv 2) (aa (pv 3) (aa (pv 4) (aa (pv 5) (aa (pv 6) (aa (bp (bI (K:=K) rfl) (pv 0) (pv 7) (λ_ _=>rfl)) (aa (pv 7) af)))))))))) (mT (K:=K) (n:=2) rfl rfl (c9 (aP (i:=8) iF.nd rfl (YB rfl)) (c9 (aP (i:=9) iF.nd rfl (YB rfl)) mK)))
   (au (dg (mE (cK K rfl (a9 sM su hr (aa (pv 9) (aa (bp (bI (K:=K) rfl) (pv 4) (pv 8) (λ_ _=>rfl)) (aa (pv 5) af)))))) (au (aL i8)) bD)))))
   (aj (kC Ws rfl (qg rfl iV (aa (bj (cY (K:=K) rfl) (by rfl) d5 Wr (aa (pv 1) af)) af)) (aP (i:=8) iF.nd rfl (YB rfl))
   (aj (aX (i:=10) iF.nd rfl (YB rfl) (bA (bU.cons aY.cl fh lZ mf bU.nil) (bp (bI (K:=K) rfl) (pv 3) (pv 8) (λ_ _=>rfl)) hr))
   (aj (dg (PW.pt (zW (mE (cK K rfl (bj (fM (K:=K) rfl) (by rfl) cg xp (aa (pv 10) (aa (jG iI W5) af))))) (EK (bc (JQ aw) (pv 10) (bp (bI (K:=K) rfl) (pv 4) (pv 8) (λ_ _=>rfl)) (bu _))))) (au (aL i8)) bD)
   (aj (mD hu (pv 10) (bp (bI (K:=K) rfl) (pv 1) (pv 8) (λ_ _=>rfl)) ax rfl)
   (au (dg (bc (JQ aw) (bA (bU.cons aY.cl fh lZ mf bU.nil) (bp (bI (K:=K) rfl) (pv 3) (pv 8) (λ_ _=>rfl)) hr) (bp (bI (K:=K) rfl) (pv 4) (pv 8) (λ_ _=>rfl)) (bu _)) (au (aL i8)) bD))))))
   (au (aL i8)))))))),?_⟩
 obtain⟨hS,bY,kk⟩:=h;lia;refine⟨a,rfl,ns,hS,λH1 t u ap hs nu gr W R gt J az wd n2 n4 ab b0 b1=>?_⟩;have b3:bC K H1 t [.ref u,.int nu,.ref ap]:=bC.of gt;have b4:=R.seq hS;lia;intro s has;have b5:u≠s:=λz=>by rw[z,has]at J;cases J
 refine bL (K:=K) (a:=u) (xs:=hs.map V.int) (λi σ B=>∃v l,σ=[v]/\aG H1 B/\B s=Ya (.lst ((l:List Ye).map V.ref))/\l.length=i/\l.Nodup/\∀d∈l,B d=Ya (.dK (dI []))/\H1 d=Yb/\d≠s) ⟨Yb,[],rfl,aD has,ai,rfl,.nil,λd hd=>nomatch hd⟩ ?_ ?_ ?_
 ·rintro i σ B _ ⟨_,_,_,z,_⟩;exact bo.of (z _ _ J)
 ·rintro i y σ B hy ⟨v,l,rfl,sB,gD,S,ac,E⟩;have G:=(Yi.mp hy).1;rw[Yf]at G;lia;intro d B1 hd ad gd;have a3:=ad _ _ gD;have aA:d≠s:=λz=>by rw[z,gD]at hd;cases hd
  refine⟨_,a3,aJ (by rw[Yf];omega),_,l++[d],rfl,λb o e=>?_,by rw[ai,Yt];rfl,by rw[Yq,S];rfl,?_,λd' a4=>?_⟩
  ·rw[ak (ay e has)];exact ad _ _ (sB b o e)
  ·rw[xi];refine⟨ac,by simp,λx hx y hy z=>?_⟩;rw[Yh.mp hy]at z;have:=(E x hx).1;rw[z,hd]at this;cases this
  ·rcases YG.mp a4 with z|z
   ·obtain⟨q1,q2,q3⟩:=E d' z;exact⟨by rw[ak q3];exact ad _ _ q1,q2,q3⟩
   ·rw[Yh.mp z];exact⟨by rw[ak aA];exact gd,sB.free hd,aA⟩
 rintro σ H2 ⟨v,l,rfl,I,aB,S,ac,E⟩;rw[Yf]at S;lia;intro am U;have N:aG H2 (upd H2 am (.dT [])):=aD U;have ae:(upd H2 am (.dT [])) am=Ya (.dT []):=ai;generalize upd H2 am (.dT [])=H3 at N ae⊢;lia;intro L H4 ag s4 a5;have al:=N.trans s4;have X:=I.trans al;have aC:=R.trans X;have aI:∀{i:Nat} {w:PW},W[i]?=Ya w->∀b∈rJ w,∃o,H1 b=Ya o:=fun{i w} h b hb=>by
  obtain⟨o,e,_⟩:=wd.tr h hb;exact⟨o,e⟩
 have b6:H2 u≠none:=λz=>by rw[I _ _ J]at z;cases z
 have D:Ps K mg H4 hs nu gr W [] u ap s am l (aew hs.length []) []:=by
  refine⟨wd.same X,X _ _ J,X _ _ az,al _ _ aB,S,by rw[acI],λi d m e f=>?_,ac,⟨s4 _ _ ae,(λe he=>nomatch he),.nil⟩,(λe he=>nomatch he),λi w h b hb=>?_,n2,n4,.nil,(λe he=>nomatch he),λi w m h f _=>?_⟩
  ·have hm:m=[]:=(adA.mp (Yy f)).2;rw[hm];exact⟨al _ _ (E d (Yy e)).1,Td.nil⟩
  ·obtain⟨o,e⟩:=aI h b hb;obtain⟨e1,e2⟩:=(ab i w h).2 b hb;intro z;rcases Ym.mp z with z|z
   ·exact e2.1 z
   rcases Ym.mp z with z|z
   ·exact e2.2 z
   rcases Ym.mp z with z|z
   ·rw[z,has]at e;cases e
   rcases Ym.mp z with z|z
   ·rw[z]at e;rw[I _ _ e]at U;cases U
   ·rw[(E b z).2.1]at e;cases e
  ·have hm:m=[]:=(adA.mp (Yy f)).2;rw[hm];exact(ab i w h).1
 have a6:∀b∈oy W,H b=none:=λb hb=>by
  obtain⟨w,hw,hc⟩:=iY.mp hb;obtain⟨i,G⟩:=YR hw;exact((ab i w G).2 b hc).1
 have M:∀{b:Ye} {o:HO},H3 b=Ya o->L≠b:=fun{b o} e z=>by rw[z,e]at ag;cases ag
 have nq:L∉oy W:=λz=>by
  obtain⟨w,hw,hc⟩:=iY.mp z;obtain⟨i,G⟩:=YR hw;obtain⟨o,e⟩:=aI G L hc;exact M (N _ _ (I _ _ e)) rfl
 have a7:L∉u::ap::s::am::l:=λz=>by
  rcases Ym.mp z with z|z
  ·exact M (N _ _ (I _ _ J)) z
  rcases Ym.mp z with z|z
  ·exact M (N _ _ (I _ _ az)) z
  rcases Ym.mp z with z|z
  ·exact M (N _ _ aB) z
  rcases Ym.mp z with z|z
  ·exact M ae z
  ·exact M (N _ _ (E L z).1) rfl
 have a8:H am=none:=R.free (I.free U);have ba:H L=none:=R.free (I.free (N.free ag));have bb:∀d∈l,H d=none:=λd hd=>R.free (E d hd).2.1;have b7:=aC.seq hS;have bw:((ns.map V.int).length:Int)<=63:=by rw[Yf];omega
 lia;refine Tv ?_;lia;refine⟨_,_,rfl,?_⟩;lia;refine⟨_,_,rfl,⟨by decide,by decide,by split<;>omega,by split<;>omega⟩,?_⟩;refine zo (λi σ A=>∃v7 v8 v9 W es ml pl,σ=[Ya (.ref a),Ya (.ref u),Ya (.int nu),Ya (.ref ap),Ya (.ref s),Ya (.ref am),Ya (.ref L),v7,v8,v9,Yb]/\Ps K mg A hs nu gr W es u ap s am l ml []/\es.length<=i/\pl.length<=i/\A L=Ya (.lst pl)/\wm (es.map (·.1)) A pl/\aG H A/\(∀b∈oy W,H b=Yb)/\L∉oy W) ⟨Yb,Yb,Yb,W,[],_,[],rfl,D,Yj _,Yj _,a5,(λv hv=>nomatch hv),aC,a6,nq⟩ ?_ ?_
 ·rintro i σ A G ⟨v7,v8,v9,W',es,ml,pl,rfl,DA,bd,be,gq,po,sA,an,ar⟩;have aK:i<28/\3+ i<ns.length:=by
   rw[Yf]at G;split at G<;>omega
  have b8:=sA.seq hS;have ei:(3:Int)+ (i:Int)=((3+ i:Nat):Int):=by omega
  have b9:sf (ns.map V.int) (3+ (i:Int))=Ya (.int ns[3+ i]):=by rw[ei];exact cE (by rw[Yv,Yk aK.2];rfl)
  lia;refine⟨u,nu,ap,s,am,L,_,_,rfl,hs,gr,W',es,l,ml,pl,DA,by omega,by omega,by omega,gq,po,ar,a7,by omega,λH' r vs W2 Zk aN bf D' o' aQ ca aR cc bg hr av pr=>?_⟩;have sH:aG H H':=λb o e=>o' b o (sA _ _ e) λz=>by
   rcases Ym.mp z with z|z
   ·rw[z,a8]at e;cases e
   rcases Ym.mp z with z|z
   ·rw[z,ba]at e;cases e
   ·rw[an b z]at e;cases e
  have O:∀{b:Ye} {o:HO},H' b=Ya o->(∀k,o≠.dK k)->b∉l:=fun{b o} e n z=>by
   obtain⟨j,hj⟩:=YR z;have lj:=(Yi.mp hj).1;obtain⟨m,hm⟩:∃m,ml[j]?=Ya m:=⟨_,Yk (by rw[D'.lm,←D'.ls];exact lj)⟩;rw[(D'.sd j b m hj hm).1]at e;exact n _ (YC e).symm
  have bh:vs.length=aN.length:=Y0 pr;have cd:bo K H' r vs:=bo.of av;lia;refine lu (xs:=vs) (λj σ B=>∃w8 w9 Q,σ=[Ya (.ref a),Ya (.ref u),Ya (.int nu),Ya (.ref ap),Ya (.ref s),Ya (.ref am),Ya (.ref L),Ya (.int (3+ (i:Int))),w8,w9,Yb]/\Ps K mg B hs nu gr W2 Zk u ap s am l Q (aN.drop j)/\(∀b o,H' b=Ya o->b∉l->B b=Ya o)) ⟨v8,v9,ml,rfl,D',λb o e _=>e⟩ (λj σ B _ z=>?_) ?_ ?_
  ·obtain⟨_,_,_,_,_,Y⟩:=z;exact bo.of (Y _ _ av (O av (by intro _ z;cases z)))
  ·rintro j y σ B hy ⟨w8,w9,Q,rfl,g,Y⟩;obtain⟨e,he,ua,fl,ys,rfl,ga,aS,tv⟩:=dD pr hy;rw[OB he]at g;obtain⟨w,m,ew,em,ce,bi,aV⟩:=g.rs e Ys;have bl:e.1<hs.length:=by rw[←g.wd.len];exact(Yi.mp ew).1
   obtain⟨d,hd⟩:∃d,l[e.1]?=Ya d:=⟨_,Yk (by rw[g.ls];exact bl)⟩;obtain⟨gs,tm⟩:=g.sd e.1 d m hd em;have Z:dF H' B:=λb xs q=>Y _ _ q (O q (by intro _ z;cases z));have cf:bC K B ua [.int e.1,.ref fl]:=bC.of (Z _ _ ga);have a0:=Y _ _ aS (O aS (by intro _ z;cases z));have bm:bo K B s (l.map V.ref):=bo.of g.hs';have bE:sf (l.map V.ref) (e.1:Int)=Ya (.ref d):=cE (by rw[Yv,hd];rfl);lia;refine⟨fl,d,am,rfl,ys,e.2,m,Zk,a0,tv.up Z,gs,tm,g.md,bi,aV,λq hq=>⟨g.wd.mo.wf _ (YY hq),g.kp q hq⟩,λB' a1 bn Zy=>?_⟩;lia;exact⟨_,_,Q.set e.1 (lN m e.2),rfl,g.seen (rw:=e.2) hd em a1 bn Zy,λb o q n=>a1 b o (Y b o q n) λz=>n (z▸Yy hd)⟩
  rintro σ B ⟨w8,w9,Q,rfl,g,Y⟩;rw[bh,List.drop_length]at g;have Z:dF H' B:=λb xs q=>Y _ _ q (O q (by intro _ z;cases z));refine⟨_,_,_,W2,Zk,Q,bf,rfl,g,by omega,by omega,Y _ _ aR (O aR (by intro _ z;cases z)),bg.up Z,λb o e=>Y b o (sH b o e) (λz=>by rw[bb b z]at e;cases e),λb hb=>?_,λz=>?_⟩
  ·rcases aQ b hb with z|z
   ·exact an b z
   ·exact sA.free z
  ·rcases aQ L z with y|y
   ·exact ar y
   ·rw[gq]at y;cases y
 rintro σ A ⟨v7,v8,v9,W',es,ml,pl,rfl,DA,bd,be,gq,po,sA,an,ar⟩;have bt:bo K A u (hs.map V.int):=bo.of DA.ha;have lhs:((hs.map V.int).length:Int)<=4:=by rw[Yf];omega
 lia;refine⟨_,rfl,by omega,by omega,?_⟩;refine zo (λi σ B=>∃v8 bv,σ=[Ya (.ref a),Ya (.ref u),Ya (.int nu),Ya (.ref ap),Ya (.ref s),Ya (.ref am),Ya (.ref L),v7,v8,v9,bv]/\aG A B) ⟨v8,Yb,rfl,.refl _⟩ ?_ ?_
 ·rintro i σ B G ⟨w8,ch,rfl,sB⟩;have G:i<hs.length:=by rw[YH,Yf]at G;exact G
  have g:=DA.same sB;obtain⟨w,hw⟩:∃w,W'[i]?=Ya w:=⟨_,Yk (by rw[g.wd.len];exact G)⟩;obtain⟨d,hd⟩:∃d,l[i]?=Ya d:=⟨_,Yk (by rw[g.ls];exact G)⟩;obtain⟨m,hm⟩:∃d,ml[i]?=Ya d:=⟨_,Yk (by rw[g.lm];exact G)⟩;obtain⟨gs,tm⟩:=g.sd i d m hd hm;have em:=g.ot i w m hw hm (by simp);have PA:=g.wd.pg i w hw;obtain⟨C,dx,mP,T,hp⟩:=PA.ob;rw[aU]at mP;cases mP;rw[acg];have ci:bo K B ap (W'.map λw=>V.ref w.1):=bo.of g.hp;have bm:bo K B s (l.map V.ref):=bo.of g.hs';have bt:bo K B u (hs.map V.int):=bo.of g.ha;have bF:sf (W'.map λw=>V.ref w.1) (i:Int)=Ya (.ref w.1):=cE (by rw[Yv,hw];rfl);have bG:sf (l.map V.ref) (i:Int)=Ya (.ref d):=cE (by rw[Yv,hd];rfl);have bN:sf (hs.map V.int) (i:Int)=Ya (.int w.2.1.me):=cE (by rw[Yv,(g.wd.st i w hw).1];rfl);have sub:∀p∈m,qY m p.1=Ya p.2:=λp hp=>JR tm.nd hp;lia;refine⟨w.1,rfl,w.2.1,w.2.2,PA,λB1 c R hc gc=>?_⟩;rw[em]at gc;lia;refine⟨_,_,_,true,rfl,.dK gc,(by kernel_rfl),?_⟩;have bR:bo K B1 s (l.map V.ref):=bo.of (R _ _ g.hs');lia;refine⟨c,d,m,m,rfl,rfl,.inl gc,.inl (R _ _ gs),rfl,sub,?_⟩;have nd:=tm.nd;have lm:=tm.toCk.len;have bT:bo K B1 u (hs.map V.int):=bo.of (R _ _ g.ha);lia;intro B2 b2 g2;have I:aG B B2:=b2.same R hc;have bW:bo K B2 ap (W'.map λw=>V.ref w.1):=bo.of (I _ _ g.hp);have cj:=I _ _ hp;lia;refine⟨w.1,rfl,w.2.1,w.2.2,PA.same I,λB3 c3 N ck a2=>?_⟩;rw[em]at a2;have bX:bo K B3 s (l.map V.ref):=bo.of (N _ _ (I _ _ g.hs'));lia;refine⟨c3,d,m,m,rfl,rfl,.inl a2,.inl (N _ _ (I _ _ gs)),rfl,sub,?_⟩;lia;exact⟨_,_,rfl,sB.trans (I.trans N)⟩
 rintro σ B ⟨_,_,rfl,_⟩;lia;exact kk B
end
end K43
namespace K43
open PySem L2
theorem R8{l:ac8}{w:YW}{K:Yc}{h:YK}{mg:Yn->Option Yd}{fa fr fv fw fx fz fB ac fC fD fF ag u ah L al am x y M ap aq ar as aI aS a3 a4 a5 a6 ba bb bd be bi bl bm bn bt bv bw bG bN bT z b0 b1 b2 b3 b4 A b5 b6 b7 b8 b9 ca cc ce cf cg ch ci ck cl cm cn co cp cq r9 bf cS bF bE B f SH G1 aK:Ye}{jS jT jU jV jW jX jZ j0 j1 j2 fH fI fK fN fO fT fU fW fX f0 f1 f2 f3 f4 f5 f6 f8 ga gb gc gd ge gg gh gj gk gl go gp gq gr gs gt gu gv gw gx gA gB gD gE gH gI gM gN gO gT gU gV gW gY g0 g1 g2 g3 g4 g5 g6 g7:Yx}(X:K.In h)(G:h.Ns Y5 mg)(j3:mg "law"=Ya (.ref fa))
  {gz:aay} {O6 Nj:Yn} {N6 jJ Nr:List Yd} {Bk NF:Bool} {Oh:List Yn} {Nh:Option Bool} {Ob:Option Ye} {Ou NT Po O0 OT:Option Yd} {Gr:String} {nK:Nat} {j4 j5 j7:aay}
  (j8:nI K "count_of" fr)
  (kb:nI K "hands_among" fv)
  (kc:nI K "covers" fw)
  (kd:nI K "unpacked" fx)
  (kf:nI K "joined" fz)
  (kg:nI K "covers_name" fB)
  (ki:nI K "is_whole" fD)
  (kk:nI K "is_word" fF)
  (g8:nI K "make_call" ag)
  (g9:nI K "first_open" al)
  (ha:nI K "name_at" am)
  (hb:nI K "rank_of" aq)
  (hc:nI K "can_be_taken" ar)
  (hd:nI K "first_to_take" as)
  (he:nI K "callers_from" aI)
  (hf:nI K "run" aS)
  (hg:nI K "least_asking" a3)
  (hh:nI K "placed" a4)
  (hi:nI K "least_count" a5)
  (hj:nI K "common" a6)
  (hk:nI K "packed" ba)
  (hm:nI K "bit_of" bb)
  (hn:nI K "has" bd)
  (ho:nI K "hands_of" be)
  (hp:nI K "call_of" b0)
  (hq:nI K "why_of" b1)
  (hr:nI K "by_rank" b2)
  (hs:nI K "least" b3)
  (ht:nI K "_law_cell_at" ci)
  (hu:nI K "_law_mixed" ck)
  (hv:nI K "_law_hands" cl)
  (hw:nI K "_law_pages" cm)
  (hx:nI K "_law_taken" cn)
  (hy:nI K "_law_call" co)
  (hz:nI K "_law_deed" cp)
  (hA:nI K "law" cq)
  (Sl:nI K "Call" r9)
  (B9:nI K "HeardCall" bf)
  (Oo:nI K "Known" cS)
  (HZ:nI K "OneCall" bF)
  (Io:nI K "OwnCall" bE)
  (QY:nI K "Page" B)
  (QS:Xu K Y5 "Held"=Ya (Ya (.ref f)))
  (Jz:Xu K Y5 "KINDS"=Ya (Ya (.ref aK)))
  (UJ:Xu K Y5 "abs"=Ya Yb)
  (TF:Xu K Y5 "all"=Ya Yb)
  (Sb:Xu K Y5 "bool"=Ya Yb)
  (Rl:Xu K Y5 "dict"=Ya Yb)
  (Uy:Xu K Y5 "int"=Ya Yb)
  (Bs:Xu K Y5 "isinstance"=Ya Yb)
  (UI:Xu K Y5 "len"=Ya Yb)
  (QU:Xu K Y5 "list"=Ya Yb)
  (Vq:Xu K Y5 "max"=Ya Yb)
  (Vb:Xu K Y5 "min"=Ya Yb)
  (NB:Xu K Y5 "range"=Ya Yb)
  (UP:Xu K Y5 "set"=Ya Yb)
  (KQ:Xu K Y5 "sorted"=Ya Yb)
  (Tt:Xu K Y5 "sum"=Ya Yb)
  (O8:Xu K Y5 "tuple"=Ya Yb)
  (aQ:bB K bf "asks_place" M)
  (bX:bB K bf "free" L)
  (dy:bB K bf "in_turn" u)
  (d8:bB K bf "kind" bN)
  (aV:bB K bf "name" x)
  (ef:bB K bf "rank" y)
  (bY:bB K bf "told" z)
  (c5:bB K cS "floor" bw)
  (cG:bB K cS "learn" bl)
  (dS:bB K cS "listed" bm)
  (eG:bB K cS "merge" bn)
  (fY:bB K cS "reach" bt)
  (ig:bB K cS "sure" bv)
  (a8:bB K bF "asks_place" ap)
  (cN:bB K bF "free" L)
  (dH:bB K bF "in_turn" u)
  (fu:bB K bF "kind" bT)
  (bh:bB K bF "name" x)
  (fA:bB K bF "rank" y)
  (cM:bB K bF "told" z)
  (a7:bB K bE "asks_place" M)
  (cP:bB K bE "free" ah)
  (dP:bB K bE "in_turn" u)
  (fE:bB K bE "kind" bG)
  (bg:bB K bE "name" x)
  (fy:bB K bE "rank" y)
  (cQ:bB K bE "told" z)
  (dM:bB K B "check_room" b5)
  (dO:bB K B "keep" b6)
  (eR:bB K B "keep_new" cf)
  (bR:bB K B "kept_calls" b7)
  (gn:bB K B "let_go" b9)
  (c8:bB K B "listen" cg)
  (dA:bB K B "piece" ce)
  (dJ:bB K B "step" ca)
  (iX:bB K B "take" b8)
  (fh:bB K B "taken" ch)
  (iq:bB K B "utter" cc)
  (jO:Mk K bf ac)
  (sV:Mk K cS bi)
  (qf:Mk K bF ac)
  (qi:Mk K bE fC)
  (Az:Mk K B b4)
  (O1:YZ K (.ref f) "__init__"=Ya (Ya (.ref A)))
  (eS:MJ K r9 "__init__" ac)
  (hB:bH K "count_of" "count_of" rq fr jS)
  (hC:bH K "hands_among" "hands_among" kq fv jT)
  (hD:bH K "covers" "covers" yp fw jU)
  (hE:bH K "unpacked" "unpacked" rP fx jV)
  (hF:bH K "joined" "joined" yL fz jW)
  (hH:bH K "covers_name" "covers_name" ke fB jX)
  (hI:bH K "__init__" "Call.__init__" iH ac jZ)
  (hJ:bH K "__init__" "OwnCall.__init__" fJ fC j0)
  (hK:bH K "is_whole" "is_whole" rQ fD j1)
  (hL:bH K "is_word" "is_word" uw fF j2)
  (cr:bH K "make_call" "make_call" p6 ag fH)
  (cs:bH K "in_turn" "Call.in_turn" jm u fI)
  (cx:bH K "free" "Call.free" oW ah fK)
  (cy:bH K "free" "HeardCall.free" gX L fN)
  (cA:bH K "first_open" "first_open" mw al fO)
  (cB:bH K "name_at" "name_at" uX am fT)
  (cI:bH K "name" "Call.name" pd x fU)
  (cL:bH K "rank" "Call.rank" oU y fW)
  (cO:bH K "asks_place" "Call.asks_place" gi M fX)
  (cW:bH K "asks_place" "OneCall.asks_place" eM ap f0)
  (cX:bH K "rank_of" "rank_of" uu aq f1)
  (cZ:bH K "can_be_taken" "can_be_taken" jh ar f2)
  (c0:bH K "first_to_take" "first_to_take" iM as f3)
  (c1:bH K "callers_from" "callers_from" ja aI f4)
  (c2:bH K "run" "run" MC aS f5)
  (c3:bH K "least_asking" "least_asking" jo a3 f6)
  (c4:bH K "placed" "placed" wZ a4 f8)
  (da:bH K "least_count" "least_count" kJ a5 ga)
  (db:bH K "common" "common" w6 a6 gb)
  (dd:bH K "packed" "packed" xK ba gc)
  (de:bH K "bit_of" "bit_of" yF bb gd)
  (di:bH K "has" "has" Mb bd ge)
  (dj:bH K "hands_of" "hands_of" rC be gg)
  (dk:bH K "__init__" "Known.__init__" gZ bi gh)
  (dl:bH K "learn" "Known.learn" kz bl gj)
  (dm:bH K "listed" "Known.listed" jw bm gk)
  (dn:bH K "merge" "Known.merge" kL bn gl)
  (dr:bH K "reach" "Known.reach" kO bt go)
  (ds:bH K "sure" "Known.sure" l9 bv gp)
  (dt:bH K "floor" "Known.floor" kj bw gq)
  (dv:bH K "kind" "OwnCall.kind" jf bG gr)
  (dx:bH K "kind" "HeardCall.kind" gP bN gs)
  (dz:bH K "kind" "OneCall.kind" jx bT gt)
  (dE:bH K "told" "Call.told" pF z gu)
  (dK:bH K "call_of" "call_of" u0 b0 gv)
  (dL:bH K "why_of" "why_of" xZ b1 gw)
  (dT:bH K "by_rank" "by_rank" uo b2 gx)
  (dU:bH K "least" "least" AY b3 gA)
  (dV:bH K "__init__" "Page.__init__" iN b4 gB)
  (dW:bH K "__init__" "Held.__init__" iK A gD)
  (dX:bH K "check_room" "Page.check_room" gG b5 gE)
  (dY:bH K "keep" "Page.keep" pC b6 gH)
  (d1:bH K "kept_calls" "Page.kept_calls" fS b7 gI)
  (d2:bH K "take" "Page.take" oT b8 gM)
  (d4:bH K "let_go" "Page.let_go" kI b9 gN)
  (d5:bH K "step" "Page.step" oF ca gO)
  (d7:bH K "utter" "Page.utter" mB cc gT)
  (O:Fj K "piece" "Page.piece" lR ce gU [.int 0 gz,.none])
  (ea:bH K "keep_new" "Page.keep_new" iL cf gV)
  (eb:bH K "listen" "Page.listen" kF cg gW)
  (ec:bH K "taken" "Page.taken" lP ch gY)
  (ee:bH K "_law_cell_at" "_law_cell_at" jn ci g0)
  (eg:bH K "_law_mixed" "_law_mixed" mF ck g1)
  (ei:bH K "_law_hands" "_law_hands" mN cl g2)
  (ej:bH K "_law_pages" "_law_pages" lY cm g3)
  (ek:bH K "_law_taken" "_law_taken" mS cn g4)
  (el:bH K "_law_call" "_law_call" p7 co g5)
  (em:bH K "_law_deed" "_law_deed" pA cp g6)
  (en:bH K "law" "law" zE cq g7)
  (Gj:K.lookup f=Ya (excClassObj O6 Nj f SH N6 jJ Bk Oh Nr NF Nh Ob Ou NT Po O0 OT Gr))
  (Fl:iS K r9)
  (g:iS K bf)
  (I:FU K cS)
  (i:iS K bF)
  (j:iS K bE)
  (p:zU K B)
  (NL:afb K [.type "ValueError",.type "Exception",.type "BaseException",.type "object"] jJ=true)
  (OA:Gr="ValueError.__new__")
  (NU:adn K (.ref A)=Ya (.type "function"))
  (N8:abD K f (.ref f)=Ya true)
  (Ni:Xl K (.ref f)=true)
  (MU:YZ K (.ref f) "__setattr__"=Ya (Ya (.builtin "object.__setattr__")))
  (Mx:abD K f (.type "object")=Ya true)
  (Li:Bk=true)
  (NS:jJ=[YA G1,.type "ValueError",.type "Exception",.type "BaseException",.type "object"])
  (Lf:jJ.contains (W6 "BaseException")=true)
  (iT:YZ K (.ref f) "many"=Ya Yb)
  (iZ:YZ K (.ref f) "room"=Ya Yb)
  (c:jJ.contains (W6 "BaseException")=true)
  (d:(YA f::jJ).contains (YA f)=true)
  (M4:K.lookup aK=Ya ⟨.type "tuple",Yb,.seq #[.str "own" j4,.str "heard" j5,.str "one" j7] nK,#[]⟩)
 :∃fd:Yx,(∀(s:Yl) (v:Yd),BindsTo s fd ⟨[v],[]⟩ [("_law_script",v)])/\∀base:YK,K.In base->base.Ns Y5 mg->aF l.prog w K mg base bx 12 fa fd vt (AM K):=by
 have e:=j3.symm.trans (aax X G hA);cases e;have b:eD K mg _ _ _ IK:=hB.cal X G j8;have P:eD K mg _ _ _ xW:=hC.cal X G kb;have hM:eD K mg _ _ _ wQ:=hD.cal X G kc;have C:eD K mg _ _ _ FO:=hE.cal X G kd;have eo:eD K mg _ _ _ wQ:=hF.cal X G kf;have D:eD K mg _ _ _ EH:=hH.cal X G kg;have hN:Binds K _ xA []:=hI.bq;have kl:Binds K _ xA []:=hJ.bq;have hO:eD K mg _ _ _ ["value"]:=hK.cal X G ki;have hP:eD K mg _ _ _ ["word"]:=hL.cal X G kk;have Q:eD K mg _ _ _ HU:=cr.cal X G g8;have ep:Binds K _ r6 []:=cs.bq;have eq:Binds K _ r6 []:=cx.bq;have er:Binds K _ r6 []:=cy.bq;have R:eD K mg _ _ _ Hy:=cA.cal X G g9;have e0:eD K mg _ _ _ Kp:=cB.cal X G ha;have E:Binds K _ aO []:=cI.bq;have hQ:Binds K _ aO []:=cL.bq;have S:Binds K _ aO []:=cO.bq;have T:Binds K _ aO []:=cW.bq;have q:eD K mg _ _ _ pq:=cX.cal X G hb;have e1:eD K mg _ _ _ DJ:=cZ.cal X G hc;have e2:eD K mg _ _ _ Du:=c0.cal X G hd;have e3:eD K mg _ _ _ Dq:=c1.cal X G he;have U:eD K mg _ _ _ pJ:=c2.cal X G hf;have e4:eD K mg _ _ _ BM:=c3.cal X G hg;have e5:eD K mg _ _ _ pJ:=c4.cal X G hh;have e6:eD K mg _ _ _ CB:=da.cal X G hi;have e7:eD K mg _ _ _ xW:=db.cal X G hj;have V:eD K mg _ _ _ zt:=dd.cal X G hk;have e8:eD K mg _ _ _ ["hand"]:=de.cal X G hm;have e9:eD K mg _ _ _ Co:=di.cal X G hn;have W:eD K mg _ _ _ rj:=dj.cal X G ho;have hR:Binds K _ BG []:=dk.bq;have es:Binds K _ zF []:=dl.bq;have hS:Binds K _ aO []:=dm.bq;have hT:Binds K _ C0 []:=dn.bq;have hV:Binds K _ DR []:=dr.bq;have hW:Binds K _ CW []:=ds.bq;have et:Binds K _ aO []:=dt.bq;have hX:Binds K _ aO []:=dv.bq;have hY:Binds K _ aO []:=dx.bq;have hZ:Binds K _ aO []:=dz.bq;have ev:Binds K _ aO []:=dE.bq;have fb:eD K mg _ _ _ ["told"]:=dK.cal X G hp;have fc:eD K mg _ _ _ pq:=dL.cal X G hq;have fe:eD K mg _ _ _ ["calls"]:=dT.cal X G hr;have ff:eD K mg _ _ _ rj:=dU.cal X G hs;have h0:Binds K _ DH []:=dV.bq;have h4:Binds K _ CP []:=dW.bq;have h5:Binds K _ aO []:=dX.bq;have ew:Binds K _ og []:=dY.bq;have ex:Binds K _ aO []:=d1.bq;have h6:Binds K _ og []:=d2.bq;have h7:Binds K _ aO []:=d4.bq;have ey:Binds K _ aO []:=d5.bq;have h8:Binds K _ B8 []:=d7.bq;have h9:Binds K _ xJ []:=O.binds λ_ _ _ _ _ _ _ us hl=>by obtain⟨a0,a1,a2,rfl⟩:=Wi (us:=us) (by rw[Yq]at hl;exact ac6 (m:=0) hl);exact⟨_,rfl,rfl⟩
 have fj:Binds K _ xJ [.int 0 gz,.none]:=O.binds λ_ _ _ _ _ _ _ us hl=>by obtain⟨a0,rfl⟩:=Wl (us:=us) (by rw[Yq]at hl;exact ac6 (m:=2) hl);exact⟨_,rfl,rfl⟩
 have ia:Binds K _ DY []:=ea.bq;have ib:Binds K _ BY []:=eb.bq;have ic:Binds K _ aO []:=ec.bq;have fi:eD K mg _ _ _ DN:=ee.cal X G ht;have fk:eD K mg _ _ _ B4:=eg.cal X G hu;have fl:eD K mg _ _ _ DU:=ei.cal X G hv;have fm:eD K mg _ _ _ vt:=ej.cal X G hw;have fn:eD K mg _ _ _ De:=ek.cal X G hx;have fo:eD K mg _ _ _ Cr:=el.cal X G hy;have fp:eD K mg _ _ _ DL:=em.cal X G hz;have Am:=aax X G Sl;have k:=aax X G B9;have J:=aax X G Oo;have n:=aax X G HZ;have o:=aax X G Io;have r:=aax X G QY;have mG:=aax X G QS;have AO:=yW.mk Gj;have wH:UK K f A [.type "ValueError",.type "Exception",.type "BaseException",.type "object"] "ValueError.__new__":=⟨⟨_,_,OA▸AO,NL⟩,O1,NU,N8,Ni⟩;have NR:∃cd,ac5 K f=Ya cd/\cd.hasDict=Bk/\cd.mro=.ref f::jJ:=by unfold ac5;rw[Gj];exact⟨_,rfl,rfl,rfl⟩
 have wG:M8 K f:=by obtain⟨cd,h1,h2,h3⟩:=NR;exact⟨MU,Mx,cd,jJ,h1,h2.trans Li,h3,[G1],NS⟩
 have wD:∃N up Zc,yW K f N up Zc/\up.contains (.type "BaseException")=true:=⟨_,_,_,AO,Lf⟩;have fV:LN K f f:=⟨_,_,_,AO,c,d⟩;have ug:=aax X G Jz;have ti:RelV (.ref aK) (.ref aK):=rfl;have sv:D4 K (.ref aK):=⟨aK,rfl,λH=>.inr ⟨_,_,_,M4,rfl,rfl,(by show 3<=sizeLine;decide),.cons ⟨_,rfl⟩ (.cons ⟨_,rfl⟩ (.cons ⟨_,rfl⟩ .nil))⟩⟩;have Ur:mg "abs"=none:=Wx X G UJ;have T3:mg "all"=none:=Wx X G TF;have Ld:mg "bool"=none:=Wx X G Sb;have uO:mg "dict"=none:=Wx X G Rl;have Ql:mg "int"=none:=Wx X G Uy;have mQ:mg "isinstance"=none:=Wx X G Bs;have qu:mg "len"=none:=Wx X G UI;have uU:mg "list"=none:=Wx X G QU;have Tz:mg "max"=none:=Wx X G Vq;have Gz:mg "min"=none:=Wx X G Vb;have wL:mg "range"=none:=Wx X G NB;have Qb:mg "set"=none:=Wx X G UP;have sQ:mg "sorted"=none:=Wx X G KQ;have Vh:mg "sum"=none:=Wx X G Tt;have sP:mg "tuple"=none:=Wx X G O8;obtain⟨_,_,kV,dc,pm,an,cd,ct,_,rfl,_⟩:=id en.ex;refine⟨WS "law" "law" (f7 zE) (dN zE) (ao zE) .none kV dc pm an cd ct,λs v=>.of_eq rfl,λbase _ _=>?_⟩;have a:Tg l.prog w mg base:=trivial;have t:=BI a hB;have fq:=ym a uU Qb sQ hC;have km:=HX a (t.mono (by decide)) b (fq.mono (by decide)) P T3 hD;have ad:=Eh a uO hE;have ih:=Hw a (t.mono (by decide)) b (fq.mono (by decide)) P (ad.mono (by decide)) C Tz hF;have ae:=yM a (t.mono (by decide)) b hH;have ii:=uJ a hI;have kn:=qp a (ii.mono (by decide)) hN Fl Am eS hJ;have ko:=DI a Ld Ql mQ hK;have kp:=Fi a (ko.mono (by decide)) hO Ur hL;have ez:=Ao a hN (ii.mono (by decide)) (kn.mono (by decide)) kl (kp.mono (by decide)) hP g i j k n o jO qf qi ug ti sv cr;have eA:=vP a (t.mono (by decide)) b cs;have eB:=Bn a j o (eA.mono (by decide)) ep dP cx;have eC:=si a C g i k n (eA.mono (by decide)) ep (km.mono (by decide)) hM (ad.mono (by decide)) dy dH cy;have eE:=y8 a (ae.mono (by decide)) D qu cA;have ik:=Ez a qu cB;have F:=Bu a cI;have il:=Ax a cL;have Y:=rM a cO;have Z:=nV a cW;have ab:=EZ a g i j k n o (il.mono (by decide)) hQ ef fA fy cX;have im:=wu a g i j k n o (eB.mono (by decide)) eq (eC.mono (by decide)) er (F.mono (by decide)) E (Y.mono (by decide)) S (Z.mono (by decide)) T aQ bX aV a8 cN bh a7 cP bg cZ;have io:=uE a b g i j k n o (t.mono (by decide)) (im.mono (by decide)) e1 c0;have it:=vS a c1;have eF:=Q8 a Qb sQ uO g i j k n o (ih.mono (by decide)) eo (eE.mono (by decide)) R (ik.mono (by decide)) e0 (ab.mono (by decide)) q (io.mono (by decide)) e2 (it.mono (by decide)) e3 c2;have iv:=wg a g i j k n o (eB.mono (by decide)) eq (eC.mono (by decide)) er (Y.mono (by decide)) S (Z.mono (by decide)) T aQ bX a8 cN a7 cP q (ab.mono (by decide)) Gz c3;have iw:=HF a uU g i j k n o E aV bh bg R (eE.mono (by decide)) (F.mono (by decide)) (eF.mono (by decide)) U (iv.mono (by decide)) e4 c4;have ix:=yi a (t.mono (by decide)) b Gz da;have iz:=IZ a P C (ad.mono (by decide)) (fq.mono (by decide)) (ix.mono (by decide)) e6 db;have eH:=ID a sQ sP dd;have iA:=Jr a de;have iC:=RU a (iA.mono (by decide)) e8 di;have eI:=DM a (iC.mono (by decide)) e9 wL dj;have iE:=sT a uO (eI.mono (by decide)) W dk;have eJ:=x5 a eo (ih.mono (by decide)) I J dl;have iI:=vW a sP I J (eH.mono (by decide)) V dm;have iO:=yJ a C I J (ad.mono (by decide)) (eJ.mono (by decide)) es cG dn;have iP:=yS a (ae.mono (by decide)) D qu I J dr;have iQ:=yX a qu I J (iP.mono (by decide)) hV fY ds;have eK:=yq a uU I J (iz.mono (by decide)) e7 dt;have iU:=wt a dv;have iV:=tQ a dx;have i0:=vZ a dz;have eL:=Bw a g i j k n o (iU.mono (by decide)) hX (iV.mono (by decide)) hY (i0.mono (by decide)) hZ d8 fu fE dE;have i1:=FI a g i j k n o (ez.mono (by decide)) Q dK;have i2:=Jc a g i j k n o S T aQ a8 a7 (Y.mono (by decide)) (Z.mono (by decide)) dL;have i3:=E4 a sQ g i j k n o q (ab.mono (by decide)) dT;have i9:=Kf a Gz (eI.mono (by decide)) W dU;have jb:=uL a I J (iE.mono (by decide)) hR sV dV;have je:=uD a dW;have jj:=rL a b (t.mono (by decide)) I J (eK.mono (by decide)) et (je.mono (by decide)) h4 p r c5 mG wH wG wD iT iZ dX;have eN:=Bj a g i j k n o E aV bh bg p r (F.mono (by decide)) dY;have eP:=rH a uU g i j k n o p r (i3.mono (by decide)) fe d1;have jk:=AL a g i j k n o p r d2;have jp:=xk a uO g i j k n o D I J (eK.mono (by decide)) et p r c5 (ae.mono (by decide)) d4;have eQ:=AW a g i j k n o U I J es cG p r (eF.mono (by decide)) (iw.mono (by decide)) e5 (eJ.mono (by decide)) (iQ.mono (by decide)) hW (eL.mono (by decide)) ev (i2.mono (by decide)) fc (i9.mono (by decide)) ff (eP.mono (by decide)) ex (jk.mono (by decide)) h6 (jp.mono (by decide)) h7 bY ig cM cQ bR gn iX d5;have jq:=zj a g i j k n o V Q p r (ez.mono (by decide)) (eH.mono (by decide)) (jj.mono (by decide)) h5 (eN.mono (by decide)) ew (eQ.mono (by decide)) ey dM dO dJ d7;have jr:=zi a (t0:=gz) g i j k n o sP I J p r ev ex bY cM cQ bR (iI.mono (by decide)) hS (eL.mono (by decide)) (eP.mono (by decide)) dS O;have jv:=u4 a g i j k n o D E aV bh bg p r ew dO (ae.mono (by decide)) (F.mono (by decide)) (i1.mono (by decide)) fb (eN.mono (by decide)) ea;have jz:=yb a uU qu I J p r (eQ.mono (by decide)) ey dJ (iO.mono (by decide)) hT (jv.mono (by decide)) ia eG eR eb;have jA:=zh a uO p r ec;have jC:=vY a qu ee;have jE:=y4 a eg;have jH:=zg a wL ei;have jK:=y3 a p r (jb.mono (by decide)) h0 (jC.mono (by decide)) fi (jH.mono (by decide)) fl Vh Az ej;have jM:=zb a uU Ld Ql mQ qu sP ek;have jP:=Bb a qu sP p r mG (jq.mono (by decide)) h8 iq fV el;have jR:=Aw a (oi:=gz) qu wL p r (jr.mono (by decide)) fj h9 (jz.mono (by decide)) ib (jE.mono (by decide)) fk (jP.mono (by decide)) fo c8 dA em;exact Q6 a uO mQ qu Gz wL p r (jA.mono (by decide)) ic (jK.mono (by decide)) fm (jM.mono (by decide)) fn (jR.mono (by decide)) fp fh en
theorem V0{l:ac8}{q:YO}{b:List Yn}{i:(Yn->Option Yd)->YK->Prop}{e:YW->YK->Prop}{d:DefRec}{K:Params->Yc}(hn:l.most=Ya 63)(c:d.params.defaults=[])
  (j:∀(w:YW) (h:YK),e w h->(K w.params).In h)
  (F:∀(w:YW) (mg:Yn->Option Yd) (g:Ye) (h:YK),(K w.params).In h->h.Ns Y5 mg->mg d.name=Ya (.ref g)->
   ∃fd:Yx,(∀(s:Yl) (u:Yd),BindsTo s fd ⟨[u],[]⟩ [("_law_script",u)])/\∀base:YK,(K w.params).In base->base.Ns Y5 mg->aF l.prog w (K w.params) mg base bx 12 g fd ["_law_script"] (AM (K w.params))):
  aeO q b i e l.row.toRowW d [] (λf vs=>PySem.call f vs):=
 L2.OD (n:=63) (k:=12) (x:="_law_script") (CX:=λ_=>bx) (sp:=λw=>AM (K w.params)) hn (by decide) c ⟨rfl,by decide,by decide⟩ j F (λ_ _ a ns hl _ m=>⟨a,ns,rfl,m,hl,λ_=>rfl⟩) λ_ _ _ _ _ z=>z
end K43
section
open Lean in
local macro_rules | `(#synth $f $k*) => return mkNullNode (← k.mapM λi => `(def $(mkIdent (.mkSimple s!"tw{(`PySem.Challenge.cw_groupcall_k43_row_and_causes_holds ++ .mkSimple s!"{f.raw.getId}_{i.raw.toNat}").hash}")) := Nat))
namespace PySem.W.Fast
#synth heap 39 46 793
#synth tree 47 108 135 150 205 207 286 315 344 394 460 533 663 743 792
#synth view 39
#synth sts 49 109 136 151 206 208 287 316 345 395 461 534 747
#synth o 43 45 46 49 51 53 54 55 56 57 58 60 61 62 63 64 65 67 68 69 70 71 72 74 75 76 77 79 80 81 82 84 85 86 87 89 90 91 92 94 95 96 97 99 100 101 102 104 105 106 107 108 109 111 112 113 114 116 117 118 119 120 121 122 123 124 125 126 127 129 130 131 132 133 134 135 136 138 139 140 141 142 144 145 146 147 148 149 150 151 153 154 155 156 157 159 160 161 163 164 165 166 167 168 169 170 171 172 173 175 176 177 178 179 180 182 183 184 185 186 187 189 190 191 192 193 194 196 197 198 199 201 202 203 204 205 206 207 208 210 211 212 213 215 216 217 219 220 221 222 223 224 226 227 228 229 230 231 233 234 235 236 237 238 240 241 242 243 244 245 247 248 249 250 251 252 254 255 256 257 258 259 261 262 263 264 265 266 268 269 270 271 272 273 275 276 277 278 279 280 281 282 283 284 285 286 287 289 290 291 292 293 295 296 297 299 300 301 302 303 304 306 307 308 309 310 311 312 313 314 315 316 318 319 320 321 322 324 325 326 328 329 330 331 332 333 335 336 337 338 339 340 341 342 343 344 345 347 348 349 350 351 353 354 355 357 358 359 360 361 362 364 365 366 367 368 369 370 371 372 373 374 376 377 378 379 380 381 383 384 385 386 387 388 390 391 392 393 394 395 397 398 399 400 402 403 404 406 407 408 409 411 412 413 414 415 416 418 419 420 421 422 423 425 426 427 428 429 430 432 433 434 435 437 438 439 440 441 442 444 445 446 447 449 450 451 452 453 454 455 456 457 458 459 460 461 463 465 466 467 468 469 470 472 473 474 475 476 477 479 480 481 482 483 484 486 487 488 489 490 491 493 494 495 496 497 498 500 501 502 503 504 505 507 508 509 510 512 513 514 515 517 518 519 520 522 523 524 525 526 527 529 530 531 532 533 534 536 537 538 539 541 542 543 545 546 547 548 549 550 552 553 554 555 556 557 559 560 561 562 563 564 566 567 568 569 570 571 573 574 575 576 577 578 580 581 582 583 585 586 587 588 589 590 592 593 594 595 596 598 599 600 601 603 604 605 606 607 608 610 611 612 613 614 615 617 618 619 620 621 622 624 625 626 627 628 629 631 632 633 634 635 636 638 639 640 641 642 643 645 646 647 648 649 650 652 653 654 655 656 657 658 659 660 661 662 663 665 666 667 668 670 671 672 674 675 676 677 678 679 681 682 683 684 685 686 688 689 690 691 692 693 695 696 697 698 699 700 702 703 704 705 706 707 709 710 711 712 714 715 716 717 718 719 721 722 723 724 725 727 728 729 730 732 733 734 735 736 737 739 740 741 742 743 747 749 751 752 753 754 755 756 758 759 760 761 762 763 765 766 767 768 770 771 772 773 775 776 777 778 780 781 782 783 785 786 787 788 790 791 792
#synth env 41
def tw3788187131873609735:=Nat
end PySem.W.Fast
end
open PySem PySem.W PyProof.Rows
set_option maxRecDepth 100000 in
set_option maxHeartbeats 0 in
theorem PySem.Challenge.cw_groupcall_k43_row_and_causes_holds : PySem.Challenge.rw_groupcall_k43_row_and_causes.Holds := by
 w_on;o_law;k_head;(case hw=>w_witness2)
 k_fill
 refine K43.V0 (l:=PySem.Challenge.rw_groupcall_k43_row_and_causes) rfl rfl (λw h Y=>PySem.W.kIn_of Y) ?F
 case F=>
  intro w mg fa h KX G hmg;refine' K43.R8 KX G hmg ?h0 ?h1 ?h2 ?h3 ?h4 ?h5 ?h6 ?h7 ?h8 ?h9 ?h10 ?h11 ?h12 ?h13 ?h14 ?h15 ?h16 ?h17 ?h18 ?h19 ?h20 ?h21 ?h22 ?h23 ?h24 ?h25 ?h26 ?h27 ?h28 ?h29 ?h30 ?h31 ?h32 ?h33 ?h34 ?h35 ?h36 ?h37 ?h38 ?h39 ?h40 ?h41 ?h42 ?h43 ?h44 ?h45 ?h46 ?h47 ?h48 ?h49 ?h50 ?h51 ?h52 ?h53 ?h54 ?h55 ?h56 ?h57 ?h58 ?h59 ?h60 ?h61 ?h62 ?h63 ?h64 ?h65 ?h66 ?h67 ?h68 ?h69 ?h70 ?h71 ?h72 ?h73 ?h74 ?h75 ?h76 ?h77 ?h78 ?h79 ?h80 ?h81 ?h82 ?h83 ?h84 ?h85 ?h86 ?h87 ?h88 ?h89 ?h90 ?h91 ?h92 ?h93 ?h94 ?h95 ?h96 ?h97 ?h98 ?h99 ?h100 ?h101 ?h102 ?h103 ?h104 ?h105 ?h106 ?h107 ?h108 ?h109 ?h110 ?h111 ?h112 ?h113 ?h114 ?h115 ?h116 ?h117 ?h118 ?h119 ?h120 ?h121 ?h122 ?h123 ?h124 ?h125 ?h126 ?h127 ?h128 ?h129 ?h130 ?h131 ?h132 ?h133 ?h134 ?h135 ?h136 ?h137 ?h138 ?h139 ?h140 ?h141 ?h142 ?h143 ?h144 ?h145 ?h146 ?h147 ?h148 ?h149 ?h150 ?h151 ?h152 ?h153 ?h154 ?h155 ?h156 ?h157 ?h158 ?h159 ?h160 ?h161 ?h162 ?h163 ?h164 ?h165 ?h166 ?h167 ?h168 ?h169 ?h170 ?h171 ?h172 ?h173 ?h174 ?h175 ?h176 ?h177 ?h178 ?h179 ?h180 ?h181 ?h182 ?h183 ?h184 ?h185 ?h186 ?h187 ?h188 ?h189 ?h190 ?h191 ?h192 ?h193 ?h194
  (case h0|h1|h2|h3|h4|h5|h6|h7|h8|h9|h10|h11|h12|h13|h14|h15|h16|h17|h18|h19|h20|h21|h22|h23|h24|h25|h26|h27|h28|h29|h30|h31|h32|h33|h34|h35|h36|h37|h38|h39|h40|h41|h42=>show _=_;k_is)
  (case h43|h44|h45|h46|h47|h48|h49|h50|h51|h52|h53|h54|h55|h56|h57|h58=>first|k_is|rfl|decide)
  (case h59|h60|h61|h62|h63|h64|h65|h66|h67|h68|h69|h70|h71|h72|h73|h74|h75|h76|h77|h78|h79|h80|h81|h82|h83|h84|h85|h86|h87|h88|h89|h90|h91|h92|h93|h94|h95|h96|h97|h98|h99|h100|h101=>constructor<;>k_is)
  (case h102=>first|k_is|rfl|decide)
  (case h103=>constructor<;>first|k_is|rfl)
  (case h104|h105|h106|h107|h108|h109|h110|h111|h112|h113|h114|h115|h116|h117|h118|h119|h120|h121|h122|h123|h124|h125|h126|h127|h128|h129|h130|h131|h132|h133|h134|h135|h136|h137|h138|h139|h140|h141|h142|h143|h144|h145|h146|h147|h148|h149|h150|h151|h152|h153|h154|h155|h156|h157|h158|h159|h160=>exact L2.MM (by k_is) (by k_is) (by k_is))
  (case h161=>exact L2.OF (by k_is) (by k_is) (by k_is))
  (case h162|h163|h164|h165|h166|h167|h168|h169|h170|h171|h172=>exact L2.MM (by k_is) (by k_is) (by k_is))
  (case h173=>first|k_is|rfl|decide)
  (case h174|h175|h176|h177|h178|h179=>constructor;(constructor<;>k_is);all_goals(show _=_;k_is))
  (case h180=>first|k_is|rfl|decide|kernel_rfl)
  (case h181=>rfl)
  (case h182|h183|h184|h185|h186=>first|k_is|rfl|decide)
  (case h187|h188=>rfl)
  (case h189=>first|k_is|rfl|decide|kernel_rfl)
  (case h190|h191=>first|k_is|rfl|decide)
  (case h192|h193=>first|k_is|rfl|decide|kernel_rfl)
  (case h194=>first|k_is|rfl|decide)
