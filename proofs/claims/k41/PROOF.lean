import PyProof.Rows.All
import Wide.All
import OpenK.AllK
import Wide.FinOn
import Lean
import PyProof.EqAt
import PyProof.EqKinds
import PyProof.TupleCall
import PyProof.AttrMissHeap
import KE.KSortTup
import KE.KDictList
import KE.KNest
import KE.KNestM
import OpenK.KRaise
import KE.KIsAll
import KE.KMatchCls
import PyProof.ExcAttrAll.ValueError
import PyProof.Rows.Range3
import PyProof.ZipIter
import PyProof.Rows.FactsT2
import PyProof.Rows.ZipGen
import KE.KItemsList
import PySem.Challenge.RW_groupcall_k41_a_page_alone
set_option Elab.async false
set_option linter.all false
set_option maxRecDepth 100000
set_option maxHeartbeats 16000000
open PySem.W renaming Frag→cw,findIn→Qx,mg_none_of→Rk,kia_one→Rx,emptyDict→RH,KasT→RO,methodCall_KW→R4,instObj→R7,keepIn→R9,kas_rev→Se,nsIn→Sg,callWith_K→So,fnOf→SA,mg_of→To,plainGet→T9,kdl_call→Uc,hideAll→Uo,kat_nil→Uu,plainGet_of→Uy,looks_clsIn→Uz,lookIn→UC,mroIn→UR,methodObj→UZ,hasDictIn→U1,set_plain→U2,handedIn→Ve,kdl_dict→Vo,kas_sort→Vr,takerIn→VD,cellsFrom_some→VM,kitOne→VX,codeIn→VY,hideAll_none→Wb,kas_descPart→Wm,clsIn→Wo,OpenLaw→Wu,hideAll_get→Wx,callWith_K0→Wy,of_hideAll→WD,isFn→WH,typeIn→WI,plainOver→W0,specialIn→W2,kitx_list→W3,kitx_dict→W4,kas_tail3→Xe,kas_count→Xf,kas_place→Xg,InitBack→Xl,kas_desc→Xr,kat_cons→Xs,kat_kind→Xv,kas_item→Xw,kat_snds→Xx,makesIn→XI,kas_asc→XX,kas_bin→XY,kat_one→XZ,kat_yes→X0,kat_run→X1,KatLex→Ye,kat_go→Yf,kat_no→Yg,kat_lt→Yh,WalkO→Yp,tailIn→YL
open PySem renaming Value→cT,Addr→dk,Shared→lr,wpAny→ni,Str→pe,FuncData→xw,Heap→Qg,Program→Qo,World→Qu,mainGlobals→Qz,Stmt→QB,Expr→QC,Obj→QM,DictEntry→QQ,Around→QR,Builtin→QU,codeAny→QW,wpAny_callSpecial?_slot→Rc,sysModules→Rm,PyData→Rp,sizeLine_eq→RE,boot_len→RG,mem_of_lookup→RJ,cLine→RM,wpAny_Call_Name_kw→RN,bootBuiltins→R8,attributeBase→Sk,wpAny_passesOwn→Ss,Pos→Sz,Scope→SU,entryFor→SY,Env→S2,Result→S3,call_meetsIn→S4,scanBound→S9,call_meets→TL,isSubtype_type→TM,Tok→TQ,wpAny_Call_method0_late→TR,wpAny_pyIter_slot→TY,behindInMarks→T6,NameKind→Ua,swapsWith→Ue,standAt→Ug,Keyword→Uh,plainObj_wpAny_Assign_Attribute→Um,wpAny_execs_nil→Uq,evalArgs_none→UA,recursionLimit→UD,SetTable→UE,firstArgMember→UG,KeyKind→UI,table→UJ,Within→UL,Fin→U5,wpAny_loadPart_at→U7,wpAny_call→U8,callerA→Vc,Sem→Vd,IsPart→Vh,seqItems?→VF,Walks→VH,wpAny_ite_split→VI,wpAny_isTrue_Compare1→VW,plainId→V2,builtinLookup_eq_fast→V3,isSubtype_stop→V5,raiseNew→Wg,wpAny_pyIter_valiter→Wj,ZipApart→Wq,ExcBaseFacts→WS,wpAny_assign_Name→WZ,wpAny_Call_method→W6,slot_list_getitem→W7,wpAny_execs_cons→Xj,pastItsLine_dict→Xk,bindArgs→Xm,wpAny_Dict_empty→Xn,getAttr?→Xp,entryFor_of_tree→Xq,wpAny_pyIter_zip→XA,CmpOp→XF,builtinsNs→XG,wpAny_Name→XH,typeLookup_type→XR,entryFor_alias→Yc,evalPart_none→Yn,call_list_seq→Yo,Drawn→Ys,Model→Yt,seqIndex_neg→Yw,Slot→Yx,newTuple→Yy,operate→YN,Spec→YT
open PySem.Heap renaming get?_push_of_some→gf,get?_push_size→rl,lt_size→vc,get?_update_other→QP,get?_update_self→Q7,SameBut→Rf,size_push→Rl,ExtBut→Th,get?_none_of_le→Wc,get?_update_ne→WA,get?_push_at→W8,IsTuple→YA
open List renaming length_map→gm,getElem?_eq_some_iff→pk,mem_singleton→tw,mem_cons→uc,getElem?_eq_getElem→xi,mem_cons_of_mem→xj,mem_cons_self→xl,length_append→xp,map_append→xt,size_toArray→xu,getElem?_map→CA,map_cons→Qd,length_filter_le→Qf,mem_append_right→Qi,filter_append→Qm,take_length→Qq,getD_eq_getElem?_getD→Qs,mem_append→Qw,not_mem_nil→Qy,mem_of_getElem?→QA,mem_map→QE,range→QF,getElem?_of_mem→QJ,length_cons→QL,mem_filter→QS,mem_map_of_mem→QZ,append_nil→Q2,length_take→Q9,filter_cons→Rb,nodup_cons→Rh,map_map→Ri,mem_append_left→Ro,pairwise_iff_getElem→Rq,eq_nil_of_length_eq_zero→Rr,map_congr_left→Ru,length_singleton→Rw,getElem_mem→RB,mem_range→RD,length_range→RI,nodup_append→RU,append_assoc→RV,length_take_le→RW,length_nil→Sa,foldl_cons→Sb,toArray→Sd,find?_cons→Sv,getElem?_eq_none→Sx,lookup→SG,replicate→SJ,getElem_map→SN,getElem_of_mem→SO,filter_cons_of_pos→SR,any_cons→SS,of_mem_zip→SV,pairwise_lt_range→S0,any_eq_true→Te,getElem?_append_right→Tf,filterMap_cons→Ti,filter_sublist→Tn,map_eq_nil_iff→Tp,getElem?_append_left→Tq,mem_filterMap→Tt,map_nil→Tw,mem_singleton_self→TV,find?_cons_of_pos→T5,sum_cons→T8,length_replicate→Ui,findSome?_append→Ul,pairwise_append→Ut,findSome?_cons→UB,map_id→UK,zip_cons_cons→UN,pairwise_cons→UO,find?_eq_none→UQ,length_eraseIdx_of_lt→UW,findSome?_eq_none_iff→UY,any_eq_false→U0,take_sublist→U4,foldl_append→U6,getElem?_zip_eq_some→Va,length_drop→Vi,lookup_cons→Vk,ext_getElem→Vn,all_eq_true→Vq,map_id'→Vs,filter_cons_of_neg→VB,forIn_cons→VE,range_succ→VG,getElem?_set_self→VL,take_of_length_le→VV,nodup_nil→VZ,getElem?_toArray→V6,getElem?_set_ne→Wd,perm_cons_erase→Wh,mem_erase_of_ne→Wi,mem_of_mem_take→Wk,replicate_succ'→Ws,perm_singleton→WB,Perm→WL,sum_nil→WN,map_replicate→WU,map_singleton→WV,pairwise_map→W9,ext_getElem?→Xc,reverse_cons→Xd,find?_append→Xh,map_snd_zip→Xu,zipIdx_cons→Xz,map→XB,mem_reverse→XD,sum_append→XU,zipIdx_nil→X3,length_zip→X4,nil_append→X5,filter_map→X6,take_succ→Yd,forIn_nil→Yi,zip_map'→Yq,perm_nil→Yr,length→YF
open Nat renaming le_refl→oh,ne_of_lt→xy,lt_of_lt_of_le→Qr,zero_le→Qt,lt_irrefl→QD,le_of_lt→QG,le_of_ble_eq_true→QK,le_trans→QT,ne_of_gt→RC,le_succ→RP,succ_le_succ→Sl,lt_succ_of_lt→SD,lt_succ_self→SK,lt_of_le_of_lt→SW,add_le_add_left→Tj,le_of_eq→Tu,lt_or_ge→TB,le_succ_of_le→TZ,le_add_right→Ud,not_lt_zero→Uv,lt_trans→Vg,lt_succ_iff_lt_or_eq→Vl,zero_testBit→Vm,lt_of_succ_lt_succ→VQ,pow_le_pow_right→We,testBit_two_pow→Wz,zero_add→WK,lt_trichotomy→Xa,succ_lt_succ→XC,testBit_and→XO,not_lt→XT,mod_lt→YU
open PySem.Value renaming ref→zt,none→Q4,type→RL,bool→Ta,int→Ts,str→VC,isInt_shape→WY,float→Xi,isStrOf→Yl,isInt→YC,bytes→YD
open Sum renaming inl→GV,inr→Vb
open Array renaming getElem?_eq_getElem→KW,getD_eq_getD_getElem?→Qh,length_toList→QI,getElem?_toList→QV,getElem?_eq_none→RF,getElem_toList→Tc,perm_iff_toList_perm→UX,toArray_toList→Wr,append_assoc→WE,toList→WG,append_empty→WR,toList_push→Xb,toList_inj→Xt,getD→YV
open Option.some renaming inj→Qj
open PySem.Paired renaming length→Qk,snoc→YG
open Or renaming inl→Ql,inr→XN
open Bool renaming false_ne_true→Qn,eq_false_iff→Sj,eq_iff_iff→Su,false_and→SH,false_eq_true→Tz,and_eq_true→Ub,and_eq_true_iff→Uw,false_or→UT,or_eq_false_iff→Wf,or_false→Wt,true_and→Ww,or_eq_true_iff→WC,and_false→X8
open Int renaming toNat_natCast→Qp,le_refl→R6,emod_nonneg→VJ,toNat→WO,le_trans→WQ,emod_lt_of_pos→WW,le_of_lt→Yz,one_mul→YJ
open PyProof.Rows renaming boot_isinstance→Qv,boot_list→Q5,boot_dict→RY,boot_sorted→Sf,slot_tuple_getitem→Sm,boot_tuple→SQ,boot_min→S5,callWith_type1→S7,AllBare→TK,kws_cons→Uj,boot_int→Uk,callWith_kw→Ux,subscriptTail_builtinR→VO,boot_bool→VU,boot_all→Wa,kws_nil→Wl,tuples'→Wn,firstMet_succ→Wv,callWith_builtin1→XJ,Subscript_→XM,entry_list_sort→XQ,get?_update_seq→XW,slot_list_sort→X9,IsTup→Yu,intBits_le→YB,bitAnd_pp→YI,boot_max→YQ,boot_abs→YR,boot_str→YS
open Ne renaming symm→QH
open PySem.SetTable renaming below→QN,Probe→Ya
open PySem.Str renaming ofString→QO
open PySem.Shared renaming TypeIs→QX,heap→YM
open PySem.F renaming plainAttrs_list→QY,slot_list_append→Q6,slot_dict_valueiterator_next→Q8,slot_dict_itemiterator_next→Rg,type_list_append→Rj,plainAttrs_dict→Ry,slot_dict_values→RT,slot_tuple_iterator_next→R3,slot_dict_get→R5,plain_min_loop→Sq,entry_dict_get→SX,slot_dict_items→S1,slot_zip_next→S6,type_dict_values→TF,args_dict_values_1→TH,entry_dict_values→TU,args_tuple_iterator_next_1→T2,entry_tuple_iterator_next→T4,args_dict_get_2→Vt,args_dict_get_3→Vu,plain_list_iadd→Vv,slot_dict_values_iter→Vx,type_dict_items→Vy,args_zip_next_1→Vz,slot_list_clear→VA,entry_min_loop→VP,args_dict_items_1→VR,slot_dict_items_iter→VS,entry_zip_next→VT,type_dict_get→V0,slot_list_extend→V1,slot_set_iter→V7,entry_dict_items→V9,called_set→WM
open PySem.Heap.SameBut renaming update→Q0
open PySem.Builtin.SmallTypes renaming nextOf→Q3,ownedTupleIsFree→RS,ownedTupleHandOut→TJ
open PySem.NameKind renaming free→Ra,cell→R0
open PySem.Builtin.Int renaming intBits→Rt
open PySem.Obj renaming mapSeq→Rv,mapFields→T7,data_mapFields→WT
open False renaming elim→Rz
open PySem.Builtin.Dict_items renaming ownsTuple→RQ,ownedTupleIsFree→WX,pairFromOwner→Xy
open PySem.Calls renaming callWith_builtin→RX,spliced_cons→Tv,evalArgs_plain→Ur,Name_function_global→US,spliced_nil→U3
open True renaming intro→RZ
open PySem.PassesOwn renaming never→Sh
open PySem.SetTable.below renaming go→Si
open Sum.inl renaming inj→Sn
open PyProof.Rows.F renaming plain_set_update_loop→Sr,entry_set_update_loop→TC
open Option renaming map_some→Sw,none_or→TN,isSome_iff_exists→Vf,getD_none→Vj,map_eq_some_iff→VN,isSome_map→W5,getD_some→Xo,map_map→Yb,none→YH
open List.cons renaming inj→Sy
open PySem.Builtin.Slice renaming slicePlaces→SE,sliceAdjust→Tr,sliceApplied→UU,slicePartIndex→X7,sliceFields→Yv
open PySem.Builtin.Tuple renaming tupleExact→SM,tupleCompareSizes→XE,tupleItemsOf→Ym
open PySem.Builtin.Builtins renaming bindParams→S8
open PySem.Builtin.List renaming listTooLong→Tx,listSameRef→Vp,listUpdate→Vw,listLengthHint→Yj,listExtendWith→Yk,listItems→YK
open PySem.SetTable.probe renaming go→TX
open ForInStep renaming yield→Us
open List.Perm renaming refl→UH,swap→V4,append_left→YO,cons→YW
open PySem.W.Looks renaming here→UM,of_pure→V8
open PySem.Code renaming quiet_builtin→UP,isFrame→WJ,frames→YE
open PySem.Walks renaming list→U9
namespace L2
open PySem PySem.Spec PyProof.Rows
variable{us:List cT}{a b it dx C:dk}{u:cT}{h h':Qg}{items:Array cT}{P:Qo}{x name m qual:pe}{e c tg value:QC}{pins:List (dk×QM)}{s s':lr}{g':Array GenState}{t' i j k n:Nat}{d':Ys}{ch fp:List dk}{M:Yt}{E Q:cT->lr->Prop}{pos pos' p tpos apos:Sz}{op:XF}{es:List QC}{body:List QB}{g:Int->Int->Int}{f:cT->cT->Vd cT}{mA:pe->Option cT}{pl:Vd Bool}{kw:List (pe×cT)}{fd:xw}{ps:List pe}{scope:SU}{T:String}
abbrev Key:=Sum Int pe
variable{xs:List (List Key×dk×cT)}
def rU:Key->cT->Bool
 | .inl k,v=>YC k v
 | .inr x,v=>Yl x v
def PN(w:Qu):Key->Int
 | .inl k=>hashInt k
 | .inr x=>hashStr w x
theorem bG:∀{k:Key} {v:cT},rU k v=true->(∃i t,k=GV i/\v=Ts i t)∨(∃x t,k=Vb x/\v=VC x t)
 | .inl i,v,h=>by
  obtain⟨t,e⟩:=WY (k:=i) (v:=v) h;exact .inl ⟨i,t,rfl,e⟩
 | .inr x,v,h=>by
  obtain⟨t,e⟩:=Value.isStrOf_shape (x:=x) (v:=v) h;exact .inr ⟨x,t,rfl,e⟩
theorem Ff(i:Int)(t:TQ):rU (.inl i) (.int i t)=true:=by simp[rU,YC]
theorem Ew(x:pe)(t:TQ):rU (.inr x) (.str x t)=true:=by simp[rU,Yl]
theorem Me(a b:Int):decide ((GV a:Key)=GV b)=(a==b):=by
 by_cases e:a=b
 ·subst e;simp
 ·have h:¬ (GV a:Key)=GV b:=fun q=>e (Sn q);rw[decide_eq_false h];exact(beq_eq_false_iff_ne.mpr e).symm
theorem Mx(a b:pe):decide ((Vb a:Key)=Vb b)=decide (a=b):=by
 by_cases e:a=b
 ·subst e;simp
 ·have h:¬ (Vb a:Key)=Vb b:=fun q=>e (Sum.inr.inj q);rw[decide_eq_false h,decide_eq_false e]
theorem Mi(a:Int)(b:pe):decide ((GV a:Key)=Vb b)=false:=decide_eq_false (fun q=>nomatch q)
theorem MM(a:pe)(b:Int):decide ((Vb a:Key)=GV b)=false:=decide_eq_false (fun q=>nomatch q)
def aO(prog:Qo)(w:Qu):UI prog w Key where
 is:=rU
 hash:=PN w
 inj:=fun v a b ha hb=>by
  rcases bG ha with⟨i,t,rfl,rfl⟩|⟨x,t,rfl,rfl⟩
  ·rcases bG hb with⟨j,u,rfl,e⟩|⟨y,u,rfl,e⟩
   ·injection e with e1 _;rw[e1]
   ·exact nomatch e
  ·rcases bG hb with⟨j,u,rfl,e⟩|⟨y,u,rfl,e⟩
   ·exact nomatch e
   ·injection e with e1 _;rw[e1]
 byValue:=fun k v h=>by
  rcases bG h with⟨i,t,rfl,rfl⟩|⟨x,t,rfl,rfl⟩<;>rfl
 pyHash:=fun hv h=>by
  rcases bG hv with⟨i,t,rfl,rfl⟩|⟨x,t,rfl,rfl⟩
  ·exact wpAny_pyHash_int h
  ·exact wpAny_pyHash_str h
 eqBool:=fun hu hv h=>by
  rcases bG hu with⟨i,t,rfl,rfl⟩|⟨x,t,rfl,rfl⟩
  ·rcases bG hv with⟨j,u,rfl,rfl⟩|⟨y,u,rfl,rfl⟩
   ·rw[Me]at h;exact wpAny_eqBool_int h
   ·rw[Mi]at h;exact SeqAt.EqAt.int_str i t y u _ _ _ _ h
  ·rcases bG hv with⟨j,u,rfl,rfl⟩|⟨y,u,rfl,rfl⟩
   ·rw[MM]at h;exact SeqAt.EqAt.str_int x t j u _ _ _ _ h
   ·rw[Mx]at h;exact wpAny_eqBool_str h
 «strs»:=fun k x t v h=>by
  rcases bG h with⟨i,u,rfl,e⟩|⟨y,u,rfl,e⟩
  ·exact nomatch e
  ·injection e with e1 _;subst e1;cases v<;>rfl
theorem lO(prog:Qo)(w:Qu)(i:Int)(t:TQ):(aO prog w).is (.inl i) (.int i t)=true:=Ff i t
theorem yx(prog:Qo)(w:Qu)(x:pe)(t:TQ):(aO prog w).is (.inr x) (.str x t)=true:=Ew x t
inductive V where
 |non|bl (b:Bool)|int (i:Int)|str (x:pe)|byt (b:Array UInt8)|flt (b:UInt64)|ref (a:dk)|ty (n:String)
 deriving DecidableEq
variable{v y d:V}{vs:List V}{kvs:List (List Key×V)}
def RelV:V->cT->Prop
 | .non,u=>u=Q4
 | .bl b,u=>u=Ta b
 | .int i,u=>∃t,u=Ts i t
 | .str x,u=>∃t,u=VC x t
 | .byt b,u=>∃t,u=YD b t
 | .flt b,u=>∃t,u=Xi b t
 | .ref a,u=>u=zt a
 | .ty n,u=>u=RL n
abbrev Vals:List V->List cT->Prop:=Paired RelV
theorem Vals.length{xs:List V}(r:Vals xs us):xs.length=us.length:=Qk r
theorem Vals.get:∀{xs:List V} {us:List cT} {i:Nat} {x:V},Vals xs us->xs[i]?=some x->∃u,us[i]?=some u/\RelV x u
 |_,_,_,_,.nil,e=>by simp at e
 |_,_,0,_,.cons r _,e=>by simp at e;subst e;exact⟨_,rfl,r⟩
 |_,_,i+ 1,x,.cons _ t,e=>by
  obtain⟨u,h1,h2⟩:=Vals.get (i:=i) (x:=x) t (by simpa using e);exact⟨u,by simpa using h1,h2⟩
theorem Vals.append:∀{xs ys:List V} {us ws:List cT},Vals xs us->Vals ys ws->Vals (xs++ys) (us++ws)
 |_,_,_,_,.nil,s=>s
 |_,_,_,_,.cons r t,s=>.cons r (Vals.append t s)
theorem Vals.take:∀{xs:List V} {us:List cT} (n:Nat),Vals xs us->Vals (xs.take n) (us.take n)
 |_,_,0,_=>.nil
 |_,_,_+ 1,.nil=>.nil
 |_,_,n+ 1,.cons r t=>.cons r (Vals.take n t)
theorem Vals.drop:∀{xs:List V} {us:List cT} (n:Nat),Vals xs us->Vals (xs.drop n) (us.drop n)
 |_,_,0,r=>r
 |_,_,_+ 1,.nil=>.nil
 |_,_,n+ 1,.cons _ t=>Vals.drop n t
def RelO:Option V->Option cT->Prop
 |some v,some u=>RelV v u
 |none,none=>True
 |_,_=>False
def KV{κ:Type}:List (κ×V)->List (κ×cT)->Prop:=Paired fun(p:κ×V) (q:κ×cT)=>p.1=q.1/\RelV p.2 q.2
def kV:Key->V
 | .inl i=>.int i
 | .inr x=>.str x
inductive HO where
 |lst (xs:List V)
 |tup (xs:List V)
 |dK (kvs:List (Key×V))|dT (kvs:List (List Key×V))
 |set (S:Int->Bool) (n:Nat)
 |ins (C dx:dk) (fs:List (pe×V))
 |own (x:dk)
 |xd (fs:List (pe×V))
 |met (f x:dk)
 |rng (lo hi:Int)
 |frz (o:QM) (u:HO)
 |tbl (ps:Array cT)
 |ext (φ:Qg->Prop)
variable{o:HO}
abbrev Hp:=dk->Option HO
variable{H H':Hp}{R:V->V->Hp->Prop}
def upd(H:Hp)(a:dk)(o:HO):Hp:=fun b=>if b=a then some o else H b
theorem af:upd H a o a=some o:=by unfold upd;rw[if_pos rfl]
theorem aj(h:b≠a):upd H a o b=H b:=by unfold upd;rw[if_neg h]
theorem Kh{u:HO}:upd (upd H a o) a u=upd H a u:=by
 funext b;unfold upd;split<;>rfl
theorem cR{u:HO}(h:H a=some o)(h':H b=some u)(d:o≠u):a≠b:=by
 intro e;subst e;rw[h]at h';exact d (Qj h')
theorem ai(h:H a=some o)(h':H b=none):a≠b:=by
 intro e;subst e;rw[h]at h';cases h'
def IsTpl(h:Qg)(a:dk)(items:Array cT):Prop:=∃o,h.get? a=some o/\o.cls=.type "tuple"/\∃n,o.data=.seq items n/\o.dict=none/\o.slots=#[]
theorem IsTpl.tup(x:IsTpl h a items):Yu h a items:=let ⟨o,e,c,n,d,_⟩:=x;⟨o,e,c,n,d⟩
theorem IsTpl.lt(x:IsTpl h a items):a<h.objs.size:=x.tup.lt
theorem IsTpl.new(h:Qg)(items:Array cT):IsTpl (h.push {cls:=.type "tuple",data:=.seq items}) h.objs.size items:=⟨_,rl _ rfl,rfl,_,rfl,rfl,rfl⟩
section
variable(P:Qo)(w:Qu)
def ObjOk(H:Hp)(h:Qg)(a:dk):HO->Prop
 | .lst xs=>xs.length<=sizeLine/\∃(its:List cT) (n:Nat),Vals xs its/\h.get? a=some {cls:=.type "list",data:=.seq its.toArray n}
 | .tup xs=>xs.length<=sizeLine/\∃its:List cT,Vals xs its/\IsTpl h a its.toArray
 | .dK kvs=>kvs.length<=sizeLine/\(a==Rm)=false/\∃vs,KV kvs vs/\h.DictOf (aO P w) a vs
 | .dT kvs=>kvs.length<=sizeLine/\(a==Rm)=false/\∃xs:List (List Key×dk×cT),
   Paired (fun(p:List Key×V) (q:List Key×dk×cT)=>p.1=q.1/\H q.2.1=some (.tup (p.1.map kV))/\RelV p.2 q.2.2) kvs xs/\
   ∃o es ep,h.get? a=some o/\o.ExactDict/\o.data=.dict es ep/\es.toList=xs.map (entryOfKey (tupleKind (aO P w)))/\(xs.map (·.1)).Nodup
 | .set S n=>h.SetOf (intKind P w) a S n
 | .ins C dx fs=>H dx=some (.own a)/\fs.length<=1000/\dx≠a/\h.get? a=some (R7 C dx)/\
   ∃mA,h.Ns1 dx mA/\(∀f,RelO (fs.lookup f) (mA f))/\UL mA (fs.map (·.1))
 | .own _=>∃o,h.get? a=some o
 | .xd fs=>∃mA,h.Ns1 a mA/\∀f,RelO (fs.lookup f) (mA f)
 | .rng lo hi=>∃t u v,h.get? a=some {cls:=.type "range",data:=.fields #[.int lo t,.int hi u,.int 1 v]}
 | .frz o u=>h.get? a=some o/\ObjOk H h a u
 | .tbl ps=>h.get? a=some {cls:=.none,data:=.fields ps}
 | .met f x=>h.get? a=some (UZ (.ref f) (.ref x))
 | .ext φ=>φ h/\(∃o,h.get? a=some o)/\∀h1 h2:Qg,φ h1->(∀o,h1.get? a=some o->h2.get? a=some o)->φ h2
def HOk(H:Hp)(h:Qg):Prop:=∀a o,H a=some o->ObjOk P w H h a o
end
section
variable{w:Qu}
theorem ObjOk.lt(x:ObjOk P w H h a o):a<h.objs.size:=by
 cases o with
 |lst xs=>obtain⟨_,_,_,_,e⟩:=x;exact vc e
 |tup xs=>obtain⟨_,_,_,p⟩:=x;exact p.lt
 |dK kvs=>obtain⟨_,_,_,_,o,_,_,e,_⟩:=x;exact vc e
 |dT kvs=>obtain⟨_,_,_,_,o,_,_,e,_⟩:=x;exact vc e
 |set S n=>obtain⟨o,_,_,_,e,_⟩:=x;exact vc e
 |ins C dx fs=>obtain⟨_,_,_,e,_⟩:=x;exact vc e
 |own y=>obtain⟨_,e⟩:=x;exact vc e
 |xd fs=>obtain⟨_,⟨_,_,_,e,_⟩,_⟩:=x;exact vc e
 |rng lo hi=>obtain⟨_,_,_,e⟩:=x;exact vc e
 |frz ob u=>obtain⟨e,_⟩:=x;exact vc e
 |tbl ps=>exact vc (show h.get? a=some _ from x)
 |met f y=>exact vc (show h.get? a=some _ from x)
 |ext φ=>obtain⟨_,⟨_,e⟩,_⟩:=x;exact vc e
theorem Paired.mapP{α β:Type}{F G:α->β->Prop}:∀{l₁:List α} {l₂:List β},Paired F l₁ l₂->(∀a b,F a b->G a b)->Paired G l₁ l₂
 |_,_,.nil,_=>.nil
 |_,_,.cons r t,f=>.cons (f _ _ r) (Paired.mapP t f)
theorem ObjOk.stay(x:ObjOk P w H h a o)(k:∀b u,(b=a∨H b=some (.own a))->h.get? b=some u->h'.get? b=some u)
  (ho:∀b,H b=some (.own a)->H' b=some (.own a)) (ht:∀b xs,H b=some (.tup xs)->H' b=some (.tup xs)):ObjOk P w H' h' a o:=by
 induction o with
 |lst xs=>obtain⟨z,its,n,r,e⟩:=x;exact⟨z,its,n,r,k _ _ (.inl rfl) e⟩
 |tup xs=>obtain⟨z,its,r,ob,e,c⟩:=x;exact⟨z,its,r,ob,k _ _ (.inl rfl) e,c⟩
 |dK kvs=>obtain⟨z,y,vs,r,ob,es,ep,e,c⟩:=x;exact⟨z,y,vs,r,ob,es,ep,k _ _ (.inl rfl) e,c⟩
 |dT kvs=>
  obtain⟨z,y,xs,r,ob,es,ep,e,c⟩:=x;exact⟨z,y,xs,Paired.mapP r fun p q z=>⟨z.1,ht _ _ z.2.1,z.2.2⟩,ob,es,ep,k _ _ (.inl rfl) e,c⟩
 |set S n=>obtain⟨ob,es,ep,t,e,c⟩:=x;exact⟨ob,es,ep,t,k _ _ (.inl rfl) e,c⟩
 |ins C dx fs=>
  obtain⟨d,z,ne,e,mA,⟨od,es,ep,e2,c⟩,r⟩:=x;exact⟨ho _ d,z,ne,k _ _ (.inl rfl) e,mA,⟨od,es,ep,k _ _ (.inr d) e2,c⟩,r⟩
 |own y=>obtain⟨ob,e⟩:=x;exact⟨ob,k _ _ (.inl rfl) e⟩
 |xd fs=>obtain⟨mA,⟨od,es,ep,e,c⟩,r⟩:=x;exact⟨mA,⟨od,es,ep,k _ _ (.inl rfl) e,c⟩,r⟩
 |rng lo hi=>obtain⟨t,u,v,e⟩:=x;exact⟨t,u,v,k _ _ (.inl rfl) e⟩
 |frz ob u ih=>obtain⟨e,q⟩:=x;exact⟨k _ _ (.inl rfl) e,ih q⟩
 |tbl ps=>
  have e:h.get? a=some {cls:=.none,data:=.fields ps}:=x;show h'.get? a=some {cls:=.none,data:=.fields ps};exact k a _ (.inl rfl) e
 |met f y=>
  have e:h.get? a=some (UZ (.ref f) (.ref y)):=x;show h'.get? a=some (UZ (.ref f) (.ref y));exact k a _ (.inl rfl) e
 |ext φ=>obtain⟨p,⟨o,e⟩,st⟩:=x;exact⟨st _ _ p fun o q=>k _ _ (.inl rfl) q,⟨o,k _ _ (.inl rfl) e⟩,st⟩
theorem HOk.lt(x:HOk P w H h)(e:H a=some o):a<h.objs.size:=(x a o e).lt
theorem HOk.fresh(x:HOk P w H h)(e:h.objs.size<=a):H a=none:=by
 cases q:H a with
 |none=>rfl
 |some u=>exact absurd (Qr (x.lt q) e) (QD _)
theorem HOk.kept(x:HOk P w H h)(k:∀b u,h.get? b=some u->h'.get? b=some u):HOk P w H h':=fun a o e=>
 (x a o e).stay (fun b u _ q=>k b u q) (fun _ q=>q) fun _ _ q=>q
theorem HOk.laid(x:HOk P w H h)(k:∀b u,h.get? b=some u->h'.get? b=some u)(hp:h.objs.size<=a)(new:ObjOk P w (upd H a o) h' a o):HOk P w (upd H a o) h':=fun b u e=>by
 have hn:=x.fresh hp;by_cases hb:b=a
 ·subst hb;rw[af]at e;cases e;exact new
 ·rw[aj hb]at e;exact(x b u e).stay (fun c v _ q=>k c v q) (fun c q=>by rw[aj (ai q hn)];exact q) fun c xs q=>by rw[aj (ai q hn)];exact q
end
def Rd(H:Hp)(a:dk)(u:HO):Prop:=H a=some u∨∃o,H a=some (.frz o u)
theorem Rd.ok{w:Qu}{u:HO}(r:Rd H a u)(x:HOk P w H h):ObjOk P w H h a u:=by
 rcases r with r|⟨o,r⟩
 ·exact x a u r
 ·obtain⟨_,q⟩:=x a _ r;exact q
def Mut:Option HO->Prop
 |some (.lst _)=>True
 |some (.dK _)=>True
 |some (.dT _)=>True
 |some (.set _ _)=>True
 |some (.ins _ _ _)=>True
 |some (.ext _)=>True
 |_=>False
section
variable{w:Qu}{x e:dk}{o':HO}
theorem HOk.write(ok:HOk P w H h)(mu:Mut (H x))(he:e=x∨H e=some (.own x))(k:∀b u,b≠e->h.get? b=some u->h'.get? b=some u)(heo:∃u,h'.get? e=some u)
  (new:ObjOk P w (upd H x o') h' x o'):HOk P w (upd H x o') h':=fun b u q=>by
 have nown:∀c y,H c=some (.own y)->c≠x:=fun c y r z=>by subst z;rw[r]at mu;exact mu
 have ntup:∀c xs,H c=some (.tup xs)->c≠x:=fun c xs r z=>by subst z;rw[r]at mu;exact mu
 by_cases hb:b=x
 ·subst hb;rw[af]at q;cases q;exact new
 ·rw[aj hb]at q;by_cases hbe:b=e
  ·have q':H b=some (.own x):=by
    rcases he with z|z
    ·exact absurd (hbe.trans z) hb
    ·rw[hbe];exact z
   rw[q]at q';cases q';obtain⟨v,hv⟩:=heo;exact⟨v,by rw[hbe];exact hv⟩
  ·refine(ok b u q).stay (fun c v hc r=>k c v ?_ r) (fun c r=>by rw[aj (nown c b r)];exact r) fun c xs r=>by rw[aj (ntup c xs r)];exact r
   rcases hc with rfl|hc
   ·exact hbe
   ·rintro rfl;rcases he with z|z
    ·exact nown c b hc z
    ·rw[hc]at z;cases z;exact hb rfl
end
structure Un(fs ex:List dk)(H H':Hp)(h h':Qg):Prop where
 keep:∀b o,h.get? b=some o->H b=none->b∉fs->b∉ex->h'.get? b=some o
 slot:∀b o,h.get? b=some o->H b=none->b∈fs->b∉ex->∃sl,h'.get? b=some {o with slots:=sl}
 free:∀b o,h.get? b=some o->H b=none->b∉ex->H' b=none
 there:∀b o,h.get? b=some o->b∉ex->∃o',h'.get? b=some o'
 tups:∀b xs,H b=some (.tup xs)->H' b=some (.tup xs)
 frzs:∀b o u,H b=some (.frz o u)->H' b=some (.frz o u)
 tbls:∀b ps,H b=some (.tbl ps)->∃more,H' b=some (.tbl (ps++more))
section
variable{fs fs' ex ex':List dk}{H1 H2:Hp}{h1 h2:Qg}{x e:dk}
theorem Un.any(u:Un fs ex H H1 h h1){ob:QM}(q:h.get? b=some ob)(n:H b=none)(hx:b∉ex):∃sl,h1.get? b=some {ob with slots:=sl}:=by
 by_cases hb:b∈fs
 ·exact u.slot b ob q n hb hx
 ·exact⟨ob.slots,u.keep b ob q n hb hx⟩
theorem Un.kept(k:∀b u,h.get? b=some u->h'.get? b=some u):Un fs ex H H h h':=
 ⟨fun b ob q _ _ _=>k b ob q,fun b ob q _ _ _=>⟨ob.slots,k b ob q⟩,fun _ _ _ n _=>n,fun b ob q _=>⟨ob,k b ob q⟩,fun _ _ q=>q,fun _ _ _ q=>q,fun _ ps q=>⟨#[],by rw[q];simp⟩⟩
theorem Un.refl:Un fs ex H H h h:=Un.kept fun _ _ q=>q
theorem Un.laid(k:∀b u,h.get? b=some u->h'.get? b=some u)(hp:h.objs.size<=a)(hn:H a=none):Un fs ex H (upd H a o) h h' where
 keep:=fun b u q _ _ _=>k b u q
 slot:=fun b u q _ _ _=>⟨u.slots,k b u q⟩
 free:=fun b u q n _=>by rw[aj (xy (Qr (vc q) hp))];exact n
 there:=fun b u q _=>⟨u,k b u q⟩
 tups:=fun b xs q=>by rw[aj (ai q hn)];exact q
 frzs:=fun b u xs q=>by rw[aj (ai q hn)];exact q
 tbls:=fun b ps q=>⟨#[],by rw[aj (ai q hn),q];simp⟩
theorem Un.write(mu:Mut (H x))(he:e=x∨H e=some (.own x))(k:∀b u,b≠e->h.get? b=some u->h'.get? b=some u)(heo:∃u,h'.get? e=some u):Un fs ex H (upd H x o) h h':=by
 have hx:∀b,H b=none->b≠x:=fun b n z=>by subst z;rw[n]at mu;exact mu
 have hb:∀b,H b=none->b≠e:=fun b n z=>by
  subst z;rcases he with r|r
  ·exact hx b n r
  ·rw[n]at r;cases r
 have hm:∀b u,H b=some u->¬ Mut (some u)->b≠x:=fun b u q nm z=>by subst z;rw[q]at mu;exact nm mu
 refine⟨fun b u q n _ _=>k b u (hb b n) q,fun b u q n _ _=>⟨u.slots,k b u (hb b n) q⟩,fun b u q n _=>by rw[aj (hx b n)];exact n,fun b u q _=>?_,
  fun b xs q=>by rw[aj (hm b _ q fun z=>z)];exact q,fun b u xs q=>by rw[aj (hm b _ q fun z=>z)];exact q,fun b ps q=>⟨#[],by rw[aj (hm b _ q fun z=>z),q];simp⟩⟩
 by_cases hbe:b=e
 ·subst hbe;exact heo
 ·exact⟨u,k b u hbe q⟩
end
def trk(h:Qg)(H:Hp):List dk:=(QF h.objs.size).filter fun a=>(H a).isSome
def yd(h:Qg)(H:Hp):Qg:=Uo h (trk h H)
theorem DV(h:Qg)(H:Hp):(yd h H).objs.size=h.objs.size:=PySem.W.hideAll_size _ _
theorem Iu{o:QM}(e:h.get? b=some o)(n:H b=none):(yd h H).get? b=some o:=
 Wx _ e fun hm=>by
  have q:(H b).isSome=true:=(QS.mp hm).2;rw[n]at q;simp at q
theorem Kd{o:QM}(e:(yd h H).get? b=some o):h.get? b=some o/\H b=none:=by
 have e':h.get? b=some o:=WD (trk h H) e;refine⟨e',?_⟩;cases q:H b with
 |none=>rfl
 |some x=>
  have hm:b∈trk h H:=QS.mpr ⟨RD.mpr (vc e'),by simp[q]⟩;have z:(yd h H).get? b=none:=Wb (trk h H) hm;rw[z]at e;cases e
structure Mod(K:cw)(mg:pe->Option cT)(base:Qg):Prop where
 kin:K.In base
 glob:base.Ns Qz mg
 blt:∃mb,base.Ns XG mb/\∀x:pe,x≠"__name__"->mb x=R8 x
 nolimit:base.NoLimit
structure Cx where
 prog:Qo
 w:Qu
 K:cw
 mg:pe->Option cT
 base:Qg
 A:QR
 N:List pe
 s₀:lr
 H₀:Hp
 env:S2
 outer:List S2
 stack:List S2
 ex:List dk
 fn:pe->Bool
 calm:Bool
 pn:List (dk×QM)
 xe:cT->lr->Prop
variable{w:Qu}{X:Cx}{N:List pe}{A:QR}{prog:Qo}{env:S2}{mg:pe->Option cT}{outer:List S2}
def frs(l:List S2):List dk:=l.filterMap (·.frame)
abbrev Cx.fs(X:Cx):List dk:=frs X.outer
variable{fs:List (pe×V)}
def Vis(sc:SU)(x:pe):Prop:=sc.names.lookup x=some .local∨sc.names.lookup x=some .cell∨sc.names.lookup x=some .free
def Loc(sc:SU)(x:pe):Prop:=sc.names.lookup x=some .local∨sc.names.lookup x=some .cell
def Look(env:S2)(h:Qg)(m:pe->Option cT)(x:pe)(u:cT):Prop:=
 (env.kindOf x=some .local/\m x=some u)∨((env.kindOf x=some .cell∨env.kindOf x=some .free)/\∃c,env.cells.lookup x=some c/\h.IsCell c (some u))
structure Cx.Ok(X:Cx):Prop where
 mod:Mod X.K X.mg X.base
 kind:X.env.scope.kind=.function
 glob:X.env.globals=Qz
 blt:X.env.builtins=XG
 above:X.s₀.heap.objs.size<=X.env.locals
 inj:∀x y c,X.env.cells.lookup x=some c->X.env.cells.lookup y=some c->x=y
 has:∀x,(X.env.kindOf x=some .cell∨X.env.kindOf x=some .free)->∃c,X.env.cells.lookup x=some c
 cab:∀x c,X.fn x=true->X.env.cells.lookup x=some c->X.s₀.heap.objs.size<=c
 hd:X.calm=true->X.A.handled=none
 frames:X.A.frames=some X.stack
 stk:X.stack=X.outer∨(X.stack=X.env::X.outer/\X.env.frame=some X.env.locals)
 exf:∀b∈X.ex,b≠X.env.locals/\∀x c,X.env.cells.lookup x=some c->c≠b
 bs:∀b o,X.base.get? b=some o->X.s₀.heap.get? b=some o/\X.H₀ b=none
 bsz:X.base.objs.size<=X.s₀.heap.objs.size
 noex:∀b o,X.base.get? b=some o->b∉X.ex
 exfs:∀b∈X.ex,b∉X.fs
 funs:X.s₀.heap.FunFrames X.base X.outer
 frf:∀b∈X.fs,X.H₀ b=none
structure Inv(X:Cx)(pins:List (dk×QM))(σ:List (Option V))(H:Hp)(s:lr):Prop where
 ok:X.Ok
 os:s.os=X.s₀.os
 bare:TK s.gens
 base:Un X.fs X.ex X.H₀ H X.s₀.heap s.heap
 loc:∃m,s.heap.Ns X.env.locals m/\∀(i:Nat) (x:pe) (v:V),X.N[i]?=some x->σ[i]?=some (some v)->Vis X.env.scope x->∃u,RelV v u/\Look X.env s.heap m x u
 cell:∀x c,X.env.cells.lookup x=some c->∃v,s.heap.IsCell c v
 free:H X.env.locals=none
 freeC:∀x c,X.env.cells.lookup x=some c->H c=none
 pin:∀p∈X.pn++pins,s.heap.get? p.1=some p.2/\H p.1=none/\p.1≠X.env.locals/\p.1∉X.fs/\∀v,p.2.data≠.cell v
 hok:HOk X.prog X.w H s.heap
 len:σ.length=X.N.length
section
variable{σ:List (Option V)}
theorem Cx.Ok.nofr(ok:X.Ok){o:QM}(e:X.base.get? b=some o):b∉X.fs:=fun hb=>by
 have:=(ok.funs.mem hb).1;rw[e]at this;cases this
theorem Inv.bs(I:Inv X pins σ H s):∀b o,X.base.get? b=some o->s.heap.get? b=some o/\H b=none:=fun b o e=>
 ⟨I.base.keep b o (I.ok.bs b o e).1 (I.ok.bs b o e).2 (I.ok.nofr e) (I.ok.noex b o e),I.base.free b o (I.ok.bs b o e).1 (I.ok.bs b o e).2 (I.ok.noex b o e)⟩
theorem Inv.bk(I:Inv X pins σ H s):∀b o,X.base.get? b=some o->s.heap.get? b=some o:=fun b o e=>(I.bs b o e).1
theorem Inv.mod(I:Inv X pins σ H s):Mod X.K X.mg X.base:=I.ok.mod
theorem Inv.kIn(I:Inv X pins σ H s):X.K.In s.heap:=I.ok.mod.kin.keeps I.bk
theorem Inv.lt(I:Inv X pins σ H s):X.env.locals<s.heap.objs.size:=let ⟨_,hn,_⟩:=I.loc;hn.lt
theorem Inv.sz(I:Inv X pins σ H s):X.s₀.heap.objs.size<=s.heap.objs.size:=QT I.ok.above (QG I.lt)
theorem Inv.nofs(I:Inv X pins σ H s)(h:s.heap.objs.size<=a):a∉X.fs:=fun hb=>by
 obtain⟨_,o,ho,_⟩:=I.ok.funs.mem hb;exact absurd (Qr (vc ho) (QT I.sz h)) (QD _)
theorem Inv.cne(I:Inv X pins σ H s):∀x c,X.env.cells.lookup x=some c->c≠X.env.locals:=fun x c e z=>by
 obtain⟨v,o,ho,hd⟩:=I.cell x c e;obtain⟨m,⟨o',es,ep,ho',hd',_⟩,_⟩:=I.loc;rw[z,ho']at ho;cases ho;rw[hd']at hd;cases hd
theorem Inv.funs(I:Inv X pins σ H s):s.heap.FunFrames X.base X.outer:=by
 have all:∀(l:List S2),(∀b∈frs l,b∈X.fs)->X.s₀.heap.FunFrames X.base l->s.heap.FunFrames X.base l:=by
  intro l
  induction l with
  |nil=>intro _ _;trivial
  |cons env r ih=>
   intro hs hl;obtain⟨hk,⟨L,o,hf,hn,ho,hd⟩,hr⟩:=hl;have hL:L∈X.fs:=hs L (by unfold frs;rw[Ti,hf];exact xl);obtain⟨sl,e⟩:=I.base.slot L o ho (I.ok.frf L hL) hL fun z=>I.ok.exfs L z hL;exact⟨hk,⟨L,_,hf,hn,e,hd⟩,ih (fun b hb=>hs b (by unfold frs;rw[Ti,hf];exact xj _ hb)) hr⟩
 exact all X.outer (fun _ hb=>hb) I.ok.funs
theorem Inv.stack(I:Inv X pins σ H s):s.heap.FunFrames X.base X.stack:=by
 rcases I.ok.stk with e|⟨e,hf⟩
 ·rw[e];exact I.funs
 ·rw[e];obtain⟨m,hn,_⟩:=I.loc;refine .cons (by rw[I.ok.kind];decide) hf hn ?_ I.funs;exact Wc (QT I.ok.bsz I.ok.above)
theorem Inv.stkSub(I:Inv X pins σ H s):∀b∈frs X.stack,b∈X.env.locals::X.fs:=fun b hb=>by
 rcases I.ok.stk with e|⟨e,hf⟩
 ·rw[e]at hb;exact xj _ hb
 ·rw[e]at hb;unfold frs at hb;rw[Ti,hf]at hb;exact hb
theorem Inv.stkFree(I:Inv X pins σ H s):∀b∈frs X.stack,H b=none:=fun b hb=>by
 rcases uc.mp (I.stkSub b hb)with e|hb
 ·rw[e];exact I.free
 ·obtain⟨_,o,ho,_⟩:=I.ok.funs.mem hb;exact I.base.free b o ho (I.ok.frf b hb) fun z=>I.ok.exfs b z hb
theorem Inv.step(I:Inv X pins σ H s)(hch:∀b∈ch,(b∈X.ex∨X.s₀.heap.objs.size<=b)/\b≠X.env.locals/\(∀x c,X.env.cells.lookup x=some c->c≠b)/\∀p∈X.pn++pins,p.1≠b)(keep:∀b o,b≠X.env.locals->b∉X.fs->b∉ch->s.heap.get? b=some o->H b=none->h'.get? b=some o)(slot:∀b o,b≠X.env.locals->b∈X.fs->b∉ch->s.heap.get? b=some o->H b=none->∃sl,h'.get? b=some {o with slots:=sl})(free:∀b o,b∉ch->s.heap.get? b=some o->H b=none->H' b=none)(there:∀b o,b∉ch->s.heap.get? b=some o->∃o',h'.get? b=some o')(tups:∀b xs,H b=some (.tup xs)->H' b=some (.tup xs))(frzs:∀b o u,H b=some (.frz o u)->H' b=some (.frz o u))(tbls:∀b ps,H b=some (.tbl ps)->∃more,H' b=some (.tbl (ps++more)))(ns:∀m,s.heap.Ns X.env.locals m->h'.Ns X.env.locals m)(hok:HOk X.prog X.w H' h')(hg:TK g'):
  Inv X pins σ H' {s with heap:=h',gens:=g',drawn:=d',toks:=t'}:=by
 have neL:∀b o,X.s₀.heap.get? b=some o->b≠X.env.locals:=fun b o e=>xy (Qr (vc e) I.ok.above);have neC:∀b o,X.s₀.heap.get? b=some o->b∉X.ex->b∉ch:=fun b o e hx hb=>by
  rcases(hch b hb).1 with z|z
  ·exact hx z
  ·exact absurd (Qr (vc e) z) (QD _)
 have cellK:∀x c,X.env.cells.lookup x=some c->∀v,s.heap.IsCell c v->h'.IsCell c v:=fun x c e v ⟨o,ho,hd⟩=>by
  have nch:c∉ch:=fun z=>(hch c z).2.2.1 x c e rfl;by_cases hc:c∈X.fs
  ·obtain⟨sl,q⟩:=slot c o (I.cne x c e) hc nch ho (I.freeC x c e);exact⟨_,q,hd⟩
  ·exact⟨o,keep c o (I.cne x c e) hc nch ho (I.freeC x c e),hd⟩
 refine⟨I.ok,I.os,hg,⟨fun b o e n hb hx=>?_,fun b o e n hb hx=>?_,fun b o e n hx=>?_,fun b o e hx=>?_,fun b xs e=>tups b xs (I.base.tups b xs e),fun b o xs e=>frzs b o xs (I.base.frzs b o xs e),fun b ps e=>?_⟩,?_,fun x c e=>?_,?_,fun x c e=>?_,fun p hp=>?_,hok,I.len⟩
 ·exact keep b o (neL b o e) hb (neC b o e hx) (I.base.keep b o e n hb hx) (I.base.free b o e n hx)
 ·obtain⟨sl,e1⟩:=I.base.slot b o e n hb hx;obtain⟨sl',e2⟩:=slot b _ (neL b o e) hb (neC b o e hx) e1 (I.base.free b o e n hx);exact⟨sl',e2⟩
 ·obtain⟨o',e1⟩:=I.base.there b o e hx;exact free b o' (neC b o e hx) e1 (I.base.free b o e n hx)
 ·obtain⟨o',e1⟩:=I.base.there b o e hx;exact there b o' (neC b o e hx) e1
 ·obtain⟨m1,e1⟩:=I.base.tbls b ps e;obtain⟨m2,e2⟩:=tbls b _ e1;exact⟨m1++m2,by rw[e2,WE]⟩
 ·obtain⟨m,hn,hl⟩:=I.loc;refine⟨m,ns m hn,fun i x v e1 e2 e3=>?_⟩;obtain⟨u,r,l⟩:=hl i x v e1 e2 e3;refine⟨u,r,?_⟩;rcases l with l|⟨k,c,e,z⟩
  ·exact .inl l
  ·exact .inr ⟨k,c,e,cellK x c e _ z⟩
 ·obtain⟨v,z⟩:=I.cell x c e;exact⟨v,cellK x c e v z⟩
 ·obtain⟨m,⟨o,_,_,ho,_⟩,_⟩:=I.loc;exact free _ o (fun z=>(hch _ z).2.1 rfl) ho I.free
 ·obtain⟨v,o,ho,hd⟩:=I.cell x c e;exact free c o (fun z=>(hch c z).2.2.1 x c e rfl) ho (I.freeC x c e)
 ·obtain⟨e,n,ne,nf,d⟩:=I.pin p hp;have nch:p.1∉ch:=fun z=>(hch p.1 z).2.2.2 p hp rfl;exact⟨keep p.1 p.2 ne nf nch e n,free p.1 p.2 nch e n,ne,nf,d⟩
theorem Inv.un(I:Inv X pins σ H s)(u:Un X.fs [] H H' s.heap h')(hok:HOk X.prog X.w H' h'):Inv X pins σ H' {s with heap:=h',toks:=t'}:=by
 obtain⟨m,⟨o,es,ep,ho,r⟩,_⟩:=id I.loc;obtain⟨sl,hL⟩:=u.any ho I.free (by simp);exact I.step (g':=s.gens) (d':=s.drawn) (ch:=[]) (fun _ z=>nomatch z) (fun b o _ hb _ e n=>u.keep b o e n hb (by simp)) (fun b o _ hb _ e n=>u.slot b o e n hb (by simp)) (fun b o _ e n=>u.free b o e n (by simp)) (fun b o _ e=>u.there b o e (by simp)) u.tups u.frzs u.tbls (fun m' hm=>by
  obtain⟨o',es',ep',ho',r'⟩:=hm;rw[ho]at ho';cases ho';exact⟨_,es',ep',hL,r'⟩) hok I.bare
theorem Inv.call(I:Inv X pins σ H s)(u:Un (frs X.stack) ch H H' s.heap h')(hok:HOk X.prog X.w H' h')(hg:TK g')(hch:∀b∈ch,(b∈X.ex∨X.s₀.heap.objs.size<=b)/\b≠X.env.locals/\(∀x c,X.env.cells.lookup x=some c->c≠b)/\∀p∈X.pn++pins,p.1≠b):
  Inv X pins σ H' {s with heap:=h',gens:=g',drawn:=d',toks:=t'}:=by
 obtain⟨m,⟨o,es,ep,ho,r⟩,_⟩:=id I.loc;obtain⟨sl,hL⟩:=u.any ho I.free fun z=>(hch _ z).2.1 rfl;exact I.step (ch:=ch) hch (fun b o hL hb hc e n=>u.keep b o e n (fun z=>(uc.mp (I.stkSub b z)).elim hL hb) hc) (fun b o _ _ hc e n=>u.any e n hc) (fun b o hc e n=>u.free b o e n hc) (fun b o hc e=>u.there b o e hc) u.tups u.frzs u.tbls (fun m' hm=>by
  obtain⟨o',es',ep',ho',r'⟩:=hm;rw[ho]at ho';cases ho';exact⟨_,es',ep',hL,r'⟩) hok hg
theorem Inv.turned(I:Inv X pins σ H s)(k:∀b o,b≠it->s.heap.get? b=some o->h'.get? b=some o)(hn:H it=none)(hL:it≠X.env.locals)(h1:it∈X.ex∨X.s₀.heap.objs.size<=it)(h2:∀x c,X.env.cells.lookup x=some c->c≠it)(h3:∀p∈X.pn++pins,p.1≠it):Inv X pins σ H {s with heap:=h',toks:=t'}:=by
 have nit:∀b u,H b=some u->b≠it:=fun b u e z=>by rw[z,hn]at e;cases e
 refine I.step (g':=s.gens) (d':=s.drawn) (ch:=[it]) (fun b hb=>?_) (fun b o _ _ hc e _=>k b o (fun z=>hc (by simp[z])) e) (fun b o _ _ hc e _=>⟨o.slots,k b o (fun z=>hc (by simp[z])) e⟩) (fun _ _ _ _ n=>n)
  (fun b o hc e=>⟨o,k b o (fun z=>hc (by simp[z])) e⟩) (fun _ _ e=>e) (fun _ _ _ e=>e) (fun b ps e=>⟨#[],by rw[e];simp⟩) (fun m hm=>?_) (fun b u e=>?_) I.bare
 ·have e:b=it:=by simpa using hb
  subst e;exact⟨h1,hL,h2,h3⟩
 ·obtain⟨o,es,ep,ho,r⟩:=hm;exact⟨o,es,ep,k _ o (QH hL) ho,r⟩
 ·refine(I.hok b u e).stay (fun c v hc q=>k c v ?_ q) (fun _ q=>q) fun _ _ q=>q;rcases hc with z|z
  ·rw[z];exact nit b u e
  ·exact nit c _ z
theorem Inv.tok(I:Inv X pins σ H s)(t:Nat):Inv X pins σ H {s with toks:=t}:=I.un (h':=s.heap) (t':=t) Un.refl I.hok
theorem Inv.kept(I:Inv X pins σ H s)(k:∀b u,s.heap.get? b=some u->h'.get? b=some u):Inv X pins σ H {s with heap:=h',toks:=t'}:=I.un (Un.kept k) (I.hok.kept k)
theorem Inv.laid(I:Inv X pins σ H s)(k:∀b u,s.heap.get? b=some u->h'.get? b=some u)(hp:s.heap.objs.size<=a)(new:ObjOk X.prog X.w (upd H a o) h' a o):
  Inv X pins σ (upd H a o) {s with heap:=h',toks:=t'}:=I.un (Un.laid k hp (I.hok.fresh hp)) (I.hok.laid k hp new)
theorem Inv.write{x e:dk}{o:HO}{t':Nat}(I:Inv X pins σ H s)(mu:Mut (H x))(he:e=x∨H e=some (.own x))(k:∀b u,b≠e->s.heap.get? b=some u->h'.get? b=some u)(heo:∃u,h'.get? e=some u)
  (new:ObjOk X.prog X.w (upd H x o) h' x o):Inv X pins σ (upd H x o) {s with heap:=h',toks:=t'}:=I.un (Un.write mu he k heo) (I.hok.write mu he k heo new)
theorem Inv.pins_of{pins':List (dk×QM)}(I:Inv X pins σ H s)(h:∀p∈pins',s.heap.get? p.1=some p.2/\H p.1=none/\p.1≠X.env.locals/\p.1∉X.fs/\∀v,p.2.data≠.cell v):Inv X pins' σ H s:=
 ⟨I.ok,I.os,I.bare,I.base,I.loc,I.cell,I.free,I.freeC,fun p hp=>(Qw.mp hp).elim (fun z=>I.pin p (Ro _ z)) (h p),I.hok,I.len⟩
theorem zg(hN:N.Nodup)(a:N[i]?=some x)(b:N[j]?=some x):i=j:=by
 obtain⟨h1,e1⟩:=pk.mp a;obtain⟨h2,e2⟩:=pk.mp b;exact(List.getElem_inj hN).mp (e1.trans e2.symm)
theorem vU{Q:Unit->lr->Prop}(I:Inv X pins σ H s)(hN:X.N.Nodup)(hi:X.N[i]?=some x)(hx:Loc X.env.scope x)(r:RelV v u)(h:∀s',Inv X pins (σ.set i (some v)) H s'->(∃a,Rf a s.heap s'.heap/\(a=X.env.locals∨X.env.cells.lookup x=some a))->Q () s')(hf:X.fn x=true∨X.env.scope.names.lookup x=some .local:=by first|exact .inl rfl|exact .inr rfl|assumption):ni M A (storeName X.env x u) Q E s:=by
 obtain⟨m,hn,hl⟩:=id I.loc;have hcls:(X.env.scope.kind==.class||(X.env.scope.kind==.module&&X.env.locals !=X.env.globals))=false:=by rw[I.ok.kind];rfl
 have hiσ:i<σ.length:=by rw[I.len];exact(pk.mp hi).1
 have cne:=I.cne;have tracked:∀{a:dk} {h':Qg},(∃o,s.heap.get? a=some o/\H a=none)->Rf a s.heap h'->HOk X.prog X.w H h':=fun{a h'} ha hs b ob e=>by
  obtain⟨_,_,hfree⟩:=ha;refine(I.hok b ob e).stay (fun c w' hc q=>(hs.2 c ?_).trans q) (fun _ q=>q) fun _ _ q=>q;rintro rfl;rcases hc with rfl|hc
  ·rw[hfree]at e;cases e
  ·rw[hfree]at hc;cases hc
 rcases hx with hk|hk
 ·refine wpAny_storeName_local hk hn (fun h' hn' hs=>?_) hcls;obtain⟨oL,_,_,hoL,_⟩:=id hn;refine h _ ⟨I.ok,I.os,I.bare,⟨fun b o e n hb hx=>?_,fun b o e n hb hx=>?_,I.base.free,fun b o e hx=>?_,I.base.tups,I.base.frzs,I.base.tbls⟩,⟨_,hn',fun j y v' e1 e2 e3=>?_⟩,fun y c e=>?_,I.free,I.freeC,fun p hp=>?_,tracked ⟨oL,hoL,I.free⟩ hs,by simpa using I.len⟩ ⟨_,hs,.inl rfl⟩
  ·exact(hs.2 b (xy (Qr (vc e) I.ok.above))).trans (I.base.keep b o e n hb hx)
  ·obtain⟨sl,e1⟩:=I.base.slot b o e n hb hx;exact⟨sl,(hs.2 b (xy (Qr (vc e) I.ok.above))).trans e1⟩
  ·obtain⟨o',e1⟩:=I.base.there b o e hx;exact⟨o',(hs.2 b (xy (Qr (vc e) I.ok.above))).trans e1⟩
  ·by_cases hj:j=i
   ·subst hj;rw[hi]at e1;cases e1;rw[VL hiσ]at e2;cases e2;exact⟨u,r,.inl ⟨hk,by simp⟩⟩
   ·rw[Wd (QH hj)]at e2;obtain⟨u',r',q⟩:=hl j y v' e1 e2 e3;refine⟨u',r',?_⟩;rcases q with⟨k,e⟩|⟨k,c,e,z⟩
    ·refine .inl ⟨k,?_⟩;have:y≠x:=fun e=>hj (zg hN e1 (e▸hi));simp[this,e]
    ·exact .inr ⟨k,c,e,z.sameBut hs (cne y c e)⟩
  ·obtain⟨w',z⟩:=I.cell y c e;exact⟨w',z.sameBut hs (cne y c e)⟩
  ·obtain⟨e,n,ne,nf,d⟩:=I.pin p hp;exact⟨(hs.2 p.1 ne).trans e,n,ne,nf,d⟩
 ·have hfn:X.fn x=true:=by
   rcases hf with z|z
   ·exact z
   ·rw[z]at hk;cases hk
  obtain⟨c,hc⟩:=I.ok.has x (.inl hk);obtain⟨w',z⟩:=I.cell x c hc;refine wpAny_storeName_cell I.ok.kind hk hc z (fun h' hc' hs=>?_);obtain⟨oc,hoc,hocd⟩:=id z;refine h {s with heap:=h'} ⟨I.ok,I.os,I.bare,⟨fun b o e n hb hx=>?_,fun b o e n hb hx=>?_,I.base.free,fun b o e hx=>?_,I.base.tups,I.base.frzs,I.base.tbls⟩,⟨m,hn.sameBut hs (QH (cne x c hc)),fun j y v' e1 e2 e3=>?_⟩,fun y c' e=>?_,I.free,I.freeC,fun p hp=>?_,tracked ⟨oc,hoc,I.freeC x c hc⟩ hs,by simpa using I.len⟩ ⟨c,hs,.inr hc⟩
  ·exact(hs.2 b (xy (Qr (vc e) (I.ok.cab x c hfn hc)))).trans (I.base.keep b o e n hb hx)
  ·obtain⟨sl,e1⟩:=I.base.slot b o e n hb hx;exact⟨sl,(hs.2 b (xy (Qr (vc e) (I.ok.cab x c hfn hc)))).trans e1⟩
  ·obtain⟨o',e1⟩:=I.base.there b o e hx;exact⟨o',(hs.2 b (xy (Qr (vc e) (I.ok.cab x c hfn hc)))).trans e1⟩
  ·by_cases hj:j=i
   ·subst hj;rw[hi]at e1;cases e1;rw[VL hiσ]at e2;cases e2;exact⟨u,r,.inr ⟨.inl hk,c,hc,hc'⟩⟩
   ·rw[Wd (QH hj)]at e2;obtain⟨u',r',q⟩:=hl j y v' e1 e2 e3;refine⟨u',r',?_⟩;rcases q with q|⟨k,c',e,z'⟩
    ·exact .inl q
    ·refine .inr ⟨k,c',e,z'.sameBut hs ?_⟩;rintro rfl;exact hj (zg hN e1 (I.ok.inj _ _ _ e hc▸hi))
  ·by_cases hcc:c'=c
   ·subst hcc;exact⟨_,hc'⟩
   ·obtain⟨w2,z2⟩:=I.cell y c' e;exact⟨w2,z2.sameBut hs hcc⟩
  ·obtain⟨e,n,ne,nf,d⟩:=I.pin p hp;refine⟨(hs.2 p.1 ?_).trans e,n,ne,nf,d⟩;intro q;rw[q,hoc]at e;have q':oc=p.2:=Qj e;exact d w' (by rw[←q'];exact hocd)
theorem z9{Q:Unit->lr->Prop}(I:Inv X pins σ H s)(hN:X.N.Nodup)(hi:X.N[i]?=some x)(hx:Loc X.env.scope x)(r:RelV v u)(h:∀s',Inv X pins (σ.set i (some v)) H s'->Q () s')(hf:X.fn x=true∨X.env.scope.names.lookup x=some .local:=by first|exact .inl rfl|exact .inr rfl|assumption):ni M A (storeName X.env x u) Q E s:=
 vU I hN hi hx r (fun s' I' _=>h s' I') hf
theorem Inv.call'(I:Inv X pins σ H s)(ho:s'.os=s.os)(u:Un (frs X.stack) ch H H' s.heap s'.heap)(hok:HOk X.prog X.w H' s'.heap)(hg:TK s'.gens)(hch:∀b∈ch,(b∈X.ex∨X.s₀.heap.objs.size<=b)/\b≠X.env.locals/\(∀x c,X.env.cells.lookup x=some c->c≠b)/\∀p∈X.pn++pins,p.1≠b):Inv X pins σ H' s':=by
 obtain⟨h',g',d',t',o'⟩:=s';have e:o'=s.os:=ho;subst e;exact I.call (g':=g') (t':=t') (d':=d') u hok hg hch
end
abbrev XK:=cT->Option dk->Hp->Prop
abbrev St:=List (Option V)
variable{σ:St}
abbrev VK:=V->Hp->Prop
abbrev TE:=St->Hp->VK->Prop
variable{ta tb te tv td ty:TE}
abbrev TT:=St->Hp->(Bool->Hp->Prop)->Prop
variable{tc:TT}
abbrev TA:=St->Hp->(List V->Hp->Prop)->Prop
structure Ends where
 nx:St->Hp->Prop
 rt:VK
 bk:St->Hp->Prop:=fun _ _=>False
 ct:St->Hp->Prop:=fun _ _=>False
variable{D:Ends}
abbrev TS:=Ends->St->Hp->Prop
def EP(X:Cx)(pins:List (dk×QM))(σ:St)(Q:VK)(u:cT)(s':lr):Prop:=∃v H',Inv X pins σ H' s'/\RelV v u/\Q v H'
def TP(X:Cx)(pins:List (dk×QM))(σ:St)(Q:Bool->Hp->Prop)(b:Bool)(s':lr):Prop:=∃H',Inv X pins σ H' s'/\Q b H'
def AP(X:Cx)(pins:List (dk×QM))(σ:St)(Q:List V->Hp->Prop)(us:List cT)(s':lr):Prop:=∃vs H',Inv X pins σ H' s'/\Vals vs us/\Q vs H'
def SP(X:Cx)(pins:List (dk×QM))(D:Ends)(f:Flow)(s':lr):Prop:=
 match f with
 | .next=>∃σ' H',Inv X pins σ' H' s'/\D.nx σ' H'
 | .brk=>∃σ' H',Inv X pins σ' H' s'/\D.bk σ' H'
 | .cont=>∃σ' H',Inv X pins σ' H' s'/\D.ct σ' H'
 | .ret u=>∃v σ' H',Inv X pins σ' H' s'/\RelV v u/\D.rt v H'
def PE(X:Cx)(e:QC)(t:TE):Prop:=
 ∀(pins:List (dk×QM)) (s:lr) (σ:St) (H:Hp) (Q:VK),Inv X pins σ H s->t σ H Q->ni (model X.prog X.w) X.A (eval e X.env) (EP X pins σ Q) X.xe s
def PT(X:Cx)(e:QC)(t:TT):Prop:=
 ∀(pins:List (dk×QM)) (s:lr) (σ:St) (H:Hp) (Q:Bool->Hp->Prop),Inv X pins σ H s->t σ H Q->ni (model X.prog X.w) X.A (isTrue e X.env (eval e X.env)) (TP X pins σ Q) X.xe s
def PW(X:Cx)(e:QC)(t:TT):Prop:=
 ∀(whole:Vd cT) (pins:List (dk×QM)) (s:lr) (σ:St) (H:Hp) (Q:Bool->Hp->Prop),Inv X pins σ H s->t σ H Q->ni (model X.prog X.w) X.A (isTrue e X.env whole) (TP X pins σ Q) X.xe s
theorem PW.pt{t:TT}(h:PW X e t):PT X e t:=h _
def PA(X:Cx)(es:List QC)(t:TA):Prop:=
 ∀(pos:Sz) (pins:List (dk×QM)) (s:lr) (σ:St) (H:Hp) (Q:List V->Hp->Prop),Inv X pins σ H s->t σ H Q->ni (model X.prog X.w) X.A (spliced (backTo pos (starEach es X.env))) (AP X pins σ Q) X.xe s
def PS(X:Cx)(st:QB)(t:TS):Prop:=
 ∀(pins:List (dk×QM)) (s:lr) (σ:St) (H:Hp) (D:Ends),Inv X pins σ H s->t D σ H->ni (model X.prog X.w) X.A (exec st X.env) (SP X pins D) X.xe s
def PSs(X:Cx)(st:List QB)(t:TS):Prop:=
 ∀(pins:List (dk×QM)) (s:lr) (σ:St) (H:Hp) (D:Ends),Inv X pins σ H s->t D σ H->ni (model X.prog X.w) X.A (execs st X.env) (SP X pins D) X.xe s
theorem thn{α:Type}{t:Vd α}{Q Q':α->lr->Prop}(h:ni M A t Q E s)(hQ:∀a s,Q a s->Q' a s):ni M A t Q' E s:=wpAny_mono h hQ fun _ _ x=>x
section
theorem bin{a b:QC}(ha:PE X a ta)(hb:PE X b tb)(I:Inv X pins σ H s)(h:ta σ H fun x H1=>tb σ H1 fun y H2=>R x y H2){α:Type}{Q:α->lr->Prop}{f:cT->cT->Vd α}(hf:∀v u s2 x y H2,Inv X pins σ H2 s2->RelV x v->RelV y u->R x y H2->ni (model X.prog X.w) X.A (f v u) Q X.xe s2):
  ni (model X.prog X.w) X.A (eval a X.env) (fun v s₁=>ni (model X.prog X.w) X.A (eval b X.env) (fun u s₂=>ni (model X.prog X.w) X.A (f v u) Q X.xe s₂) X.xe s₁) X.xe s:=by
 refine thn (ha pins s σ H _ I h) fun v s1 zz=>?_;obtain⟨x,H1,I1,r1,q1⟩:=zz;refine thn (hb pins s1 σ H1 _ I1 q1) fun u s2 zz=>?_;obtain⟨y,H2,I2,r2,q2⟩:=zz;exact hf v u s2 x y H2 I2 r1 r2 q2
def DY(i:Nat):TE:=fun σ H Q=>∃v,σ[i]?=some (some v)/\Q v H
def tC(v:V):TE:=fun _ H Q=>Q v H
theorem Mu(hN:X.N[i]?=some x)(hv:Vis X.env.scope x)(hd:(x==("__debug__":pe))=false:=by decide)(hcd:(x==("__classdict__":pe))=false:=by decide):PE X (.Name x pos) (DY i):=by
 intro pins s σ H Q I h;obtain⟨v,e,h⟩:=h;obtain⟨m,hn,hl⟩:=I.loc;obtain⟨u,r,l⟩:=hl i x v hN e hv;have fin:EP X pins σ Q u s:=⟨v,H,I,r,h⟩;rcases l with⟨hk,hm⟩|⟨hk,c,hc,hcell⟩
 ·exact XH (wpAny_loadName_local I.ok.kind hk hn hm fin) hd
 ·rcases hk with hk|hk
  ·exact XH (wpAny_loadName_cell I.ok.kind hk hc hcell fin) hd
  ·exact XH (wpAny_loadName_free I.ok.kind hk hc hcell fin hcd) hd
theorem aM{i j pos}:PE X (.Constant (.int i) j pos) (tC (.int i)):=fun _ _ _ H _ I h=>wpAny_Constant_int ⟨.int i,H,I.tok _,⟨_,rfl⟩,h⟩
theorem rN{b j pos}:PE X (.Constant (.bool b) j pos) (tC (.bl b)):=fun _ _ _ H _ I h=>Constant_bool ⟨.bl b,H,I,rfl,h⟩
theorem oU{j pos}:PE X (.Constant .none j pos) (tC .non):=fun _ _ _ H _ I h=>Constant_none ⟨.non,H,I,rfl,h⟩
theorem eu{x j pos}:PE X (.Constant (.str x) j pos) (tC (.str x)):=fun _ _ _ H _ I h=>Calls.Constant_str ⟨.str x,H,I.tok _,⟨_,rfl⟩,h⟩
def Gl(X:Cx)(x:pe):Prop:=X.env.kindOf x=some .globalImplicit
theorem mQ(I:Inv X pins σ H s)(hg:Gl X x)(hm:X.mg x=some u)(h:Q u s)(hd:(x==("__debug__":pe))=false:=by decide):ni (model X.prog X.w) X.A (eval (.Name x pos) X.env) Q E s:=
 US I.ok.kind hg (Calls.loadGlobal_global (by rw[I.ok.glob];exact I.mod.glob.keeps I.bk) hm h) hd
theorem my(I:Inv X pins σ H s)(hg:Gl X x)(hm:X.mg x=none)(hv:R8 x=some u)(h:Q u s)(hn:x≠"__name__":=by decide)(hd:(x==("__debug__":pe))=false:=by decide):ni (model X.prog X.w) X.A (eval (.Name x pos) X.env) Q E s:=by
 obtain⟨mb,h1,h2⟩:=I.mod.blt;exact US I.ok.kind hg (Calls.loadGlobal_builtin (by rw[I.ok.glob];exact I.mod.glob.keeps I.bk) hm (by rw[I.ok.blt];exact h1.keeps I.bk) ((h2 x hn).trans hv) h) hd
theorem Cp(hg:Gl X x)(hm:X.mg x=some u)(r:RelV v u)(hd:(x==("__debug__":pe))=false:=by decide):PE X (.Name x pos) (tC v):=
 fun _ _ _ H _ I h=>mQ I hg hm ⟨v,H,I,r,h⟩ hd
theorem Jz(hg:Gl X x)(hm:X.mg x=none)(hv:R8 x=some u)(r:RelV v u)(hn:x≠"__name__":=by decide)(hd:(x==("__debug__":pe))=false:=by decide):PE X (.Name x pos) (tC v):=
 fun _ _ _ H _ I h=>my I hg hm hv ⟨v,H,I,r,h⟩ hn hd
variable{a b:QC}
def PC(X:Cx)(op:XF)(a b:QC)(t:TE):Prop:=
 ∀(pins:List (dk×QM)) (s:lr) (σ:St) (H:Hp) (Q:VK),Inv X pins σ H s->t σ H Q->
  ni (model X.prog X.w) X.A (eval a X.env) (fun v s₁=>ni (model X.prog X.w) X.A (eval b X.env) (fun u s₂=>ni (model X.prog X.w) X.A (compareOp op v u) (EP X pins σ Q) X.xe s₂) X.xe s₁) X.xe s
def tB(t:TE):TT:=fun σ H Q=>t σ H fun x H1=>∃c,x=.bl c/\Q c H1
theorem Mv{t:TE}(h:PC X op a b t)(h1:T6 op b=false:=by first|exact nobehind _ (by decide) (by decide)|rfl):PT X (.Compare a [op] [b] pos) (tB t):=by
 intro pins s σ H Q I hw;refine VW (thn (h pins s σ H _ I hw) fun v s1 h1=>thn h1 fun u s2 h2=>thn h2 fun c s3 zz=>?_) h1;obtain⟨x,H1,I1,r1,q1⟩:=zz;obtain⟨d,rfl,q⟩:=q1;cases r1;exact wpAny_truthy_bool ⟨H1,I1,q⟩
variable{tA tB':TT}{rest:List QC}
def OW(t u:TT):TT:=fun σ H Q=>t σ H fun c H1=>if c=true then u σ H1 Q else Q false H1
def tOr(t u:TT):TT:=fun σ H Q=>t σ H fun c H1=>if c=true then Q true H1 else u σ H1 Q
def O5(t:TT):TT:=fun σ H Q=>t σ H fun c H1=>Q (!c) H1
theorem tf(ha:PT X a tA):PW X (.BoolOp .And [a] pos) tA:=by
 intro wh pins s σ H Q I h;refine isTrue_and (thn (ha pins s σ H Q I h) fun c s1 e=>?_);cases c with
 |true=>exact isTrue_and_nil e
 |false=>exact e
theorem vy(ha:PT X a tA):PW X (.BoolOp .Or [a] pos) tA:=by
 intro wh pins s σ H Q I h;refine isTrue_or (thn (ha pins s σ H Q I h) fun c s1 e=>?_);cases c with
 |false=>exact isTrue_or_nil e
 |true=>exact e
theorem xJ(ha:PT X a tA)(hb:PW X (.BoolOp .And (b::rest) pos) tB'):PW X (.BoolOp .And (a::b::rest) pos) (OW tA tB'):=by
 intro wh pins s σ H Q I h;refine isTrue_and (thn (ha pins s σ H _ I h) fun c s1 zz=>?_);obtain⟨H1,I1,q1⟩:=zz;cases c with
 |true=>exact hb wh pins s1 σ H1 Q I1 q1
 |false=>exact⟨H1,I1,q1⟩
theorem zI(ha:PT X a tA)(hb:PW X (.BoolOp .Or (b::rest) pos) tB'):PW X (.BoolOp .Or (a::b::rest) pos) (tOr tA tB'):=by
 intro wh pins s σ H Q I h;refine isTrue_or (thn (ha pins s σ H _ I h) fun c s1 zz=>?_);obtain⟨H1,I1,q1⟩:=zz;cases c with
 |true=>exact⟨H1,I1,q1⟩
 |false=>exact hb wh pins s1 σ H1 Q I1 q1
theorem jR(ha:PT X a tA):PT X (.UnaryOp .Not a pos) (O5 tA):=by
 intro pins s σ H Q I h;exact isTrue_not (ha pins s σ H (fun c H1=>Q (!c) H1) I h)
def Lm(ta tb:TE):TE:=fun σ H Q=>ta σ H fun x H1=>∃c,x=.bl c/\if c=true then tb σ H1 Q else Q (.bl false) H1
def OU(ta tb:TE):TE:=fun σ H Q=>ta σ H fun x H1=>∃c,x=.bl c/\if c=true then Q (.bl true) H1 else tb σ H1 Q
def KZ(ta:TE):TE:=fun σ H Q=>ta σ H fun x H1=>∃c,x=.bl c/\Q (.bl (!c)) H1
theorem lN{op}{t:TE}(h:PE X a t):PE X (.BoolOp op [a] pos) t:=fun pins s σ H Q I hw=>BoolOp_one (h pins s σ H Q I hw)
theorem oR(ha:PE X a ta)(hb:PE X (.BoolOp .And (b::rest) pos) tb):PE X (.BoolOp .And (a::b::rest) pos) (Lm ta tb):=by
 intro pins s σ H Q I h;refine BoolOp_and (thn (ha pins s σ H _ I h) fun v s1 zz=>?_);obtain⟨x,H1,I1,r1,q1⟩:=zz;obtain⟨c,rfl,q1⟩:=q1;cases r1;refine wpAny_truthy_bool ?_;cases c with
 |true=>exact hb pins s1 σ H1 Q I1 q1
 |false=>exact⟨.bl false,H1,I1,rfl,q1⟩
theorem NW(ha:PE X a ta)(hb:PE X (.BoolOp .Or (b::rest) pos) tb):PE X (.BoolOp .Or (a::b::rest) pos) (OU ta tb):=by
 intro pins s σ H Q I h;refine BoolOp_or (thn (ha pins s σ H _ I h) fun v s1 zz=>?_);obtain⟨x,H1,I1,r1,q1⟩:=zz;obtain⟨c,rfl,q1⟩:=q1;cases r1;refine wpAny_truthy_bool ?_;cases c with
 |false=>exact hb pins s1 σ H1 Q I1 q1
 |true=>exact⟨.bl true,H1,I1,rfl,q1⟩
theorem GU(ha:PE X a ta):PE X (.UnaryOp .Not a pos) (KZ ta):=by
 intro pins s σ H Q I h;refine UnaryOp_ (thn (ha pins s σ H _ I h) fun v s1 zz=>?_);obtain⟨x,H1,I1,r1,q1⟩:=zz;obtain⟨c,rfl,q1⟩:=q1;cases r1;exact not_of (wpAny_truthy_bool ⟨.bl (!c),H1,I1,rfl,q1⟩)
def tIf(t:TT)(ta tb:TE):TE:=fun σ H Q=>t σ H fun c H1=>if c=true then ta σ H1 Q else tb σ H1 Q
theorem uI(hc:PT X c tA)(ha:PE X a ta)(hb:PE X b tb):PE X (.IfExp c a b pos) (tIf tA ta tb):=by
 intro pins s σ H Q I h;refine wpAny_IfExp (thn (hc pins s σ H _ I h) fun d s1 zz=>?_);obtain⟨H1,I1,q1⟩:=zz;cases d with
 |true=>exact ha pins s1 σ H1 Q I1 q1
 |false=>exact hb pins s1 σ H1 Q I1 q1
end
def SqL(K:cw)(H:Hp)(a:dk)(xs:List V):Prop:=
 Rd H a (.lst xs)∨
  ∃(o:QM) (its:Array cT) (n:Nat),K.lookup a=some o/\o.cls=.type "list"/\o.dict=none/\o.data=.seq its n/\its.size<=sizeLine/\Vals xs its.toList
def SqT(K:cw)(H:Hp)(a:dk)(xs:List V):Prop:=
 Rd H a (.tup xs)∨
  ∃(o:QM) (its:Array cT) (n:Nat),K.lookup a=some o/\o.cls=.type "tuple"/\o.data=.seq its n/\its.size<=sizeLine/\Vals xs its.toList
def PU:cT->Option V
 | .none=>some .non
 | .bool b=>some (.bl b)
 | .int i _=>some (.int i)
 | .str x _=>some (.str x)
 | .bytes b _=>some (.byt b)
 | .float b _=>some (.flt b)
 | .ref a=>some (.ref a)
 | .type n=>some (.ty n)
 |_=>none
theorem RelV.abs{x:V}(r:RelV x u):PU u=some x:=by
 cases x with
 |non=>cases r;rfl
 |bl _=>cases r;rfl
 |int _=>obtain⟨t,rfl⟩:=r;rfl
 |str _=>obtain⟨t,rfl⟩:=r;rfl
 |byt _=>obtain⟨t,rfl⟩:=r;rfl
 |flt _=>obtain⟨t,rfl⟩:=r;rfl
 |ref _=>cases r;rfl
 |ty _=>cases r;rfl
theorem RelV.inj{x:V}(r:RelV x u)(q:RelV y u):x=y:=Qj (r.abs.symm.trans q.abs)
theorem Vals.inj:∀{xs ys:List V} {us:List cT},Vals xs us->Vals ys us->xs=ys
 |_,_,_,.nil,.nil=>rfl
 |_,_,_,.cons r t,.cons r' t'=>by rw[r.inj r',Vals.inj t t']
section
variable{xs ys:List V}
theorem SqL.of{K:cw}(h:H a=some (.lst xs)):SqL K H a xs:=.inl (.inl h)
theorem SqT.of{K:cw}(h:H a=some (.tup xs)):SqT K H a xs:=.inl (.inl h)
theorem Inv.list(I:Inv X pins σ H s)(h:SqL X.K H a xs):∃its:List cT,Vals xs its/\PlainL s.heap a its.toArray/\xs.length<=sizeLine:=by
 rcases h with h|⟨o,its,n,hk,hc,hd,hs,hz,r⟩
 ·obtain⟨z,its,n,r,e⟩:=h.ok I.hok;exact⟨its,r,⟨_,n,e,rfl,rfl,rfl⟩,z⟩
 ·refine⟨its.toList,r,⟨o,n,I.kIn a o hk,hc,hd,by simpa using hs⟩,?_⟩;have e:=r.length;simp only[QI]at e;omega
theorem Inv.tuple(I:Inv X pins σ H s)(h:SqT X.K H a xs):∃its:List cT,Vals xs its/\Yu s.heap a its.toArray/\xs.length<=sizeLine:=by
 rcases h with h|⟨o,its,n,hk,hc,hs,hz,r⟩
 ·obtain⟨z,its,r,p⟩:=h.ok I.hok;exact⟨its,r,p.tup,z⟩
 ·refine⟨its.toList,r,⟨o,I.kIn a o hk,hc,n,by simpa using hs⟩,?_⟩;have e:=r.length;simp only[QI]at e;omega
theorem Inv.list_inj(I:Inv X pins σ H s)(h:SqL X.K H a xs)(h':SqL X.K H a ys):xs=ys:=by
 obtain⟨its,r,⟨o,n,e,_,_,d⟩,_⟩:=I.list h;obtain⟨its',r',⟨o',n',e',_,_,d'⟩,_⟩:=I.list h';rw[e]at e';cases e';rw[d]at d';injection d' with d1 _;have:its=its':=by simpa using congrArg WG d1
 subst this;exact r.inj r'
theorem Inv.tuple_inj(I:Inv X pins σ H s)(h:SqT X.K H a xs)(h':SqT X.K H a ys):xs=ys:=by
 obtain⟨its,r,⟨o,e,_,n,d⟩,_⟩:=I.tuple h;obtain⟨its',r',⟨o',e',_,n',d'⟩,_⟩:=I.tuple h';rw[e]at e';cases e';rw[d]at d';injection d' with d1 _;have:its=its':=by simpa using congrArg WG d1
 subst this;exact r.inj r'
end
abbrev Cx.wish(X:Cx)(E:cT->lr->Prop):Cx:={X with xe:=E}
abbrev Cx.nox(X:Cx):Cx:=X.wish fun _ _=>False
theorem Cx.Ok.wish(ok:X.Ok)(E:cT->lr->Prop):(X.wish E).Ok:=
 ⟨ok.mod,ok.kind,ok.glob,ok.blt,ok.above,ok.inj,ok.has,ok.cab,ok.hd,ok.frames,ok.stk,ok.exf,ok.bs,ok.bsz,ok.noex,ok.exfs,ok.funs,ok.frf⟩
theorem Cx.Ok.unwish(ok:(X.wish E).Ok):X.Ok:=
 ⟨ok.mod,ok.kind,ok.glob,ok.blt,ok.above,ok.inj,ok.has,ok.cab,ok.hd,ok.frames,ok.stk,ok.exf,ok.bs,ok.bsz,ok.noex,ok.exfs,ok.funs,ok.frf⟩
section
theorem Inv.wish(I:Inv X pins σ H s)(E:cT->lr->Prop):Inv (X.wish E) pins σ H s:=⟨I.ok.wish E,I.os,I.bare,I.base,I.loc,I.cell,I.free,I.freeC,I.pin,I.hok,I.len⟩
theorem Inv.unwish(I:Inv (X.wish E) pins σ H s):Inv X pins σ H s:=⟨I.ok.unwish,I.os,I.bare,I.base,I.loc,I.cell,I.free,I.freeC,I.pin,I.hok,I.len⟩
theorem SP.unwish{f:Flow}(h:SP (X.wish E) pins D f s'):SP X pins D f s':=by
 cases f with
 |next=>obtain⟨σ',H',I,q⟩:=h;exact⟨σ',H',I.unwish,q⟩
 |brk=>obtain⟨σ',H',I,q⟩:=h;exact⟨σ',H',I.unwish,q⟩
 |cont=>obtain⟨σ',H',I,q⟩:=h;exact⟨σ',H',I.unwish,q⟩
 |ret u=>obtain⟨v,σ',H',I,r,q⟩:=h;exact⟨v,σ',H',I.unwish,r,q⟩
theorem PSs.nox{st:List QB}{t:TS}(h:PSs X.nox st t):PSs X st t:=fun pins s σ H D I hw=>
 wpAny_mono (h pins s σ H D (I.wish _) hw) (fun _ _ q=>q.unwish) fun _ _ z=>Rz z
end
section
variable{st:QB}{rest:List QB}{t u:TS}
def Cr:TS:=fun D σ H=>D.nx σ H
def kO(t u:TS):TS:=fun D σ H=>t {D with nx:=u D} σ H
theorem bS:PSs X [] Cr:=fun _ _ σ H _ I h=>Uq ⟨σ,H,I,h⟩
theorem ak(h1:PS X st t)(h2:PSs X rest u):PSs X (st::rest) (kO t u):=by
 intro pins s σ H D I h;refine Xj (thn (h1 pins s σ H {D with nx:=u D} I h) fun f s1 q=>?_);cases f with
 |next=>
  obtain⟨σ',H',I',q⟩:=q;exact h2 pins s1 σ' H' D I' q
 |ret v=>exact q
 |brk=>exact q
 |cont=>exact q
theorem ax(h1:PS X st t):PSs X [st] t:=by
 intro pins s σ H D I h;refine Xj (thn (h1 pins s σ H D I h) fun f s1 q=>?_);cases f with
 |next=>exact Uq q
 |ret v=>exact q
 |brk=>exact q
 |cont=>exact q
def F4:TS:=fun D σ H=>D.bk σ H
theorem HX:PS X (.Break pos) F4:=fun _ _ σ H _ I h=>wpAny_Break ⟨σ,H,I,h⟩
theorem Inv.quiet(I:Inv X pins σ H s):interactive X.env=false:=by simp[interactive,I.ok.kind]
def HB(te:TE):TS:=fun D σ H=>te σ H fun _ H1=>D.nx σ H1
theorem cH(he:PE X e te)(hs:Ue e none pos.line X.env=pure false:=by rfl):PS X (.Expr e pos) (HB te):=by
 intro pins s σ H D I h;exact wpAny_Expr_any (thn (he pins s σ H _ I h) fun v s1 ⟨x,H1,I1,r1,q1⟩=>⟨σ,H1,I1,q1⟩) I.quiet hs
def ML(te:TE):TS:=fun D σ H=>te σ H D.rt
theorem aL(he:PE X e te):PS X (.Return (some e) pos) (ML te):=by
 intro pins s σ H D I h;exact wpAny_Return_some (thn (he pins s σ H _ I h) fun v s1 ⟨x,H1,I1,r1,q1⟩=>⟨x,σ,H1,I1,r1,q1⟩)
def JZ(c:TT)(t u:TS):TS:=fun D σ H=>c σ H fun b H1=>if b=true then t D σ H1 else u D σ H1
theorem d7{a b:List QB}(hc:PT X c tc)(ha:PSs X a t)(hb:PSs X b u):PS X (.If c a b pos) (JZ tc t u):=by
 intro pins s σ H D I h;refine wpAny_If (thn (hc pins s σ H _ I h) fun d s1 zz=>?_);obtain⟨H1,I1,q1⟩:=zz;cases d with
 |true=>exact ha pins s1 σ H1 D I1 q1
 |false=>exact hb pins s1 σ H1 D I1 q1
def G1:TS:=fun _ _ _=>False
theorem zE:PS X st G1:=fun _ _ _ _ _ _ h=>h.elim
end
abbrev TG:=V->St->Hp->(St->Hp->Prop)->Prop
abbrev TGs:=List V->St->Hp->(St->Hp->Prop)->Prop
def PG(X:Cx)(target:QC)(t:TG):Prop:=
 ∀(pins:List (dk×QM)) (s:lr) (σ:St) (H:Hp) (v:V) (u:cT) (Q:St->Hp->Prop),Inv X pins σ H s->RelV v u->t v σ H Q->
  ni (model X.prog X.w) X.A (assign target X.env u) (fun _ s'=>∃σ' H',Inv X pins σ' H' s'/\Q σ' H') X.xe s
def PGs(X:Cx)(ts:List QC)(t:TGs):Prop:=
 ∀(pins:List (dk×QM)) (s:lr) (σ:St) (H:Hp) (vs:List V) (us:List cT) (Q:St->Hp->Prop),Inv X pins σ H s->Vals vs us->t vs σ H Q->
  ni (model X.prog X.w) X.A (assignInOrder ((assignEach ts X.env).map (·.2)) us) (fun _ s'=>∃σ' H',Inv X pins σ' H' s'/\Q σ' H') X.xe s
section
def uv(i:Nat):TG:=fun v σ H Q=>Q (σ.set i (some v)) H
theorem bg(hN:X.N.Nodup)(hi:X.N[i]?=some x)(hx:Loc X.env.scope x)(hf:X.fn x=true∨X.env.scope.names.lookup x=some .local:=by first|exact .inl rfl|exact .inr rfl|assumption):PG X (.Name x pos) (uv i):=by
 intro pins s σ H v u Q I r h;exact WZ (z9 I hN hi hx r (fun s' I'=>⟨_,H,I',h⟩) hf)
def MS:TGs:=fun vs σ H Q=>vs=[]/\Q σ H
def Dz(t:TG)(u:TGs):TGs:=fun vs σ H Q=>∃v r,vs=v::r/\t v σ H fun σ' H'=>u r σ' H' Q
theorem yq:PGs X [] MS:=by
 intro pins s σ H vs us Q I r h;obtain⟨e,h⟩:=h;subst e;cases r;exact assignInOrder_nil ⟨σ,H,I,h⟩
theorem jr{t:TG}{u:TGs}(h1:PG X e t)(h2:PGs X es u)(hs:(assignEach (e::es) X.env).map (·.2)=assign e X.env::(assignEach es X.env).map (·.2):=by rfl):PGs X (e::es) (Dz t u):=by
 intro pins s σ H vs us Q I r h;obtain⟨v,vr,e1,h⟩:=h;subst e1;cases r with
 |cons r rr=>
  rw[hs];refine assignInOrder_cons (thn (h1 pins s σ H _ _ _ I r h) fun _ s1 zz=>?_);obtain⟨σ1,H1,I1,q1⟩:=zz;exact h2 pins s1 σ1 H1 _ _ Q I1 rr q1
def Jg(K:cw)(n:Nat)(t:TGs):TG:=fun v σ H Q=>∃a xs,v=.ref a/\SqT K H a xs/\xs.length=n/\t xs σ H Q
theorem ND{t:TGs}(hc:X.calm=true)(h:PGs X es t)(hn:(assignEach es X.env).length=n:=by rfl)(hst:(assignEach es X.env).findIdx? (·.1)=none:=by rfl):PG X (.Tuple es k pos) (Jg X.K n t):=by
 intro pins s σ H v u Q I r hw;obtain⟨a,xs,e1,hq,hl,hw⟩:=hw;subst e1;cases r;obtain⟨its,rv,ht,hz⟩:=I.tuple hq;refine assign_Tuple_tuple (I.ok.hd hc) ht (by simp[hn,←hl,rv.length]) hst fun h' hx=>?_;have I1:Inv X pins σ H {s with heap:=h'}:=I.kept (t':=s.toks) fun b o e=>hx b o (xy (vc e)) e;exact h pins _ σ H xs _ Q I1 (by simpa using rv) hw
def J1(te:TE)(g:TG):TS:=fun D σ H=>te σ H fun x H1=>g x σ H1 D.nx
theorem aY(hN:X.N.Nodup)(hi:X.N[i]?=some x)(hx:Loc X.env.scope x)(he:PE X e te)(hs:Ue e (some (.Name x pos')) pos.line X.env=pure false:=by rfl)(hf:X.fn x=true∨X.env.scope.names.lookup x=some .local:=by first|exact .inl rfl|exact .inr rfl|assumption):
  PS X (.Assign [.Name x pos'] e pos) (J1 te (uv i)):=by
 intro pins s σ H D I h;refine wpAny_Assign_Name (thn (he pins s σ H _ I h) fun v s1 zz=>?_) hs;obtain⟨y,H1,I1,r1,q1⟩:=zz;exact z9 I1 hN hi hx r1 (fun s2 I2=>⟨_,H1,I2,q1⟩) hf
end
section
def Bh(c:TT)(tb:TS):TS:=fun D σ H=>∃W:Nat->St->Hp->Prop,(∃m,W m σ H)/\∀m σ H,W m σ H->
 c σ H fun b H1=>if b=true then∃N:St->Hp->Prop,(∀σ' H',N σ' H'->∃m',m'<m/\W m' σ' H')/\tb {D with nx:=N,ct:=N,bk:=D.nx} σ H1 else D.nx σ H1
theorem vg{tb:TS}(hp:PassesOwn (model X.prog X.w) X.A X.env X.xe)(hc:PT X c tc)(hb:PSs X body tb):PS X (.While c body [] pos) (Bh tc tb):=by
 intro pins s σ H D I h;obtain⟨W,⟨m0,w0⟩,turn⟩:=h;refine wpAny_While (codeAny_whileLoop (fun n s'=>∃σ' H',Inv X pins σ' H' s'/\W n σ' H') ?_ m0 ⟨σ,H,I,w0⟩);rintro n s1 ⟨σ1,H1,I1,w1⟩;refine Ss hp (thn (hc pins s1 σ1 H1 _ I1 (turn n σ1 H1 w1)) fun b s2 zz=>?_);obtain⟨H2,I2,q2⟩:=zz;cases b with
 |true=>
  obtain⟨N,hN,q2⟩:=q2;rw[if_pos rfl];refine Ss hp (thn (hb pins s2 σ1 H2 _ I2 q2) fun f s3 q3=>?_);cases f with
  |next=>
   obtain⟨σ3,H3,I3,n3⟩:=q3;obtain⟨m',hm,w3⟩:=hN σ3 H3 n3;exact⟨m',hm,σ3,H3,I3,w3⟩
  |cont=>
   obtain⟨σ3,H3,I3,n3⟩:=q3;obtain⟨m',hm,w3⟩:=hN σ3 H3 n3;exact⟨m',hm,σ3,H3,I3,w3⟩
  |brk=>exact q3
  |ret v=>exact q3
 |false=>
  rw[if_neg Qn];exact Uq ⟨σ1,H2,I2,q2⟩
end
structure It where
 go:Nat->Hp->Prop
 yld:Nat->Hp->V->Hp->Prop
 stop:Nat->Hp->Prop
def kE(X:Cx)(pins:List (dk×QM))(H:Hp)(b:dk):Prop:=
 H b=none/\b≠X.env.locals/\b∉X.fs/\(b∈X.ex∨X.s₀.heap.objs.size<=b)/\(∀x c,X.env.cells.lookup x=some c->c≠b)/\∀p∈X.pn++pins,p.1≠b
theorem Inv.fpOk(I:Inv X pins σ H s)(hb:s.heap.objs.size<=b)(hn:H' b=none):kE X pins H' b:=by
 refine⟨hn,RC (Qr I.lt hb),I.nofs hb,.inr (QT I.sz hb),fun x c e z=>?_,fun p hp z=>?_⟩
 ·obtain⟨v,q⟩:=I.cell x c e;exact absurd (Qr q.lt (by rw[z];exact hb)) (QD _)
 ·exact absurd (Qr (vc (I.pin p hp).1) (by rw[z];exact hb)) (QD _)
structure Turn(P:Qo)(w:Qu)(K:cw)(tg:QC)(J:It)(fp:List dk)(it:dk)(tn:Nat->Qg->Prop):Prop where
 mem:it∈fp
 obj:∀i h,tn i h->∀b∈fp,∃o,h.get? b=some o/\∀v,o.data≠.cell v
 keep:∀i h h',tn i h->(∀b∈fp,∀o,h.get? b=some o->h'.get? b=some o)->tn i h'
 item:∀(X:Cx),X.prog=P->X.w=w->X.K=K->X.calm=true->∀(i:Nat) (pins:List (dk×QM)) (s:lr) (σ:St) (H:Hp) (E:cT->lr->Prop),Inv X pins σ H s->(∀b∈fp,kE X pins H b)->tn i s.heap->J.go i H->
  ni (model P w) X.A (pyNext (.ref it)) (fun r s1=>∃u,r=some u/\
   ni (model P w) X.A (letOwnedTupleGo tg (.ref it) u) (fun _ s2=>∃x H',Inv X pins σ H' s2/\RelV x u/\J.yld i H x H'/\tn (i+ 1) s2.heap/\∀b∈fp,H' b=none) E s1) E s
 done:∀(X:Cx),X.prog=P->X.w=w->X.K=K->X.calm=true->∀(i:Nat) (pins:List (dk×QM)) (s:lr) (σ:St) (H:Hp) (E:cT->lr->Prop),Inv X pins σ H s->(∀b∈fp,kE X pins H b)->tn i s.heap->J.stop i H->
  ni (model P w) X.A (pyNext (.ref it)) (fun r s1=>r=none/\Inv X pins σ H s1) E s
 self:∀(A:QR) (i:Nat) (s:lr) (Q:cT->lr->Prop) (E:cT->lr->Prop),tn i s.heap->Q (.ref it) s->ni (model P w) A (pyIter (.ref it)) Q E s
abbrev TI:=St->Hp->(It->Hp->Prop)->Prop
def PIE(X:Cx)(pins:List (dk×QM))(σ:St)(tg:QC)(R:It->Hp->Prop)(itv:cT)(s2:lr):Prop:=
 ∃(it:dk) (fp:List dk) (tn:Nat->Qg->Prop) (J:It) (H':Hp),itv=.ref it/\Inv X pins σ H' s2/\Turn X.prog X.w X.K tg J fp it tn/\tn 0 s2.heap/\(∀b∈fp,kE X pins H' b)/\R J H'
def PI(X:Cx)(tg iter:QC)(wi:TI):Prop:=
 ∀(pins:List (dk×QM)) (s:lr) (σ:St) (H:Hp) (R:It->Hp->Prop),Inv X pins σ H s->wi σ H R->
  ni (model X.prog X.w) X.A (eval iter X.env) (fun v s1=>ni (model X.prog X.w) X.A (pyIter v) (PIE X pins σ tg R) X.xe s1) X.xe s
theorem DB{o:QM}{n:String}{vs:Array cT}{Q:Unit->lr->Prop}(ho:s.heap.get? it=some o)(hc:o.cls=.type n)(hd:o.data=.fields vs)(hn:["enumerate","zip","dict_itemiterator","dict_reverseitemiterator","odict_iterator","itertools.zip_longest","itertools.pairwise"].contains n=false)(hQ:Q () s):ni M A (letOwnedTupleGo tg (.ref it) u) Q E s:=by
 unfold letOwnedTupleGo;cases tg<;>first
  |exact wpAny_pure hQ
  |(cases u<;>first
    |exact wpAny_pure hQ
    |(refine wpAny_bind (wpAny_load ho ?_)
      rw[hc,hd];show ni M A (if(["enumerate","zip","dict_itemiterator","dict_reverseitemiterator","odict_iterator","itertools.zip_longest","itertools.pairwise"].contains n&&vs[0]?==some (rawInt _))=true then _ else _) Q E s;rw[if_neg (by intro h;rw[hn,SH]at h;cases h)];exact wpAny_pure hQ))
def Itl(K:cw)(a:dk):It:=
 ⟨fun i H=>∃xs x,SqL K H a xs/\xs[i]?=some x,fun i H x H'=>H'=H/\∀xs,SqL K H a xs->xs[i]?=some x,fun i H=>∃xs,SqL K H a xs/\xs.length<=i⟩
def Itt(K:cw)(a:dk):It:=
 ⟨fun i H=>∃xs x,SqT K H a xs/\xs[i]?=some x,fun i H x H'=>H'=H/\∀xs,SqT K H a xs->xs[i]?=some x,fun i H=>∃xs,SqT K H a xs/\xs.length<=i⟩
def Itr(lo:Int)(n:Nat):It:=⟨fun i _=>i<n,fun i H x H'=>H'=H/\x=.int (lo+ i),fun i _=>n<=i⟩
theorem vW{K:cw}(a it:dk):Turn P w K tg (Itl K a) [it] it (fun i h=>h.IsListIter it a i) where
 mem:=by simp
 obj:=fun i h st b hb=>by
  have e:b=it:=by simpa using hb
  subst e;obtain⟨o,e,c,d⟩:=st;exact⟨o,e,fun v z=>by rw[d]at z;cases z⟩
 keep:=fun i h h' st k=>st.at fun o e=>k it (by simp) o e
 item:=by
  intro X hP hw hK hc i pins s σ H E I hf st hg;subst hP hw hK;obtain⟨xs,x,hq,hx⟩:=hg;obtain⟨its,rv,p,hz⟩:=I.list hq;obtain⟨u,hu,ru⟩:=rv.get hx;obtain⟨f0,f1,f2,f3,f4,f5⟩:=hf it (by simp);refine wpAny_pyNext_list_item st p.isList (x:=u) (by simpa using hu) fun h' st' sb=>?_;have I1:Inv X pins σ H {s with heap:=h'}:=I.turned (t':=s.toks) (fun b o hb e=>(sb.2 b hb).trans e) f0 f1 f3 f4 f5;obtain⟨o,e,c,d⟩:=id st';exact⟨u,rfl,DB (s:={s with heap:=h'}) e c d (by decide) ⟨x,H,I1,ru,⟨rfl,fun ys hy=>by rw[I.list_inj hy hq];exact hx⟩,st',fun b hb=>(hf b hb).1⟩⟩
 done:=by
  intro X hP hw hK hc i pins s σ H E I hf st hg;subst hP hw hK;obtain⟨xs,hq,hx⟩:=hg;obtain⟨its,rv,p,hz⟩:=I.list hq;obtain⟨f0,f1,f2,f3,f4,f5⟩:=hf it (by simp);have hl:=rv.length;exact wpAny_pyNext_list_end (I.ok.hd hc) st p.isList (by simp;omega) fun h' eb=>⟨rfl,I.turned (t':=s.toks) (fun b o hb e=>eb b o hb e) f0 f1 f3 f4 f5⟩
 self:=fun _ _ _ _ _ st h=>wpAny_pyIter_listiter st h
theorem AM{K:cw}(a it:dk):Turn P w K tg (Itt K a) [it] it (fun i h=>h.IsTupleIter it a i) where
 mem:=by simp
 obj:=fun i h st b hb=>by
  have e:b=it:=by simpa using hb
  subst e;obtain⟨o,e,c,d⟩:=st;exact⟨o,e,fun v z=>by rw[d]at z;cases z⟩
 keep:=fun i h h' st k=>st.at fun o e=>k it (by simp) o e
 item:=by
  intro X hP hw hK hc i pins s σ H E I hf st hg;subst hP hw hK;obtain⟨xs,x,hq,hx⟩:=hg;obtain⟨its,rv,p,hz⟩:=I.tuple hq;obtain⟨u,hu,ru⟩:=rv.get hx;obtain⟨f0,f1,f2,f3,f4,f5⟩:=hf it (by simp);refine wpAny_pyNext_tuple_item st (show s.heap.IsTuple a its.toArray from p) (x:=u) (by simpa using hu) fun h' st' sb=>?_;have I1:Inv X pins σ H {s with heap:=h'}:=I.turned (t':=s.toks) (fun b o hb e=>(sb.2 b hb).trans e) f0 f1 f3 f4 f5;obtain⟨o,e,c,d⟩:=id st';exact⟨u,rfl,DB (s:={s with heap:=h'}) e c d (by decide) ⟨x,H,I1,ru,⟨rfl,fun ys hy=>by rw[I.tuple_inj hy hq];exact hx⟩,st',fun b hb=>(hf b hb).1⟩⟩
 done:=by
  intro X hP hw hK hc i pins s σ H E I hf st hg;subst hP hw hK;obtain⟨xs,hq,hx⟩:=hg;obtain⟨its,rv,p,hz⟩:=I.tuple hq;obtain⟨f0,f1,f2,f3,f4,f5⟩:=hf it (by simp);have hl:=rv.length;exact wpAny_pyNext_tuple_end (I.ok.hd hc) st (show s.heap.IsTuple a its.toArray from p) (by simp;omega) fun h' eb=>⟨rfl,I.turned (t':=s.toks) (fun b o hb e=>eb b o hb e) f0 f1 f3 f4 f5⟩
 self:=fun _ _ _ _ _ st h=>wpAny_pyIter_tupleiter st h
theorem Bx{K:cw}(it:dk)(lo:Int)(n:Nat):Turn P w K tg (Itr lo n) [it] it (fun i h=>IsRangeIter h it (lo+ (i:Nat)*1) ((n:Int)-(i:Nat)) 1) where
 mem:=by simp
 obj:=fun i h st b hb=>by
  have e:b=it:=by simpa using hb
  subst e;exact⟨_,st,fun v z=>by
   have z':Data.fields _=Data.cell v:=z;cases z'⟩
 keep:=fun i h h' st k=>k it (by simp) _ st
 item:=by
  intro X hP hw hK hc i pins s σ H E I hf st hg;subst hP hw hK;obtain⟨f0,f1,f2,f3,f4,f5⟩:=hf it (by simp);have W:=Walks.range (prog:=X.prog) (w:=X.w) (I.ok.hd hc) it lo 1 n;refine W.item i s _ _ hg st fun v h' tk hv st' kk=>?_;obtain⟨t,rfl⟩:=hv;have I1:Inv X pins σ H {s with heap:=h',toks:=tk}:=I.turned (fun b o hb e=>kk b o (by simpa using hb) e) f0 f1 f3 f4 f5;refine⟨_,rfl,DB (s:={s with heap:=h',toks:=tk}) (n:="range_iterator") st' rfl rfl (by decide) ⟨.int (lo+ i),H,I1,⟨t,?_⟩,⟨rfl,rfl⟩,st',fun b hb=>(hf b hb).1⟩⟩;rw[Int.mul_one]
 done:=by
  intro X hP hw hK hc i pins s σ H E I hf st hg;subst hP hw hK;obtain⟨f0,f1,f2,f3,f4,f5⟩:=hf it (by simp);exact wpAny_pyNext_range_end (I.ok.hd hc) st (by have:n<=i:=hg;omega) fun h' eb=>⟨rfl,I.turned (t':=s.toks) (fun b o hb e=>eb b o hb e) f0 f1 f3 f4 f5⟩
 self:=fun _ _ _ _ _ st h=>wpAny_pyIter_rangeiter st h
section
def FJ(K:cw)(tl:TE):TI:=fun σ H R=>tl σ H fun x H1=>∃a,x=.ref a/\(∃xs,SqL K H1 a xs)/\R (Itl K a) H1
theorem Jm{l:QC}{tl:TE}(hl:PE X l tl):PI X tg l (FJ X.K tl):=by
 intro pins s σ H R I h;refine thn (hl pins s σ H _ I h) fun v s1 zz=>?_;obtain⟨x,H1,I1,r1,q1⟩:=zz;obtain⟨a,e,⟨xs,hq⟩,q⟩:=q1;subst e;cases r1;obtain⟨its,rv,p,hz⟩:=I1.list hq;refine wpAny_pyIter_list p.isList ?_;refine⟨s1.heap.objs.size,[s1.heap.objs.size],_,_,H1,rfl,I1.kept (t':=s1.toks) fun b o e=>gf _ e,vW a _,⟨_,rl _ rfl,rfl,rfl⟩,fun b hb=>?_,q⟩;have e:b=s1.heap.objs.size:=by simpa using hb
 subst e;exact I1.fpOk (oh _) (I1.hok.fresh (oh _))
theorem HD{R:It->Hp->Prop}{lo hi:Int}{t u v:TQ}{tk:Nat}(I:Inv X pins σ H s)(h1:-(2^62)<=lo)(h2:lo<2^62)(h3:-(2^62)<=hi)(h4:hi<2^62)(q:R (Itr lo (hi-lo).toNat) H):ni (model X.prog X.w) X.A (pyIter (.ref s.heap.objs.size)) (PIE X pins σ tg R) E {s with heap:=s.heap.push {cls:=.type "range",data:=.fields #[.int lo t,.int hi u,.int 1 v]},toks:=tk}:=by
 refine wpAny_pyIter_range (IsRange.new ..) (small_one h1 h2 h3 h4) ?_;have I1:Inv X pins σ H {s with heap:=s.heap.push {cls:=.type "range",data:=.fields #[.int lo t,.int hi u,.int 1 v]},toks:=tk}:=I.kept fun b o e=>gf _ e;refine⟨(s.heap.push {cls:=.type "range",data:=.fields #[.int lo t,.int hi u,.int 1 v]}).objs.size,[(s.heap.push {cls:=.type "range",data:=.fields #[.int lo t,.int hi u,.int 1 v]}).objs.size],_,_,H,rfl,
  I1.kept (t':=tk) fun b o e=>gf _ e,Bx _ lo (hi-lo).toNat,?_,fun b hb=>?_,q⟩
 ·have e1:lo+ ((0:Nat):Int)*1=lo:=by simp
  have e2:(((hi-lo).toNat:Nat):Int)-((0:Nat):Int)=Builtin.Range.rangeSize lo hi 1:=by rw[rangeSize_one];split<;>omega
  show IsRangeIter _ _ (lo+ ((0:Nat):Int)*1) ((((hi-lo).toNat:Nat):Int)-((0:Nat):Int)) 1;rw[e1,e2];exact rl _ rfl
 ·have e:b=(s.heap.push {cls:=.type "range",data:=.fields #[.int lo t,.int hi u,.int 1 v]}).objs.size:=by simpa using hb
  subst e;exact I1.fpOk (oh _) (I1.hok.fresh (oh _))
def O2(ta:TA):TI:=fun σ H R=>ta σ H fun vs H1=>∃j:Int,vs=[.int j]/\-(2^62)<=j/\j<2^62/\R (Itr 0 j.toNat) H1
theorem Ed{a:QC}{ta:TA}(hg:Gl X "range")(hm:X.mg "range"=none)(ha:PA X [a] ta)(hs:starEach [a] X.env=[(false,eval a X.env)]:=by rfl):PI X tg (.Call (.Name "range" p) [a] [] pos) (O2 ta):=by
 intro pins s σ H R I h;refine Call_ (my I hg hm boot_range (S7 (thn (ha pos pins s σ H _ I h) fun us s1 zz=>?_) hs rfl));obtain⟨vs,H1,I1,r1,q1⟩:=zz;obtain⟨j,e,q1,q2,q⟩:=q1;subst e;cases r1 with
 |cons r rr=>
  cases rr;obtain⟨t,rfl⟩:=r;exact call_range_1 (HD I1 (by omega) (by omega) q1 q2 (by simpa using q))
def Kb(wi:TI)(g:TG)(tb:TS):TS:=fun D σ H=>wi σ H fun J H1=>∃W:Nat->Nat->St->Hp->Prop,(∃m,W 0 m σ H1)/\∀i m σ H,W i m σ H->
 (J.stop i H/\D.nx σ H)∨(J.go i H/\∃N:St->Hp->Prop,(∀σ' H',N σ' H'->∃m',m'<m/\W (i+ 1) m' σ' H')/\∀x H',J.yld i H x H'->g x σ H' fun σ2 H2=>tb {D with nx:=N,ct:=N,bk:=D.nx} σ2 H2)
def qC(fp:List dk)(h:Qg):List (dk×QM):=fp.filterMap fun b=>(h.get? b).map fun o=>(b,o)
theorem fc{o:QM}(hb:b∈fp)(e:h.get? b=some o):(b,o)∈qC fp h:=Tt.mpr ⟨b,hb,by rw[e];rfl⟩
theorem E7{p:dk×QM}(hp:p∈qC fp h):p.1∈fp/\h.get? p.1=some p.2:=by
 obtain⟨b,hb,e⟩:=Tt.mp hp;cases q:h.get? b with
 |none=>rw[q]at e;cases e
 |some o=>
  rw[q]at e;have e':(b,o)=p:=Qj e;subst e';exact⟨hb,q⟩
theorem Inv.pinned(I:Inv X pins σ H s)(hf:∀b∈fp,kE X pins H b)(ho:∀b∈fp,∃o,s.heap.get? b=some o/\∀v,o.data≠.cell v):Inv X (pins++qC fp s.heap) σ H s:=
 I.pins_of fun p hp=>(Qw.mp hp).elim (fun z=>I.pin p (Qi _ z)) fun z=>by
  obtain⟨hb,e⟩:=E7 z;obtain⟨f0,f1,f2,_⟩:=hf p.1 hb;obtain⟨o,e',d⟩:=ho p.1 hb;rw[e]at e';cases e';exact⟨e,f0,f1,f2,d⟩
theorem Inv.unpinned{pl:List (dk×QM)}(I:Inv X (pins++pl) σ H s):Inv X pins σ H s:=I.pins_of fun p hp=>I.pin p (Qi _ (Ro _ hp))
theorem vp{iter:QC}{wi:TI}{g:TG}{tb:TS}(hp:PassesOwn (model X.prog X.w) X.A X.env X.xe)(hc:X.calm=true)(hi:PI X tg iter wi)(hg:PG X tg g)(hb:PSs X body tb)(hs:∀x,foldedSetIterable iter X.env x=pure x:=by intro _;rfl):PS X (.For tg iter body [] pos) (Kb wi g tb):=by
 intro pins s σ H D I h;refine wpAny_For (thn (hi pins s σ H _ I h) fun v s1 h1=>thn h1 fun itv s2 h2=>?_) hs;obtain⟨it,fp,tn,J,H2,e,I2,T,st2,f2,W,⟨m0,w0⟩,turn⟩:=h2;subst e
 -- what stays true of the iterator's objects through the loop
 have stat:∀{H':Hp},(∀b∈fp,H' b=none)->∀b∈fp,kE X pins H' b:=fun hn b hb=>⟨hn b hb,(f2 b hb).2⟩;refine codeAny_forLoop_any (fun n s'=>∃i σ' H',Inv X pins σ' H' s'/\tn i s'.heap/\(∀b∈fp,H' b=none)/\W i n σ' H') ?_ m0 ⟨0,σ,H2,I2,st2,fun b hb=>(f2 b hb).1,w0⟩;rintro n s3 ⟨i,σ3,H3,I3,st3,fr3,w3⟩;rcases turn i n σ3 H3 w3 with⟨stop,qn⟩|⟨go,N,hN,step⟩
 ·refine Ss hp (thn (T.done X rfl rfl rfl hc i pins s3 σ3 H3 X.xe I3 (stat fr3) st3 stop) fun r s4 zz=>?_);obtain⟨hr,I4⟩:=zz;subst hr;exact Uq ⟨σ3,H3,I4,qn⟩
 ·refine Ss hp (thn (T.item X rfl rfl rfl hc i pins s3 σ3 H3 X.xe I3 (stat fr3) st3 go) fun r s4 zz=>?_);obtain⟨u,hr,h4⟩:=zz;subst hr;refine Ss hp (thn h4 fun _ s5 zz=>?_);obtain⟨x,H5,I5,r5,y5,st5,fr5⟩:=zz;have I5':=I5.pinned (stat fr5) (T.obj _ _ st5);refine Ss hp (thn (hg _ s5 σ3 H5 x u _ I5' r5 (step x H5 y5)) fun _ s6 zz=>?_);obtain⟨σ6,H6,I6,q6⟩:=zz;refine Ss hp (thn (hb _ s6 σ6 H6 _ I6 q6) fun f s7 q7=>?_);have again:∀{σ7:St} {H7:Hp},Inv X (pins++qC fp s5.heap) σ7 H7 s7->N σ7 H7->∃m,m<n/\∃i σ' H',Inv X pins σ' H' s7/\tn i s7.heap/\(∀b∈fp,H' b=none)/\W i m σ' H':=fun{σ7 H7} I7 n7=>by
   obtain⟨m',hm,w7⟩:=hN σ7 H7 n7;refine⟨m',hm,i+ 1,σ7,H7,I7.unpinned,T.keep _ _ _ st5 fun b hb o e=>(I7.pin (b,o) (Qi _ (Qi _ (fc hb e)))).1,fun b hb=>?_,w7⟩;obtain⟨o,e,d⟩:=T.obj _ _ st5 b hb;exact(I7.pin (b,o) (Qi _ (Qi _ (fc hb e)))).2.1
  cases f with
  |next=>obtain⟨σ7,H7,I7,n7⟩:=q7;exact again I7 n7
  |cont=>obtain⟨σ7,H7,I7,n7⟩:=q7;exact again I7 n7
  |brk=>obtain⟨σ7,H7,I7,q7⟩:=q7;exact⟨σ7,H7,I7.unpinned,q7⟩
  |ret v=>obtain⟨x7,σ7,H7,I7,r7,q7⟩:=q7;exact⟨x7,σ7,H7,I7.unpinned,r7,q7⟩
end
theorem lU{K:cw}{xs:List V}{g:TG}{tb:TS}(Pv:Nat->St->Hp->Prop)(h0:Pv 0 σ H)(hl:∀i σ H,i<=xs.length->Pv i σ H->SqL K H a xs)(hs:∀i x σ H,xs[i]?=some x->Pv i σ H->g x σ H fun σ2 H2=>tb {D with nx:=Pv (i+ 1),ct:=Pv (i+ 1),bk:=D.nx} σ2 H2)(hd:∀σ H,Pv xs.length σ H->D.nx σ H):
  ∃W:Nat->Nat->St->Hp->Prop,(∃m,W 0 m σ H)/\∀i m σ H,W i m σ H->
   ((Itl K a).stop i H/\D.nx σ H)∨((Itl K a).go i H/\∃N:St->Hp->Prop,(∀σ' H',N σ' H'->∃m',m'<m/\W (i+ 1) m' σ' H')/\∀x H',(Itl K a).yld i H x H'->g x σ H' fun σ2 H2=>tb {D with nx:=N,ct:=N,bk:=D.nx} σ2 H2):=by
 refine⟨fun i m σ H=>m=xs.length-i/\i<=xs.length/\Pv i σ H,⟨xs.length,by simp,Qt _,h0⟩,?_⟩;rintro i m σ H ⟨rfl,hi,p⟩;have q:=hl i σ H hi p;by_cases hlt:i<xs.length
 ·refine .inr ⟨⟨xs,xs[i],q,by simp[hlt]⟩,Pv (i+ 1),fun σ' H' p'=>⟨xs.length-(i+ 1),by omega,rfl,hlt,p'⟩,fun x H' y=>?_⟩;obtain⟨e,y⟩:=y;subst e;exact hs i x σ _ (y xs q) p
 ·have e:i=xs.length:=by omega
  subst e;exact .inl ⟨⟨xs,q,oh _⟩,hd σ H p⟩
theorem KA{K:cw}{xs:List V}{g:TG}{tb:TS}(Pv:Nat->St->Hp->Prop)(h0:Pv 0 σ H)(hl:∀i σ H,i<=xs.length->Pv i σ H->SqT K H a xs)(hs:∀i x σ H,xs[i]?=some x->Pv i σ H->g x σ H fun σ2 H2=>tb {D with nx:=Pv (i+ 1),ct:=Pv (i+ 1),bk:=D.nx} σ2 H2)(hd:∀σ H,Pv xs.length σ H->D.nx σ H):
  ∃W:Nat->Nat->St->Hp->Prop,(∃m,W 0 m σ H)/\∀i m σ H,W i m σ H->
   ((Itt K a).stop i H/\D.nx σ H)∨((Itt K a).go i H/\∃N:St->Hp->Prop,(∀σ' H',N σ' H'->∃m',m'<m/\W (i+ 1) m' σ' H')/\∀x H',(Itt K a).yld i H x H'->g x σ H' fun σ2 H2=>tb {D with nx:=N,ct:=N,bk:=D.nx} σ2 H2):=by
 refine⟨fun i m σ H=>m=xs.length-i/\i<=xs.length/\Pv i σ H,⟨xs.length,by simp,Qt _,h0⟩,?_⟩;rintro i m σ H ⟨rfl,hi,p⟩;have q:=hl i σ H hi p;by_cases hlt:i<xs.length
 ·refine .inr ⟨⟨xs,xs[i],q,by simp[hlt]⟩,Pv (i+ 1),fun σ' H' p'=>⟨xs.length-(i+ 1),by omega,rfl,hlt,p'⟩,fun x H' y=>?_⟩;obtain⟨e,y⟩:=y;subst e;exact hs i x σ _ (y xs q) p
 ·have e:i=xs.length:=by omega
  subst e;exact .inl ⟨⟨xs,q,oh _⟩,hd σ H p⟩
abbrev R2:=V->V->Hp->VK->Prop
variable{r:R2}
def OpR(X:Cx)(f:cT->cT->Vd cT)(r:R2):Prop:=
 ∀(pins:List (dk×QM)) (s:lr) (σ:St) (H:Hp) (x y:V) (v u:cT) (Q:VK),Inv X pins σ H s->RelV x v->RelV y u->r x y H Q->
  ni (model X.prog X.w) X.A (f v u) (EP X pins σ Q) X.xe s
def cE(X:Cx)(f:cT)(r:List V->Hp->VK->Prop):Prop:=
 ∀(pins:List (dk×QM)) (s:lr) (σ:St) (H:Hp) (xs:List V) (us:List cT) (Q:VK),Inv X pins σ H s->Vals xs us->r xs H Q->
  ni (model X.prog X.w) X.A (call f us) (EP X pins σ Q) X.xe s
def PM(X:Cx)(r:V->Hp->(Bool->Hp->Prop)->Prop):Prop:=
 ∀(pins:List (dk×QM)) (s:lr) (σ:St) (H:Hp) (x:V) (v:cT) (Q:Bool->Hp->Prop),Inv X pins σ H s->RelV x v->r x H Q->
  ni (model X.prog X.w) X.A (truthy v) (TP X pins σ Q) X.xe s
def tOp(r:R2)(ta tb:TE):TE:=fun σ H Q=>ta σ H fun x H1=>tb σ H1 fun y H2=>r x y H2 Q
def rI(C:Int->Int->Prop)(g:Int->Int->V):R2:=fun x y H Q=>∃i j,x=.int i/\y=.int j/\C i j/\Q (g i j) H
def rI0(g:Int->Int->V):R2:=fun x y H Q=>∃i j,x=.int i/\y=.int j/\Q (g i j) H
section
variable{a b:QC}{tc:TE}
theorem Md(ha:PE X a ta)(hb:PE X b tb)(I:Inv X pins σ H s)(h:ta σ H fun x H1=>tb σ H1 fun y H2=>R x y H2)(hf:∀v u s2 x y H2,Inv X pins σ H2 s2->RelV x v->RelV y u->R x y H2->ni (model X.prog X.w) X.A (f v u) Q X.xe s2):
  ni (model X.prog X.w) X.A (eval a X.env) (fun v s₁=>ni (model X.prog X.w) X.A (eval b X.env) (fun u s₂=>ni (model X.prog X.w) X.A (f v u) Q X.xe s₂) X.xe s₁) X.xe s:=by
 refine thn (ha pins s σ H _ I h) fun v s1 zz=>?_;obtain⟨x,H1,I1,r1,q1⟩:=zz;refine thn (hb pins s1 σ H1 _ I1 q1) fun u s2 zz=>?_;obtain⟨y,H2,I2,r2,q2⟩:=zz;exact hf v u s2 x y H2 I2 r1 r2 q2
theorem bH{op:Operator}(ho:OpR X (binaryOp op) r)(ha:PE X a ta)(hb:PE X b tb):PE X (.BinOp a op b pos) (tOp r ta tb):=by
 intro pins s σ H Q I h;exact wpAny_BinOp (Md ha hb I h fun v u s2 x y H2 I2 rx ry q=>ho pins s2 σ H2 x y v u Q I2 rx ry q)
theorem opI{C:Int->Int->Prop}(rule:∀(i j:Int) (t u:TQ) (s:lr) (Q:cT->lr->Prop) (E:cT->lr->Prop),C i j->Q (.int (g i j) s.toks) {s with toks:=s.toks+ 1}->ni (model X.prog X.w) X.A (f (.int i t) (.int j u)) Q E s):
  OpR X f (rI C fun i j=>.int (g i j)):=by
 intro pins s σ H x y v u Q I rx ry h;obtain⟨i,j,rfl,rfl,hc,q⟩:=h;obtain⟨t,rfl⟩:=rx;obtain⟨t',rfl⟩:=ry;exact rule i j t t' s _ _ hc ⟨.int (g i j),H,I.tok _,⟨_,rfl⟩,q⟩
theorem MU(rule:∀(i j:Int) (t u:TQ) (s:lr) (Q:cT->lr->Prop) (E:cT->lr->Prop),Q (.int (g i j) s.toks) {s with toks:=s.toks+ 1}->ni (model X.prog X.w) X.A (f (.int i t) (.int j u)) Q E s):
  OpR X f (rI0 fun i j=>.int (g i j)):=by
 intro pins s σ H x y v u Q I rx ry h;obtain⟨i,j,rfl,rfl,q⟩:=h;obtain⟨t,rfl⟩:=rx;obtain⟨t',rfl⟩:=ry;exact rule i j t t' s _ _ ⟨.int (g i j),H,I.tok _,⟨_,rfl⟩,q⟩
theorem IT{g:Int->Int->Bool}(rule:∀(i j:Int) (t u:TQ) (s:lr) (Q:cT->lr->Prop) (E:cT->lr->Prop),Q (.bool (g i j)) s->ni (model X.prog X.w) X.A (f (.int i t) (.int j u)) Q E s):
  OpR X f (rI0 fun i j=>.bl (g i j)):=by
 intro pins s σ H x y v u Q I rx ry h;obtain⟨i,j,rfl,rfl,q⟩:=h;obtain⟨t,rfl⟩:=rx;obtain⟨t',rfl⟩:=ry;exact rule i j t t' s _ _ ⟨.bl (g i j),H,I,rfl,q⟩
def Qa(i j:Int):Prop:=0<j/\j<1073741824
def Gz(i j:Int):Prop:=0<=j/\j<=1000000/\i.natAbs<2^64
def CMul(i j:Int):Prop:=(-(2^64)<i/\i<2^64)∨(-(2^64)<j/\j<2^64)
theorem CMul.ok{i j:Int}(h:CMul i j):IntMulOk i j:=by
 rcases h with⟨h1,h2⟩|⟨h1,h2⟩
 ·exact .of_left (intBits_le_64 h1 h2)
 ·exact .of_right (intBits_le_64 h1 h2)
theorem Ci(k:Nat):(0:Int)<=2^k:=by
 rw[two_pow_cast];exact Int.natCast_nonneg _
theorem jD:OpR X (binaryOp .Add) (rI0 fun i j=>.int (i+ j)):=MU fun _ _ _ _ _ _ _ q=>add_int q
theorem vn:OpR X (binaryOp .Sub) (rI0 fun i j=>.int (i-j)):=MU fun _ _ _ _ _ _ _ q=>sub_int q
theorem Gp:OpR X (binaryOp .Mult) (rI CMul fun i j=>.int (i*j)):=opI fun _ _ _ _ _ _ _ hc q=>mul_int q hc.ok
theorem Je:OpR X (binaryOp .FloorDiv) (rI Qa fun i j=>.int (i / j)):=opI fun i j _ _ _ _ _ hc q=>by
 have h1:(0:Int)<j:=hc.1;have h2:j<1073741824:=hc.2;exact floordiv_int (by omega) (by rw[Int.fdiv_eq_ediv_of_nonneg i (by omega)];exact q) (.inl (PyProof.noPylong_small (by omega)))
theorem vi:OpR X (binaryOp .Mod) (rI (fun _ j=>0<j) fun i j=>.int (i%j)):=opI fun i j _ _ _ _ _ hc q=>by
 have h1:(0:Int)<j:=hc;exact mod_int' (by omega) (by rw[Int.fmod_eq_emod_of_nonneg i (by omega)];exact q)
theorem yg:OpR X (binaryOp .Pow) (rI Gz fun i j=>.int (i^j.toNat)):=opI fun _ _ _ _ _ _ _ hc q=>pow_int_small hc.1 hc.2.1 hc.2.2 q
theorem Hh:OpR X (binaryOp .LShift) (rI Gz fun i j=>.int (i*2^j.toNat)):=opI fun _ _ _ _ _ _ _ hc q=>lshift_int_small hc.1 hc.2.1 hc.2.2 q
theorem Nx:OpR X (binaryOp .BitAnd) (rI0 fun i j=>.int (Builtin.bitAnd i j)):=MU fun _ _ _ _ _ _ _ q=>and_int q
end
def Pt:V->V->Bool
 | .non,.non=>true| .non,.int _=>true| .int _,.non=>true| .non,.bl _=>true| .bl _,.non=>true| .non,.str _=>true| .str _,.non=>true
 | .int _,.int _=>true| .bl _,.bl _=>true| .str _,.str _=>true| .byt _,.byt _=>true
 | .int _,.str _=>true| .str _,.int _=>true| .bl _,.str _=>true| .str _,.bl _=>true
 |_,_=>false
def rEq:R2:=fun x y H Q=>Pt x y=true/\Q (.bl (decide (x=y))) H
def rNe:R2:=fun x y H Q=>Pt x y=true/\Q (.bl (!decide (x=y))) H
theorem Dj{i j:Int}:decide (V.int i=V.int j)=(i==j):=by
 rw[Su];simp
theorem F6{i j:Bool}:decide (V.bl i=V.bl j)=(i==j):=by
 rw[Su];simp
theorem Dy{i j:pe}:decide (V.str i=V.str j)=(i==j):=by
 rw[Su];simp
theorem CT{i j:Array UInt8}:decide (V.byt i=V.byt j)=(i.toList==j.toList):=by
 rw[Su];cases i;cases j;simp
section
variable{a b:QC}{tc:TE}
theorem bu{Q:VK}{k k':Bool}(I:Inv X pins σ H s)(q:Q (.bl k) H)(e:k=k'):EP X pins σ Q (.bool k') s:=by
 subst e;exact⟨.bl k,H,I,rfl,q⟩
theorem wN:OpR X (compareOp .Eq) rEq:=by
 intro pins s σ H x y v u Q I rx ry h;obtain⟨hs,q⟩:=h;cases x with
 |non=>
  cases rx;cases y with
  |non=>cases ry;exact PySem.EqNone.eq_none_none (bu I q (by simp))
  |bl j=>cases ry;exact PySem.EqNone.eq_none_bool (bu I q (by simp))
  |int j=>obtain⟨t',rfl⟩:=ry;exact PySem.EqNone.eq_none_int (bu I q (by simp))
  |str j=>obtain⟨t',rfl⟩:=ry;exact PySem.EqNone.eq_none_str (bu I q (by simp))
  |_=>exact absurd (show false=true from hs) Qn
 |bl i=>
  cases rx;cases y with
  |non=>cases ry;exact PySem.EqNone.eq_bool_none (bu I q (by simp))
  |bl j=>cases ry;exact eq_bool (bu I q F6)
  |str j=>obtain⟨t',rfl⟩:=ry;exact PySem.EqMixed.eq_bool_str (bu I q (by simp))
  |_=>exact absurd (show false=true from hs) Qn
 |int i=>
  obtain⟨t,rfl⟩:=rx;cases y with
  |non=>cases ry;exact PySem.EqNone.eq_int_none (bu I q (by simp))
  |int j=>obtain⟨t',rfl⟩:=ry;exact eq_int (bu I q Dj)
  |str j=>obtain⟨t',rfl⟩:=ry;exact PySem.EqMixed.eq_int_str (bu I q (by simp))
  |_=>exact absurd (show false=true from hs) Qn
 |str i=>
  obtain⟨t,rfl⟩:=rx;cases y with
  |non=>cases ry;exact PySem.EqNone.eq_str_none (bu I q (by simp))
  |bl j=>cases ry;exact PySem.EqMixed.eq_str_bool (bu I q (by simp))
  |int j=>obtain⟨t',rfl⟩:=ry;exact PySem.EqMixed.eq_str_int (bu I q (by simp))
  |str j=>obtain⟨t',rfl⟩:=ry;exact eq_str (bu I q Dy)
  |_=>exact absurd (show false=true from hs) Qn
 |byt i=>
  obtain⟨t,rfl⟩:=rx;cases y with
  |byt j=>obtain⟨t',rfl⟩:=ry;exact PySem.W.eq_bytes (bu I q CT)
  |_=>exact absurd (show false=true from hs) Qn
 |_=>cases y<;>exact absurd (show false=true from hs) Qn
theorem AA:OpR X (compareOp .NotEq) rNe:=by
 intro pins s σ H x y v u Q I rx ry h;obtain⟨hs,q⟩:=h;cases x with
 |non=>
  cases rx;cases y with
  |non=>cases ry;exact PySem.EqNone.ne_none_none (bu I q (by simp))
  |bl j=>cases ry;exact PySem.EqNone.ne_none_bool (bu I q (by simp))
  |int j=>obtain⟨t',rfl⟩:=ry;exact PySem.EqNone.ne_none_int (bu I q (by simp))
  |str j=>obtain⟨t',rfl⟩:=ry;exact PySem.EqNone.ne_none_str (bu I q (by simp))
  |_=>exact absurd (show false=true from hs) Qn
 |bl i=>
  cases rx;cases y with
  |non=>cases ry;exact PySem.EqNone.ne_bool_none (bu I q (by simp))
  |bl j=>cases ry;exact ne_bool (bu I q (congrArg not F6))
  |str j=>obtain⟨t',rfl⟩:=ry;exact PySem.EqMixed.ne_bool_str (bu I q (by simp))
  |_=>exact absurd (show false=true from hs) Qn
 |int i=>
  obtain⟨t,rfl⟩:=rx;cases y with
  |non=>cases ry;exact PySem.EqNone.ne_int_none (bu I q (by simp))
  |int j=>obtain⟨t',rfl⟩:=ry;exact ne_int (bu I q (congrArg not Dj))
  |str j=>obtain⟨t',rfl⟩:=ry;exact PySem.EqMixed.ne_int_str (bu I q (by simp))
  |_=>exact absurd (show false=true from hs) Qn
 |str i=>
  obtain⟨t,rfl⟩:=rx;cases y with
  |non=>cases ry;exact PySem.EqNone.ne_str_none (bu I q (by simp))
  |bl j=>cases ry;exact PySem.EqMixed.ne_str_bool (bu I q (by simp))
  |int j=>obtain⟨t',rfl⟩:=ry;exact PySem.EqMixed.ne_str_int (bu I q (by simp))
  |str j=>obtain⟨t',rfl⟩:=ry;exact ne_str (bu I q (congrArg not Dy))
  |_=>exact absurd (show false=true from hs) Qn
 |byt i=>
  obtain⟨t,rfl⟩:=rx;cases y with
  |byt j=>obtain⟨t',rfl⟩:=ry;exact PySem.W.ne_bytes (bu I q (congrArg not CT))
  |_=>exact absurd (show false=true from hs) Qn
 |_=>cases y<;>exact absurd (show false=true from hs) Qn
theorem yK:OpR X (compareOp .Lt) (rI0 fun i j=>.bl (decide (i<j))):=IT fun _ _ _ _ _ _ _ q=>lt_int q
theorem O4:OpR X (compareOp .LtE) (rI0 fun i j=>.bl (decide (i<=j))):=IT fun _ _ _ _ _ _ _ q=>le_int q
theorem IC:OpR X (compareOp .Gt) (rI0 fun i j=>.bl (decide (j<i))):=IT fun _ _ _ _ _ _ _ q=>gt_int q
theorem y4:OpR X (compareOp .GtE) (rI0 fun i j=>.bl (decide (j<=i))):=IT fun _ _ _ _ _ _ _ q=>ge_int q
theorem xC:OpR X (compareOp .IsNot) (fun x y H Q=>y=.non/\Q (.bl (!decide (x=.non))) H):=by
 intro pins s σ H x y v u Q I rx ry h;obtain⟨rfl,q⟩:=h;cases ry;refine isnot_none_gen (bu I q ?_);cases x<;>first
  |(cases rx;rfl)
  |(obtain⟨t,rfl⟩:=rx;rfl)
theorem bw(b:QC)(h:op≠.In:=by decide)(h2:op≠.NotIn:=by decide):T6 op b=false:=by
 have e1:(op==CmpOp.In)=false:=by cases op<;>first|rfl|exact absurd rfl h
 have e2:(op==CmpOp.NotIn)=false:=by cases op<;>first|rfl|exact absurd rfl h2
 cases b<;>simp[T6,e1,e2]
theorem gN(ho:OpR X (compareOp op) r)(ha:PE X a ta)(hb:PE X b tb)(hm:T6 op b=false):PE X (.Compare a [op] [b] pos) (tOp r ta tb):=by
 intro pins s σ H Q I h;exact wpAny_Compare1 (Md ha hb I h fun v u s2 x y H2 I2 rx ry q=>ho pins s2 σ H2 x y v u Q I2 rx ry q) hm
def FU(t:TE):TT:=fun σ H Q=>t σ H fun x H'=>∃k,x=.bl k/\Q k H'
theorem bD(ho:OpR X (compareOp op) r)(ha:PE X a ta)(hb:PE X b tb)(hm:T6 op b=false):PT X (.Compare a [op] [b] pos) (FU (tOp r ta tb)):=by
 intro pins s σ H Q I h;refine VW (thn (ha pins s σ H _ I h) fun v s1 ⟨x,H1,I1,r1,q1⟩=>thn (hb pins s1 σ H1 _ I1 q1) fun u s2 ⟨y,H2,I2,r2,q2⟩=>
  thn (ho pins s2 σ H2 x y v u _ I2 r1 r2 q2) fun c s3 ⟨z,H3,I3,r3,k,e,q3⟩=>?_) hm
 subst e;cases r3;exact wpAny_truthy_bool ⟨H3,I3,q3⟩
def Iv(K:cw)(x:V)(H:Hp)(k:Bool):Prop:=
 match x with
 | .non=>k=false
 | .bl b=>k=b
 | .int i=>k=(i !=0)
 | .str y=>y.length<=sizeLine/\k=((y.length:Int) !=0)
 | .byt y=>y.size<=sizeLine/\k=((y.size:Int) !=0)
 | .ref p=>(∃xs,SqL K H p xs/\k=!xs.isEmpty)∨(∃xs,SqT K H p xs/\k=!xs.isEmpty)∨∃kvs,H p=some (.dK kvs)/\k=!kvs.isEmpty
 |_=>False
theorem Bn{κ:Type}{kvs:List (κ×V)}{vs:List (κ×cT)}(r:KV kvs vs):(!vs.isEmpty)=!kvs.isEmpty:=by
 cases r<;>rfl
theorem uJ{xs:List V}{its:List cT}(r:Vals xs its):(!its.toArray.isEmpty)=!xs.isEmpty:=by
 cases r<;>simp
theorem uE:(sizeLine:Nat)<2^63:=by rw[RE];decide
theorem LQ:PM X (fun x H Q=>∃k,Iv X.K x H k/\Q k H):=by
 intro pins s σ H x v Q I rx h;obtain⟨k,e,q⟩:=h;have hl:=uE;have hs:sizeLine=16777216:=RE;cases x with
 |non=>
  cases rx;have e':k=false:=e;subst e';exact truthy_none ⟨H,I,q⟩
 |bl b=>
  cases rx;have e':k=b:=e;subst e';exact wpAny_truthy_bool ⟨H,I,q⟩
 |int i=>
  obtain⟨t,rfl⟩:=rx;have e':k=(i !=0):=e;subst e';exact PySem.P.truthy_int ⟨H,I,q⟩
 |str y=>
  obtain⟨t,rfl⟩:=rx;obtain⟨hy,e'⟩:y.length<=sizeLine/\k=((y.length:Int) !=0):=e;subst e';exact PySem.P.truthy_str (by omega) ⟨H,I.tok _,q⟩
 |byt y=>
  obtain⟨t,rfl⟩:=rx;obtain⟨hy,e'⟩:y.size<=sizeLine/\k=((y.size:Int) !=0):=e;subst e';exact PySem.W.truthy_bytes (by omega) ⟨H,I.tok _,q⟩
 |ref p=>
  cases rx;have e':(∃xs,SqL X.K H p xs/\k=!xs.isEmpty)∨(∃xs,SqT X.K H p xs/\k=!xs.isEmpty)∨∃kvs,H p=some (.dK kvs)/\k=!kvs.isEmpty:=e;rcases e' with⟨xs,hx,e'⟩|⟨xs,hx,e'⟩|⟨kvs,hx,e'⟩
  ·subst e';obtain⟨its,r,pl,hz⟩:=I.list hx;have hlen:=r.length;exact wpAny_truthy_list pl.isList (by simp only[xu];omega) ⟨H,I.tok _,by rw[uJ r];exact q⟩
  ·subst e';obtain⟨its,r,pl,hz⟩:=I.tuple hx;have hlen:=r.length;exact truthy_tuple pl (by simp only[xu];omega) ⟨H,I.tok _,by rw[uJ r];exact q⟩
  ·subst e';obtain⟨hz,hS,vs,r,m⟩:kvs.length<=sizeLine/\(p==Rm)=false/\∃vs,KV kvs vs/\s.heap.DictOf (aO X.prog X.w) p vs:=I.hok p _ hx;have hlen:kvs.length=vs.length:=Qk r;exact wpAny_truthy_dict hS m (by omega) ⟨H,I.tok _,by rw[Bn r];exact q⟩
 |_=>exact(show False from e).elim
theorem Ge(ha:PE X a ta)(he:∀whole,isTrue a X.env whole=(do let v←whole;Ug a.pos;holding [v] (truthy v))):
  PT X a (fun σ H Q=>ta σ H fun x H'=>∃k,Iv X.K x H' k/\Q k H'):=by
 intro pins s σ H Q I h;exact isTrue_plain (thn (ha pins s σ H _ I h) fun v s1 ⟨x,H1,I1,r1,q1⟩=>LQ pins s1 σ H1 x v Q I1 r1 q1) (he _)
theorem vals1{x:V}(r:Vals [x] us):∃u,us=[u]/\RelV x u:=by
 cases r with
 |cons r1 r2=>cases r2;exact⟨_,rfl,r1⟩
theorem vals2{x:V}(r:Vals [x,y] us):∃u w',us=[u,w']/\RelV x u/\RelV y w':=by
 cases r with
 |cons r1 r2=>
  cases r2 with
  |cons r3 r4=>cases r4;exact⟨_,_,rfl,r1,r3⟩
theorem GW:cE X (.builtin "abs") (fun xs H Q=>∃i,xs=[.int i]/\Q (.int (if i<0 then-i else i)) H):=by
 intro pins s σ H xs us Q I r h;obtain⟨i,rfl,q⟩:=h;obtain⟨u,rfl,t,rfl⟩:=vals1 r;exact call_abs_int fun u tk=>⟨.int (if i<0 then-i else i),H,I.tok _,⟨_,rfl⟩,q⟩
theorem Et(hc:X.calm=true):cE X (.builtin "max") (fun xs H Q=>∃i j,xs=[.int i,.int j]/\Q (.int (if j>i then j else i)) H):=by
 intro pins s σ H xs us Q I r h;obtain⟨i,j,rfl,q⟩:=h;obtain⟨u,w',rfl,⟨t,rfl⟩,⟨t',rfl⟩⟩:=vals2 r;refine max_two_ints (I.ok.hd hc) fun h' tk k=>⟨_,H,I.kept k,?_,q⟩;by_cases hj:j>i
 ·rw[if_pos hj,if_pos hj];exact⟨_,rfl⟩
 ·rw[if_neg hj,if_neg hj];exact⟨_,rfl⟩
theorem Fl(hc:X.calm=true):cE X (.builtin "min") (fun xs H Q=>∃i j,xs=[.int i,.int j]/\Q (.int (if j<i then j else i)) H):=by
 intro pins s σ H xs us Q I r h;obtain⟨i,j,rfl,q⟩:=h;obtain⟨u,w',rfl,⟨t,rfl⟩,⟨t',rfl⟩⟩:=vals2 r;refine min_two_ints (I.ok.hd hc) fun h' tk k=>⟨_,H,I.kept k,?_,q⟩;by_cases hj:j<i
 ·rw[if_pos hj,if_pos hj];exact⟨_,rfl⟩
 ·rw[if_neg hj,if_neg hj];exact⟨_,rfl⟩
end
structure ObjM(h:Qg)(x dx C:dk)(mA:pe->Option cT):Prop where
 obj:h.get? x=some (R7 C dx)
 ns:h.Ns1 dx mA
 ne:dx≠x
theorem DO(n:h.Ns1 dx mA):∃od,h.get? dx=some od/\∀name,UC name od=some (mA name):=by
 obtain⟨o,es,ep,ho,hd,hk,_,hm⟩:=n;refine⟨o,ho,fun name=>?_⟩;have e:=hm name;unfold nsFind findBy at e;rw[←Array.find?_toList]at e;unfold UC;rw[hd];dsimp only;split
 ·rename_i y q;rw[q]at e;exact congrArg some e
 ·rename_i q;rw[q]at e;have a:es.toList.any (·.refKey)=false:=by
   rw[U0];intro y hy;obtain⟨z,t,hkey⟩:=hk y (Array.mem_toList_iff.mp hy);simp[DictEntry.refKey,hkey]
  have a':¬ es.toList.any (·.refKey)=true:=by rw[a];exact Qn
  rw[if_neg a'];exact congrArg some e
theorem ObjM.look{x:dk}(I:ObjM h x dx C mA):∃od,PySem.W.InstAt h x (R7 C dx) C (some od)/\∀name,UC name od=some (mA name):=
 let ⟨od,ho,hl⟩:=DO I.ns
 ⟨od,⟨I.obj,rfl,rfl,ho⟩,hl⟩
section
variable{K:cw}{x f:dk}{v:cT}
theorem Kk{expr:Bool}(X:K.In s.heap)(I:ObjM s.heap x dx C mA)(hg:T9 K C name=true)(hh:U1 K C=true)(ha:Qx K (.ref C) name=some none)(hv:mA name=some v)(hv':Ve v=true)(h:Q v {s with toks:=s.toks+ 1}):
  ni (model prog w) A (getAttr (.ref x) name expr) Q E s:=by
 obtain⟨od,J,hl⟩:=I.look;exact PySem.W.get_value X J (Uy hg).1 (PySem.W.findObj_own hh ha rfl (by rw[hl,hv])) hv' h
theorem Ih{Q:cT×List cT->lr->Prop}(X:K.In s.heap)(I:ObjM s.heap x dx C mA)(hg:T9 K C name=true)(hf:Qx K (.ref C) name=some (some (.ref f)))(ht:WH K (.ref f)=true)(hv:mA name=none)(h:Q (.ref f,[.ref x]) s):
  ni (model prog w) A (getMethod (.ref x) name pl) Q E s:=by
 obtain⟨od,J,hl⟩:=I.look;exact PySem.W.method_fn X J (Uy hg).1 (Uy hg).2 hf (beq_iff_eq.mp ht) (by show(UC name od).map (·.isSome)=some false;rw[hl,hv];rfl) h
theorem JM{ns:List pe}{Q:Unit->lr->Prop}(X:K.In s.heap)(I:ObjM s.heap x dx C mA)
  (hs:Qx K (.ref C) "__setattr__"=some (some (.builtin "object.__setattr__"))) (hp:W0 K C=true) (ht:VD K C name=some none) (hh:U1 K C=true)
  (hw:UL mA ns) (hsz:ns.length<=sizeLine)
  (h:∀h',ObjM h' x dx C (fun y=>if y=name then some v else mA y)->Rf dx s.heap h'->Q () {s with heap:=h',toks:=s.toks+ 2}):
  ni (model prog w) A (setAttr (.ref x) name v) Q E s:=by
 obtain⟨od,J,hl⟩:=I.look;refine U2 X J hs (PySem.W.osa_open (s:={s with toks:=s.toks+ 1}) (r:=none) X J hp ht fun b=>?_);obtain⟨cd,hc,hd'⟩:=PySem.W.any_some hh;have hx:s.heap.get? x=some ⟨.ref C,some dx,.plain,#[]⟩:=I.obj;refine wpAny_bind (wpAny_pure (wpAny_bind (wpAny_bind (wpAny_loadPart hx (wpAny_bind (UM (s:={s with toks:=s.toks+ 1}) (Uz X hc) ?_))))));rw[hd'];refine wpAny_pure (a:=some dx) (wpAny_bind (wpAny_pure (wpAny_bind ?_)));refine wpAny_nsSet1 (s:={s with toks:=s.toks+ 1}) I.ns fun h' hn2 hs2=>?_;obtain⟨oD,esD,epD,hoD,hdD,hcD⟩:=hn2.count (PySem.Within.cons name v hw);refine wpAny_bind (wpAny_lookBehind hoD (by rw[hdD];exact Xk (QT hcD (by rw[QL];omega))) ?_);exact wpAny_pure (h _ ⟨(hs2.2 _ (QH I.ne)).trans I.obj,hn2,I.ne⟩ hs2)
theorem Gi{R:S3->lr->Prop}{vs:List cT}(X:K.In s.heap)(hm:XI K C=true)(hi:Qx K (.ref C) "__init__"=some (some (.ref f)))(hf:WI K (.ref f)=some (.type "function"))(h:QW (model prog w) (A.under (.builtin "type.__call__" ⟨.ref C::vs,kw⟩)) (.call (.ref f) ⟨.ref (s.heap.objs.size+ 1)::vs,kw⟩) (Xl (s.heap.objs.size+ 1) R)
   {s with heap:=(s.heap.push RH).push (R7 C s.heap.objs.size)}):
  QW (model prog w) A (.call (.ref C) ⟨vs,kw⟩) R s:=by
 obtain⟨hh,g,d,t,os⟩:=s;exact PySem.W.make_core (PySem.W.makes_of X hm) (PySem.W.looks_findIn X hi) (fun self=>PySem.W.bind_fn X self hf) (.inl rfl) h
end
def cL(f:pe)(v:V):List (pe×V)->List (pe×V)
 |[]=>[(f,v)]
 |(g,x)::r=>if g=f then(g,v)::r else(g,x)::cL f v r
theorem mq(f g:pe)(v:V):∀fs:List (pe×V),(cL f v fs).lookup g=if g=f then some v else fs.lookup g
 |[]=>by
  show SG g [(f,v)]=_;by_cases h:g=f
  ·have hb:(g==f)=true:=beq_iff_eq.mpr h;simp only[SG,hb,if_pos h]
  ·have hb:(g==f)=false:=beq_eq_false_iff_ne.mpr h;simp only[SG,hb,if_neg h]
 |(k,x)::r=>by
  have ih:=mq f g v r;rw[show cL f v ((k,x)::r)=(if k=f then(k,v)::r else(k,x)::cL f v r)from rfl];by_cases hk:k=f
  ·rw[if_pos hk];by_cases h:g=k
   ·have hb:(g==k)=true:=beq_iff_eq.mpr h;simp only[SG,hb,if_pos (h.trans hk)]
   ·have hb:(g==k)=false:=beq_eq_false_iff_ne.mpr h;simp only[SG,hb,if_neg (fun e:g=f=>h (e.trans hk.symm))]
  ·rw[if_neg hk];by_cases h:g=k
   ·have hb:(g==k)=true:=beq_iff_eq.mpr h;simp only[SG,hb,if_neg (fun e:g=f=>hk (h.symm.trans e))]
   ·have hb:(g==k)=false:=beq_eq_false_iff_ne.mpr h;simp only[SG,hb];exact ih
theorem jw(f:pe)(v:V):∀fs:List (pe×V),f∈(cL f v fs).map (·.1)/\∀g,g∈fs.map (·.1)->g∈(cL f v fs).map (·.1)
 |[]=>⟨by simp[cL],fun g h=>by simp at h⟩
 |(k,x)::r=>by
  obtain⟨i1,i2⟩:=jw f v r;rw[show cL f v ((k,x)::r)=(if k=f then(k,v)::r else(k,x)::cL f v r)from rfl];by_cases hk:k=f
  ·rw[if_pos hk];subst hk;exact⟨by simp,fun g h=>by simpa using h⟩
  ·rw[if_neg hk];refine⟨?_,fun g h=>?_⟩
   ·rw[Qd];exact xj _ i1
   ·rw[Qd]at h⊢;rcases uc.mp h with e|e
    ·exact uc.mpr (.inl e)
    ·exact xj _ (i2 g e)
theorem rV(f:pe)(v:V):∀fs:List (pe×V),(cL f v fs).length<=fs.length+ 1
 |[]=>by simp[cL]
 |(k,x)::r=>by
  have ih:=rV f v r;rw[show cL f v ((k,x)::r)=(if k=f then(k,v)::r else(k,x)::cL f v r)from rfl];by_cases hk:k=f
  ·rw[if_pos hk,QL,QL];omega
  ·rw[if_neg hk,QL,QL];omega
theorem RelO.some_of{o:Option cT}(r:RelO (some v) o):∃u,o=some u/\RelV v u:=by
 cases o with
 |none=>exact(show False from r).elim
 |some u=>exact⟨u,rfl,r⟩
theorem RelO.none_of{o:Option cT}(r:RelO none o):o=none:=by
 cases o with
 |none=>rfl
 |some u=>exact(show False from r).elim
theorem E1(r:RelV v u):Ve u=true:=by
 cases v with
 |non=>cases (show u=Q4 from r);rfl
 |bl b=>cases (show u=Ta b from r);rfl
 |int i=>obtain⟨t,e⟩:=(show∃t,u=Ts i t from r);cases e;rfl
 |str x=>obtain⟨t,e⟩:=(show∃t,u=VC x t from r);cases e;rfl
 |byt b=>obtain⟨t,e⟩:=(show∃t,u=YD b t from r);cases e;rfl
 |flt b=>obtain⟨t,e⟩:=(show∃t,u=Xi b t from r);cases e;rfl
 |ref a=>cases (show u=zt a from r);rfl
 |ty n=>cases (show u=RL n from r);rfl
section
variable{fs':List (pe×V)}
theorem ti(hok:HOk P w H h)(e:H a=some (.ins C dx fs)):∃mA,ObjM h a dx C mA/\(∀f,RelO (fs.lookup f) (mA f))/\UL mA (fs.map (·.1))/\fs.length<=1000/\H dx=some (.own a):=by
 obtain⟨d,z,ne,ob,mA,n,r,q⟩:=(show ObjOk P w H h a (.ins C dx fs)from hok a _ e);exact⟨mA,⟨ob,n,ne⟩,r,q,z,d⟩
end
structure Cls(K:cw)(C:dk):Prop where
 pg:T9 K C Str.empty=true
 hd:U1 K C=true
 po:W0 K C=true
 sa:Qx K (.ref C) "__setattr__"=some (some (.builtin "object.__setattr__"))
theorem Cls.get{K:cw}(c:Cls K C)(f:pe):T9 K C f=true:=c.pg
def NoAttr(K:cw)(C:dk)(f:pe):Prop:=Qx K (.ref C) f=some none
theorem NoAttr.taker{K:cw}{f:pe}(n:NoAttr K C f):VD K C f=some none:=by
 unfold VD;rw[show Qx K (.ref C) f=some none from n];rfl
structure Meth(K:cw)(C:dk)(m:pe)(f:dk):Prop where
 at_:Qx K (.ref C) m=some (some (.ref f))
 fn:WH K (.ref f)=true
 kp:R9 K (.ref f)=true
section
variable{f:pe}
theorem Bk{b:Bool}(I:Inv X pins σ H s)(e:H a=some (.ins C dx fs))(c:Cls X.K C)(n:NoAttr X.K C f)(l:fs.lookup f=some v)(h:∀u s',Inv X pins σ H s'->RelV v u->Q u s'):ni (model X.prog X.w) A (getAttr (.ref a) f b) Q E s:=by
 obtain⟨mA,O,r,_,_,_⟩:=ti I.hok e;obtain⟨u,hu,ru⟩:=RelO.some_of (v:=v) (o:=mA f) (by rw[←l];exact r f);exact Kk I.kIn O (c.get f) c.hd n hu (E1 ru) (h u _ (I.tok _) ru)
theorem hJ{g:dk}{Q:cT×List cT->lr->Prop}(I:Inv X pins σ H s)(e:H a=some (.ins C dx fs))(c:Cls X.K C)(k:Meth X.K C m g)(l:fs.lookup m=none)(h:Q (.ref g,[.ref a]) s):ni (model X.prog X.w) A (getMethod (.ref a) m pl) Q E s:=by
 obtain⟨mA,O,r,_,_,_⟩:=ti I.hok e;have hn:mA m=none:=RelO.none_of (by rw[←l];exact r m);exact Ih I.kIn O (c.get m) k.at_ k.fn hn h
theorem Bz{Q:Unit->lr->Prop}(I:Inv X pins σ H s)(e:H a=some (.ins C dx fs))(c:Cls X.K C)(n:NoAttr X.K C f)(hl:fs.length<1000)(ry:RelV y u)(h:∀s',Inv X pins σ (upd H a (.ins C dx (cL f y fs))) s'->Q () s'):ni (model X.prog X.w) A (setAttr (.ref a) f u) Q E s:=by
 obtain⟨mA,O,r,wi,_,ho⟩:=ti I.hok e;have hz:(fs.map (·.1)).length<=sizeLine:=by rw[gm,RE];omega
 refine JM I.kIn O c.sa c.po n.taker c.hd wi hz fun h' O' sb=>h _ ?_;have hd:∃o,h'.get? dx=some o:=let ⟨o,_,_,e',_⟩:=O'.ns;⟨o,e'⟩;refine I.write (x:=a) (e:=dx) (by rw[e];exact RZ) (.inr ho) (fun b q hb z=>(sb.2 b hb).trans z) hd ?_;refine⟨by rw[aj O.ne];exact ho,?_,O.ne,O'.obj,_,O'.ns,fun g=>?_,fun g hg=>?_⟩
 ·have:=rV f y fs;omega
 ·show RelO ((cL f y fs).lookup g) (if g=f then some u else mA g);rw[mq];by_cases q:g=f
  ·rw[if_pos q,if_pos q];exact ry
  ·rw[if_neg q,if_neg q];exact r g
 ·by_cases q:g=f
  ·rw[q];exact(jw f y fs).1
  ·refine(jw f y fs).2 g (wi g fun z=>hg ?_);show(if g=f then some u else mA g)=none;rw[if_neg q];exact z
theorem Inv.made(I:Inv X pins σ H s):Inv X pins σ (upd (upd H s.heap.objs.size (.own (s.heap.objs.size+ 1))) (s.heap.objs.size+ 1) (.ins C s.heap.objs.size []))
  {s with heap:=(s.heap.push RH).push (R7 C s.heap.objs.size)}:=by
 have e1:(s.heap.push RH).get? s.heap.objs.size=some RH:=rl s.heap rfl;have e2:((s.heap.push RH).push (R7 C s.heap.objs.size)).get? (s.heap.objs.size+ 1)=some (R7 C s.heap.objs.size):=by
  have:=rl (s.heap.push RH) (o:=R7 C s.heap.objs.size) rfl;rwa [Rl]at this
 have e3:(s.heap.push RH).Ns s.heap.objs.size (fun _=>none):=⟨RH,#[],_,e1,rfl,(fun e he=>absurd he (by simp)),fun _=>rfl⟩;have I1:=I.laid (a:=s.heap.objs.size) (o:=.own (s.heap.objs.size+ 1)) (h':=s.heap.push RH) (t':=s.toks) (fun b u q=>gf _ q) (oh _) ⟨_,e1⟩;refine I1.laid (a:=s.heap.objs.size+ 1) (o:=.ins C s.heap.objs.size []) (t':=s.toks) (fun b u q=>gf _ q) (Tu (Rl _ _)) ?_;have ne:s.heap.objs.size≠s.heap.objs.size+ 1:=xy (SK _);refine⟨by rw[aj ne,af],Qt _,ne,e2,fun _=>none,(Heap.Ns1.of_empty e3).at fun o q=>gf _ q,fun _=>RZ,fun y hy=>absurd rfl hy⟩
theorem JP{f:pe}(hb:Sk e f env (eval e env)=eval e env)(h:ni (model prog w) A (eval e env) (fun o s₁=>ni (model prog w) A (getAttr o f true) Q E s₁) E s):ni (model prog w) A (eval (.Attribute e f pos) env) Q E s:=
 Attribute_any_ h (by rw[arm_eval_Attribute,hb])
end
def LH(K:cw)(ta:TE)(f:pe):TE:=fun σ H Q=>ta σ H fun x H1=>∃a C dx fs v,x=.ref a/\H1 a=some (.ins C dx fs)/\Cls K C/\NoAttr K C f/\fs.lookup f=some v/\Q v H1
def HG(K:cw)(ta tv:TE)(f:pe):TS:=fun D σ H=>tv σ H fun y H1=>ta σ H1 fun x H2=>∃a C dx fs,x=.ref a/\H2 a=some (.ins C dx fs)/\Cls K C/\NoAttr K C f/\fs.length<1000/\
 D.nx σ (upd H2 a (.ins C dx (cL f y fs)))
section
variable{o:QC}{f:pe}
theorem MI(he:PE X e ta)(hb:Sk e f X.env (eval e X.env)=eval e X.env):PE X (.Attribute e f pos) (LH X.K ta f):=by
 intro pins s σ H Q I h;refine JP hb (thn (he pins s σ H _ I h) fun u s1 zz=>?_);obtain⟨x,H1,I1,rx,a,C,dx,fs,v,ex,ea,c,n,l,q⟩:=zz;subst ex;obtain rfl:u=zt a:=rx;exact Bk I1 ea c n l fun u' s2 I2 ru=>⟨v,H1,I2,ru,q⟩
theorem MH(ha:PE X o ta)(hv:PE X value tv)(hs:Ue value (some (.Attribute o f pos')) pos.line X.env=pure false):PS X (.Assign [.Attribute o f pos'] value pos) (HG X.K ta tv f):=by
 intro pins s σ H D I h;refine Um (thn (hv pins s σ H _ I h) fun u s1 ⟨y,H1,I1,ry,q⟩=>thn (ha pins s1 σ H1 _ I1 q) fun ov s2 zz=>?_) hs;obtain⟨x,H2,I2,rx,a,C,dx,fs,ex,ea,c,n,l,q2⟩:=zz;subst ex;obtain rfl:ov=zt a:=rx;exact Bz I2 ea c n l ry fun s3 I3=>⟨σ,_,I3,q2⟩
theorem Lc{args:List QC}(he:PE X e te)(I:Inv X pins σ H s)(h:te σ H fun x H1=>∃a C dx fs g,x=.ref a/\H1 a=some (.ins C dx fs)/\Cls X.K C/\Meth X.K C m g/\fs.lookup m=none/\
   ∀s1,Inv X pins σ H1 s1->ni (model X.prog X.w) X.A (callWith pos (.ref g) [.ref a] (backTo pos (starEach args X.env)) (backToKw pos (keywordEach [] X.env))) Q X.xe s1) (ht:eval (.Call (.Attribute e m apos) args [] pos) X.env=(do
   let ov←eval e X.env
   Ug apos.atName
   let (f,first)←holding [ov] (getMethod ov m pl)
   callWith pos f first (backTo pos (starEach args X.env)) (backToKw pos (keywordEach [] X.env)))):
  ni (model X.prog X.w) X.A (eval (.Call (.Attribute e m apos) args [] pos) X.env) Q X.xe s:=by
 refine R4 (pl:=pl) (thn (he pins s σ H _ I h) fun u s1 zz=>?_) ht;obtain⟨x,H1,I1,rx,a,C,dx,fs,g,ex,ea,c,k,l,q⟩:=zz;subst ex;obtain rfl:u=zt a:=rx;exact hJ I1 ea c k l (q s1 I1)
end
section
variable{c:cT}{b:Bool}
inductive TyOf (K:cw) (H:Hp):V->cT->Prop where
 |non:TyOf K H .non (.type "NoneType")
 |bl (x:Bool):TyOf K H (.bl x) (.type "bool")
 |int (i:Int):TyOf K H (.int i) (.type "int")
 |str (x:pe):TyOf K H (.str x) (.type "str")
 |flt (x:UInt64):TyOf K H (.flt x) (.type "float")
 |lst {a:dk} {xs:List V} (e:H a=some (.lst xs)):TyOf K H (.ref a) (.type "list")
 |frz {a:dk} {o:QM} {xs:List V} (e:H a=some (.frz o (.lst xs))):TyOf K H (.ref a) (.type "list")
 |tup {a:dk} {xs:List V} (e:H a=some (.tup xs)):TyOf K H (.ref a) (.type "tuple")
 |dK {a:dk} {kvs:List (Key×V)} (e:H a=some (.dK kvs)):TyOf K H (.ref a) (.type "dict")
 |dT {a:dk} {kvs:List (List Key×V)} (e:H a=some (.dT kvs)):TyOf K H (.ref a) (.type "dict")
 |ins {a C dx:dk} {fs:List (pe×V)} (e:H a=some (.ins C dx fs)) (cl:Cls K C) (ha:Qx K (.ref C) "__class__"=some (some (.builtin "object.__class__")))
   (hn:W2 K (.builtin "object.__class__") "__get__"=some (some (.builtin "getset_descriptor.__get__"))) (htk:PySem.W.takesIn K (.builtin "object.__class__")=some true)
   (hm:UR K C (.type "object")=some true):TyOf K H (.ref a) (.ref C)
theorem EJ{x:V}{t:cT}(I:Inv X pins σ H s)(rx:RelV x u)(ty:TyOf X.K H x t)(e:VX X.K t c=some b)(h:∀tk,Q (.bool b) {s with toks:=tk}):
  ni (model X.prog X.w) A (call (.builtin "isinstance") [u,c]) Q E s:=by
 cases ty with
 |non=>cases (show u=Q4 from rx);exact Rx PySem.W.kitx_none I.kIn RZ e (fun z=>nomatch z) h
 |bl y=>cases (show u=Ta y from rx);exact Rx PySem.W.kitx_bool I.kIn RZ e (fun z=>nomatch z) h
 |int i=>obtain⟨t,q⟩:=(show∃t,u=Ts i t from rx);cases q;exact Rx PySem.W.kitx_int I.kIn RZ e (fun z=>nomatch z) h
 |str y=>obtain⟨t,q⟩:=(show∃t,u=VC y t from rx);cases q;exact Rx PySem.W.kitx_str I.kIn RZ e (fun z=>nomatch z) h
 |flt y=>obtain⟨t,q⟩:=(show∃t,u=Xi y t from rx);cases q;exact Rx PySem.W.kitx_float I.kIn RZ e (fun z=>nomatch z) h
 |@lst a xs ea=>
  cases (show u=zt a from rx);obtain⟨_,_,n,_,h1⟩:=(show ObjOk X.prog X.w H s.heap a (.lst xs)from I.hok a _ ea);exact Rx W3 I.kIn ⟨_,h1,rfl⟩ e (fun z=>nomatch z) h
 |@frz a ob xs ea=>
  cases (show u=zt a from rx);obtain⟨_,_,_,n,_,h1⟩:=(show ObjOk X.prog X.w H s.heap a (.frz ob (.lst xs))from I.hok a _ ea);exact Rx W3 I.kIn ⟨_,h1,rfl⟩ e (fun z=>nomatch z) h
 |@tup a xs ea=>
  cases (show u=zt a from rx);obtain⟨_,_,_,p⟩:=(show ObjOk X.prog X.w H s.heap a (.tup xs)from I.hok a _ ea);obtain⟨o,h1,h2,_⟩:=p;exact Rx PySem.W.kitx_tuple I.kIn ⟨o,h1,h2⟩ e (fun z=>nomatch z) h
 |@dK a kvs ea=>
  cases (show u=zt a from rx);obtain⟨_,_,vs,_,p⟩:=(show ObjOk X.prog X.w H s.heap a (.dK kvs)from I.hok a _ ea);obtain⟨o,es,ep,h1,h2,_⟩:=p;exact Rx W4 I.kIn ⟨o,h1,h2.1⟩ e (fun z=>nomatch z) h
 |@dT a kvs ea=>
  cases (show u=zt a from rx);obtain⟨_,_,xs,_,o,es,ep,h1,h2,_⟩:=(show ObjOk X.prog X.w H s.heap a (.dT kvs)from I.hok a _ ea);exact Rx W4 I.kIn ⟨o,h1,h2.1⟩ e (fun z=>nomatch z) h
 |@ins a C dx fs ea cl ha hn htk hm=>
  cases (show u=zt a from rx);obtain⟨mA,O,_⟩:=ti I.hok ea;obtain⟨od,J,_⟩:=O.look;exact Rx (PySem.W.kitx_own (cl.get _) cl.hd ha hn htk hm) I.kIn J e (fun z=>nomatch z) h
end
structure Room(k:Nat)(A:QR):Prop where
 hd:A.handled=none
 dp:A.depth+ 3*k+ 5<UD
 un:A.units+ 16*k+ 200<RM
theorem Room.mono(r:Room k A)(h:j<=k):Room j A:=⟨r.hd,by have:=r.dp;omega,by have:=r.un;omega⟩
theorem Room.deeper(r:Room (k+ 1) A)(env:S2):Room k (A.deeper env):=
 ⟨r.hd,by have:=r.dp;show A.depth+ 1+ 3*k+ 5<_;omega,by have:=r.un;show A.units+ 3+ 16*k+ 200<_;omega⟩
theorem Bp:(A.under (.builtin "type.__call__" ⟨.ref C::us,kw⟩)).depth=A.depth+ 1:=by
 first|rfl|simp[Around.under,Code.weight,Code.isCreation,Code.isGuard,Code.isCaller,YE,WJ,guardIds]
theorem BR:(A.under (.builtin "type.__call__" ⟨.ref C::us,kw⟩)).units=A.units+ 1:=by
 first|rfl|simp[Around.under,Code.cUnits,YE,WJ]
theorem Room.make(r:Room (k+ 1) A)(C:dk)(us:List cT)(kw:List (pe×cT)):Room k (A.under (.builtin "type.__call__" ⟨.ref C::us,kw⟩)):=
 ⟨r.hd,by have:=r.dp;rw[Bp];omega,by have:=r.un;rw[BR];omega⟩
theorem Room.depth(r:Room k A):A.depth<UD:=by have:=r.dp;omega
theorem Room.units(r:Room k A):A.units+ 64<RM:=by have:=r.un;omega
theorem Room.units0(r:Room k A):A.units<RM:=by have:=r.un;omega
def AD:TA:=fun _ H Q=>Q [] H
def um(ta:TE)(tr:TA):TA:=fun σ H Q=>ta σ H fun x H1=>tr σ H1 fun xs H2=>Q (x::xs) H2
section
variable{t:TA}
theorem ae:PA X [] AD:=fun _ _ _ _ H Q I h=>U3 ⟨[],H,I,.nil,h⟩
theorem aa(ha:PE X e te)(hr:PA X es t)(hs:starEach (e::es) X.env=(false,eval e X.env)::starEach es X.env:=by rfl):PA X (e::es) (um te t):=by
 intro pos pins s σ H Q I h;rw[hs];show ni _ _ (spliced ((false,eval e X.env)::backTo pos (starEach es X.env))) _ _ s;refine Tv (thn (ha pins s σ H _ I h) fun u s1 zz=>?_);obtain⟨x,H1,I1,r1,q1⟩:=zz;exact thn (hr pos pins s1 σ H1 _ I1 q1) fun us s2 ⟨xs,H2,I2,r2,q2⟩=>⟨x::xs,H2,I2,.cons r1 r2,q2⟩
def LL(t:TA):TE:=fun σ H Q=>t σ H fun xs H1=>xs.length<=sizeLine/\∀p,H1 p=none->Q (.ref p) (upd H1 p (.tup xs))
def N7(t:TA):TE:=fun σ H Q=>t σ H fun xs H1=>xs.length<=sizeLine/\∀p,H1 p=none->Q (.ref p) (upd H1 p (.lst xs))
theorem cg{x1}(h:PA X es t):PE X (.Tuple es x1 pos) (LL t):=by
 intro pins s σ H Q I hq;refine wpAny_Tuple_spliced (thn (h pos pins s σ H _ I hq) fun us s1 ⟨xs,H1,I1,r,z,q⟩=>⟨by rw[←r.length];exact z,?_⟩);have hf:H1 s1.heap.objs.size=none:=I1.hok.fresh (oh _);refine⟨.ref s1.heap.objs.size,upd H1 s1.heap.objs.size (.tup xs),I1.laid (t':=s1.toks) (fun b u e=>gf _ e) (oh _) ?_,rfl,q _ hf⟩;exact⟨z,us,r,IsTpl.new _ _⟩
theorem dN(h:PA X es t):PE X (.List es pos) (N7 t):=by
 intro pins s σ H Q I hq;refine wpAny_List_spliced (thn (h pos pins s σ H _ I hq) fun us s1 ⟨xs,H1,I1,r,z,q⟩=>⟨by rw[←r.length];exact z,?_⟩);have hf:H1 s1.heap.objs.size=none:=I1.hok.fresh (oh _);refine⟨.ref s1.heap.objs.size,upd H1 s1.heap.objs.size (.lst xs),I1.laid (t':=s1.toks) (fun b u e=>gf _ e) (oh _) ?_,rfl,q _ hf⟩;exact⟨z,us,0,r,rl _ rfl⟩
end
abbrev Sp:=List V->Hp->VK->XK->Prop
variable{sp:Sp}
abbrev CXT:=List S2->Hp->lr->XK->cT->lr->Prop
variable{CX:CXT}
structure Env0(P:Qo)(w:Qu)(K:cw)(mg:pe->Option cT)(base:Qg)(A:QR)(outer:List S2)(s:lr)(H:Hp):Prop where
 frames:A.frames=some outer
 mod:Mod K mg base
 bs:∀b o,base.get? b=some o->s.heap.get? b=some o/\H b=none
 bsz:base.objs.size<=s.heap.objs.size
 funs:s.heap.FunFrames base outer
 frf:∀b∈frs outer,H b=none
 hok:HOk P w H s.heap
 bare:TK s.gens
def CE(outer:List S2)(P:Qo)(w:Qu)(H:Hp)(s:lr)(Q:VK)(u:cT)(s':lr):Prop:=
 ∃v H',s'.os=s.os/\TK s'.gens/\Un (frs outer) [] H H' s.heap s'.heap/\HOk P w H' s'.heap/\RelV v u/\Q v H'
def CR(CX:CXT)(outer:List S2)(P:Qo)(w:Qu)(H:Hp)(s:lr)(Q:VK)(E:XK)(r:S3)(s':lr):Prop:=
 match r with
 | .ok (.ret u)=>CE outer P w H s Q u s'
 | .ok _=>False
 | .error e=>CX outer H s E e s'
structure FnOk(P:Qo)(w:Qu)(K:cw)(mg:pe->Option cT)(base:Qg)(CX:CXT)(k:Nat)(f:dk)(fd:xw)(ps:List pe)(sp:Sp):Prop where
 len:∀vs H Q E,sp vs H Q E->vs.length=ps.length
 run:∀(A:QR) (outer:List S2) (s:lr) (H:Hp) (args:Args) (us:List cT) (vs:List V) (Q:VK) (E:XK),Room k A->Env0 P w K mg base A outer s H->BindsTo s fd args (ps.zip us)->Vals vs us->sp vs H Q E->
  QW (model P w) A (.call (.ref f) args) (CR CX outer P w H s Q E) s
theorem FnOk.mono{K:cw}{base:Qg}{f:dk}(F:FnOk P w K mg base CX j f fd ps sp)(h:j<=k):
  FnOk P w K mg base CX k f fd ps sp:=⟨F.len,fun A outer s H args us vs Q E hr=>F.run A outer s H args us vs Q E (hr.mono h)⟩
theorem Env0.make{K:cw}{base:Qg}(e:Env0 P w K mg base A outer s H)(C:dk)(us:List cT)(kw:List (pe×cT)):
  Env0 P w K mg base (A.under (.builtin "type.__call__" ⟨.ref C::us,kw⟩)) outer s H:=⟨by first|exact e.frames|(simpa [Around.under,Code.envs,WJ,pushEnvs]using e.frames),e.mod,e.bs,e.bsz,e.funs,e.frf,e.hok,e.bare⟩
section
theorem Inv.env0(I:Inv X pins σ H s):Env0 X.prog X.w X.K X.mg X.base X.A X.stack s H:=
 ⟨I.ok.frames,I.ok.mod,I.bs,QT I.ok.bsz I.sz,I.stack,I.stkFree,I.hok,I.bare⟩
theorem Inv.after{Q:VK}(I:Inv X pins σ H s)(h:CE X.stack X.prog X.w H s Q u s'):EP X pins σ Q u s':=by
 obtain⟨v,H',os,bare,un,hok,r,q⟩:=h;obtain⟨hh,g,d,t,os'⟩:=s';obtain rfl:os'=s.os:=os;exact⟨v,H',I.call (h':=hh) (g':=g) (d':=d) (t':=t) (ch:=[]) un hok bare (fun b z=>absurd z (by simp)),r,q⟩
end
def DA(sp:Sp)(dvs:List V)(E:XK)(t:TA):TE:=fun σ H Q=>t σ H fun vs H1=>sp (vs++dvs) H1 Q E
def F0(C:dk)(m:pe)(sp:Sp)(dvs:List V)(E:XK)(ta:TE)(t:TA):TE:=fun σ H Q=>ta σ H fun x H1=>∃a dx fs,x=.ref a/\H1 a=some (.ins C dx fs)/\fs.lookup m=none/\
 t σ H1 fun vs H2=>sp (x::(vs++dvs)) H2 Q E
def Lk(C:dk)(sp:Sp)(dvs:List V)(E:XK)(t:TA):TE:=fun σ H Q=>t σ H fun vs H1=>∀x dx,H1 x=none->H1 dx=none->dx≠x->
 sp (.ref x::(vs++dvs)) (upd (upd H1 dx (.own x)) x (.ins C dx [])) (fun v H2=>v=.non/\Q (.ref x) H2) E
def Binds(K:cw)(fd:xw)(ps:List pe)(ds:List cT):Prop:=
 ∀(s:lr) (us:List cT),K.In s.heap->(us++ds).length=ps.length->BindsTo s fd ⟨us,[]⟩ (ps.zip (us++ds))
theorem Binds.all{K:cw}(h:∀us:List cT,us.length=ps.length->Xm fd ⟨us,[]⟩=pure (ps.zip us)):Binds K fd ps []:=fun s us _ hl=>by
 rw[Q2]at hl⊢;exact .of_eq (h us hl)
def jI(CX:CXT)(X:Cx)(E:XK):Prop:=∀(pins:List (dk×QM)) (σ:St) (H:Hp) (s:lr) (e:cT) (s':lr),Inv X pins σ H s->CX X.stack H s E e s'->X.xe e s'
section
variable{f:dk}{dvs:List V}{ds:List cT}{E:XK}{o:QC}{t:TA}
theorem lW{Q:VK}(F:FnOk X.prog X.w X.K X.mg X.base CX k f fd ps sp)(hr:Room k X.A)(hb:Binds X.K fd ps ds)(hd:Vals dvs ds)(hx:jI CX X E)(I:Inv X pins σ H s)(r:Vals vs us)(h:sp (vs++dvs) H Q E):ni (model X.prog X.w) X.A (call (.ref f) us) (EP X pins σ Q) X.xe s:=by
 have r2:Vals (vs++dvs) (us++ds):=r.append hd;have hl:(us++ds).length=ps.length:=by rw[←r2.length];exact F.len _ _ _ _ h
 refine U8 (codeAny_mono (F.run X.A X.stack s H ⟨us,[]⟩ (us++ds) (vs++dvs) Q E hr I.env0 (hb s us I.kIn hl) r2 h) fun r s' hq=>?_);cases r with
 |error e=>exact hx pins σ H s e s' I hq
 |ok fl=>
  cases fl with
  |ret u=>exact I.after hq
  |next=>exact Rz hq
  |brk=>exact Rz hq
  |cont=>exact Rz hq
theorem Jq(F:FnOk X.prog X.w X.K X.mg X.base CX k f fd ps sp)(hr:Room k X.A)(hg:Gl X x)(hm:X.mg x=some (.ref f))(hk:R9 X.K (.ref f)=true)(hb:Binds X.K fd ps ds)(hd:Vals dvs ds)(hx:jI CX X E)
  (ha:PA X (e::es) t) (hdb:(x==("__debug__":pe))=false:=by decide) (he:starEach (e::es) X.env=(false,eval e X.env)::starEach es X.env:=by rfl) (hpl:(backTo pos (starEach es X.env)).any (·.1)=false:=by rfl):
  PE X (.Call (.Name x p) (e::es) [] pos) (DA sp dvs E t):=by
 intro pins s σ H Q I h;refine RN (mQ I hg hm ?_ hdb);refine So (h₀:=X.base) I.ok.mod.kin hk (thn (ha pos pins s σ H _ I h) fun us s1 ⟨vs,H1,I1,r,q⟩=>⟨I1.kIn,?_⟩) he hpl;exact lW F hr hb hd hx I1 r q
theorem JH(he:PE X o ta)(c:Cls X.K C)(hm:Meth X.K C m f)(F:FnOk X.prog X.w X.K X.mg X.base CX k f fd ps sp)(hr:Room k X.A)(hb:Binds X.K fd ps ds)(hd:Vals dvs ds)(hx:jI CX X E)(ha:PA X (e::es) t)(hst:starEach (e::es) X.env=(false,eval e X.env)::starEach es X.env:=by rfl)(hpl:(backTo pos (starEach es X.env)).any (·.1)=false:=by rfl)(ht:eval (.Call (.Attribute o m apos) (e::es) [] pos) X.env=(do
   let ov←eval o X.env
   Ug apos.atName
   let (f,first)←holding [ov] (getMethod ov m pl)
   callWith pos f first (backTo pos (starEach (e::es) X.env)) (backToKw pos (keywordEach [] X.env))):=by rfl):
  PE X (.Call (.Attribute o m apos) (e::es) [] pos) (F0 C m sp dvs E ta t):=by
 intro pins s σ H Q I h;refine R4 (pl:=pl) (thn (he pins s σ H _ I h) fun u s1 zz=>?_) ht;obtain⟨x,H1,I1,rx,a,dx,fs,ex,ea,l,q⟩:=zz;subst ex;obtain rfl:u=zt a:=rx;refine hJ I1 ea c hm l ?_;refine So (first:=[.ref a]) (h₀:=X.base) I.ok.mod.kin hm.kp (thn (ha pos pins s1 σ H1 _ I1 q) fun us s2 ⟨vs,H2,I2,r,q2⟩=>⟨I2.kIn,?_⟩) hst hpl;exact lW (us:=.ref a::us) (vs:=.ref a::vs) F hr hb hd hx I2 (.cons rfl r) q2
theorem Hc(he:PE X o ta)(c:Cls X.K C)(hm:Meth X.K C m f)(F:FnOk X.prog X.w X.K X.mg X.base CX k f fd ps sp)(hr:Room k X.A)(hb:Binds X.K fd ps ds)(hd:Vals dvs ds)(hx:jI CX X E)(ht:eval (.Call (.Attribute o m apos) [] [] pos) X.env=(do
   let ov←eval o X.env
   Ug apos.atName
   let (f,first)←holding [ov] (getMethod ov m pl)
   callWith pos f first (backTo pos (starEach [] X.env)) (backToKw pos (keywordEach [] X.env))):=by rfl):
  PE X (.Call (.Attribute o m apos) [] [] pos) (F0 C m sp dvs E ta AD):=by
 intro pins s σ H Q I h;refine R4 (pl:=pl) (thn (he pins s σ H _ I h) fun u s1 zz=>?_) ht;obtain⟨x,H1,I1,rx,a,dx,fs,ex,ea,l,q⟩:=zz;subst ex;obtain rfl:u=zt a:=rx;refine hJ I1 ea c hm l ?_;exact Wy (first:=[.ref a]) I1.kIn hm.kp (lW (us:=[.ref a]) (vs:=[.ref a]) F hr hb hd hx I1 (.cons rfl .nil) q)
structure Mk(K:cw)(C f:dk):Prop where
 makes:XI K C=true
 init:Qx K (.ref C) "__init__"=some (some (.ref f))
 fn:WH K (.ref f)=true
 kp:R9 K (.ref C)=true
theorem GK{Q:VK}(M:Mk X.K C f)(F:FnOk X.prog X.w X.K X.mg X.base CX k f fd ps sp)(hr:Room (k+ 1) X.A)(hb:Binds X.K fd ps ds)(hd:Vals dvs ds)(hx:jI CX X E)(I:Inv X pins σ H s)(r:Vals vs us)(h:∀x dx,H x=none->H dx=none->dx≠x->sp (.ref x::(vs++dvs)) (upd (upd H dx (.own x)) x (.ins C dx [])) (fun v H2=>v=.non/\Q (.ref x) H2) E):
  ni (model X.prog X.w) X.A (call (.ref C) us) (EP X pins σ Q) X.xe s:=by
 have hq:=h (s.heap.objs.size+ 1) s.heap.objs.size (I.hok.fresh (RP _)) (I.hok.fresh (oh _)) (xy (SK _));have I2:=Inv.made (C:=C) I;have r2:Vals (V.ref (s.heap.objs.size+ 1)::(vs++dvs)) (zt (s.heap.objs.size+ 1)::(us++ds)):=.cons rfl (r.append hd);have hl:(zt (s.heap.objs.size+ 1)::us++ds).length=ps.length:=by
  have e:=r2.length;rw[F.len _ _ _ _ hq]at e;exact e.symm
 refine U8 (Gi (f:=f) I.kIn M.makes M.init (beq_iff_eq.mp M.fn) (codeAny_mono (F.run _ X.stack _ _ ⟨zt (s.heap.objs.size+ 1)::us,[]⟩ (zt (s.heap.objs.size+ 1)::(us++ds)) _ _ E (hr.make C us [])
  (I2.env0.make C us []) (hb _ (zt (s.heap.objs.size+ 1)::us) I2.kIn hl) r2 hq) fun r s' hq'=>?_))
 cases r with
 |error e=>exact hx pins σ _ _ e s' I2 hq'
 |ok fl=>
  cases fl with
  |ret u=>
   obtain⟨v,H',I3,rv,ev,q3⟩:=I2.after hq';subst ev;exact⟨rv,⟨V.ref (s.heap.objs.size+ 1),H',I3,rfl,q3⟩⟩
  |next=>exact Rz hq'
  |brk=>exact Rz hq'
  |cont=>exact Rz hq'
theorem mR(M:Mk X.K C f)(F:FnOk X.prog X.w X.K X.mg X.base CX k f fd ps sp)(hr:Room (k+ 1) X.A)(hg:Gl X x)(hm:X.mg x=some (.ref C))(hb:Binds X.K fd ps ds)(hd:Vals dvs ds)(hx:jI CX X E)
  (ha:PA X (e::es) t) (hdb:(x==("__debug__":pe))=false:=by decide) (he:starEach (e::es) X.env=(false,eval e X.env)::starEach es X.env:=by rfl) (hpl:(backTo pos (starEach es X.env)).any (·.1)=false:=by rfl):
  PE X (.Call (.Name x p) (e::es) [] pos) (Lk C sp dvs E t):=by
 intro pins s σ H Q I h;refine RN (mQ I hg hm ?_ hdb);refine So (h₀:=X.base) I.ok.mod.kin M.kp (thn (ha pos pins s σ H _ I h) fun us s1 ⟨vs,H1,I1,r,q⟩=>⟨I1.kIn,?_⟩) he hpl;exact GK M F hr hb hd hx I1 r q
end
def PK(X:Cx)(kws:List Uh)(t:TA):Prop:=
 ∀(pos:Sz) (pins:List (dk×QM)) (s:lr) (σ:St) (H:Hp) (Q:List V->Hp->Prop),Inv X pins σ H s->t σ H Q->ni (model X.prog X.w) X.A (evalAll ((backToKw pos (keywordEach kws X.env)).map (·.2))) (AP X pins σ Q) X.xe s
section
variable{f:dk}{ks:List pe}{E:XK}{kpos:Sz}{o:QC}{kws:List Uh}{t tk:TA}{nm:Option pe}
theorem LD:PK X [] AD:=fun _ _ _ _ H Q I h=>wpAny_evalAll_nil ⟨[],H,I,.nil,h⟩
theorem Kw(ha:PE X e te)(hr:PK X kws t):PK X (⟨nm,e,kpos⟩::kws) (um te t):=by
 intro pos pins s σ H Q I h;show ni _ _ (evalAll ((do let v←eval e X.env;Ug pos;pure v)::(backToKw pos (keywordEach kws X.env)).map (·.2))) _ _ s;refine wpAny_evalAll_cons (wpAny_bind (thn (ha pins s σ H _ I h) fun u s1 ⟨x,H1,I1,r1,q1⟩=>wpAny_bind (wpAny_standAt (wpAny_pure ?_))));exact thn (hr pos pins s1 σ H1 _ I1 q1) fun us s2 ⟨xs,H2,I2,r2,q2⟩=>⟨x::xs,H2,I2,.cons r1 r2,q2⟩
variable{g:List cT->List cT->List cT}{gV:List V->List V->List V}
end
structure FnScope(N P:List pe)(sc:SU):Prop where
 kind:sc.kind=.function
 co:sc.isCoroutine=false
 gen:sc.isGenerator=false
 nd:N.Nodup
 pre:N.take P.length=P
 par:∀x∈P,sc.names.lookup x=some .local∨sc.names.lookup x=some .cell
 nofree:∀y∈sc.names,y.2≠.free
theorem vX{kindOf:pe->Option Ua}{x:pe}:∀{binds:List (pe×cT)} {m:pe->Option cT},(∀v,(x,v)∉binds)->bindL kindOf binds m x=m x
 |[],_,_=>rfl
 |(n,v)::r,m,h=>by
  unfold bindL;rw[vX fun w hw=>h w (xj _ hw)];split
  ·have:x≠n:=by rintro rfl;exact h v xl
   simp[this]
  ·rfl
theorem wx{kindOf:pe->Option Ua}{x:pe}:∀{binds:List (pe×cT)} {m:pe->Option cT},(∀v,(x,v)∉binds)->bindC kindOf binds m x=m x
 |[],_,_=>rfl
 |(n,v)::r,m,h=>by
  unfold bindC;rw[wx fun w hw=>h w (xj _ hw)];split
  ·rfl
  ·have:x≠n:=by rintro rfl;exact h v xl
   simp[this]
theorem wK{kindOf:pe->Option Ua}{x:pe}{v:cT}:∀{P:List pe} {vs:List cT} {i:Nat} {m:pe->Option cT},P.Nodup->P[i]?=some x->vs[i]?=some v->kindOf x=some .local->
  bindL kindOf (P.zip vs) m x=some v
 |[],_,_,_,_,h,_,_=>by simp at h
 |_::_,[],_,_,_,_,h,_=>by simp at h
 |p::P,w::vs,0,m,nd,h1,h2,hk=>by
  simp at h1 h2;subst h1;subst h2;show bindL kindOf ((p,w)::P.zip vs) m p=_;unfold bindL;rw[vX fun v hv=>(Rh.mp nd).1 (SV hv).1,if_pos hk];simp
 |p::P,w::vs,i+ 1,m,nd,h1,h2,hk=>by
  show bindL kindOf ((p,w)::P.zip vs) m x=_;unfold bindL;exact wK (i:=i) (Rh.mp nd).2 (by simpa using h1) (by simpa using h2) hk
theorem wC{kindOf:pe->Option Ua}{x:pe}{v:cT}:∀{P:List pe} {vs:List cT} {i:Nat} {m:pe->Option cT},P.Nodup->P[i]?=some x->vs[i]?=some v->kindOf x≠some .local->
  bindC kindOf (P.zip vs) m x=some v
 |[],_,_,_,_,h,_,_=>by simp at h
 |_::_,[],_,_,_,_,h,_=>by simp at h
 |p::P,w::vs,0,m,nd,h1,h2,hk=>by
  simp at h1 h2;subst h1;subst h2;show bindC kindOf ((p,w)::P.zip vs) m p=_;unfold bindC;rw[wx fun v hv=>(Rh.mp nd).1 (SV hv).1,if_neg hk];simp
 |p::P,w::vs,i+ 1,m,nd,h1,h2,hk=>by
  show bindC kindOf ((p,w)::P.zip vs) m x=_;unfold bindC;exact wC (i:=i) (Rh.mp nd).2 (by simpa using h1) (by simpa using h2) hk
def start(N:List pe)(vs:List V):St:=vs.map some++SJ (N.length-vs.length) none
def lM(CX:CXT)(P:Qo)(w:Qu)(K:cw)(mg:pe->Option cT)(base:Qg)(N:List pe)(qual:pe)(scope:SU)(f:dk)(cd:cT)(A:QR)(outer:List S2)(s:lr)(H:Hp)(E:XK):Cx where
 prog:=P
 w:=w
 K:=K
 mg:=mg
 base:=base
 A:=A.deeper (envOfC qual scope s.heap.objs.size f cd)
 N:=N
 s₀:=s
 H₀:=H
 env:=envOfC qual scope s.heap.objs.size f cd
 outer:=outer
 stack:=envOfC qual scope s.heap.objs.size f cd::outer
 ex:=[]
 calm:=true
 fn:=fun _=>true
 pn:=[]
 xe:=fun e s'=>ni (model P w) (A.deeper (envOfC qual scope s.heap.objs.size f cd)) (leaving (envOfC qual scope s.heap.objs.size f cd) e) (fun _ s''=>CX outer H s E e s'') (fun e' s''=>CX outer H s E e' s'') s'
theorem Av{sc:SU}(h:sc.names.lookup x=some .cell):∃c,(cellsFrom n sc.names []).lookup x=some c:=by
 have q:=VM sc.names n [] (.inl h);exact Vf.mp q
theorem DU{K:cw}{base:Qg}{f:dk}{cd:cT}{s1:lr}{E:XK}(S:FnScope N ps scope)(hd:A.handled=none)(e0:Env0 P w K mg base A outer s H)(hl:vs.length=ps.length)(r:Vals vs us)(x:InCallC s s.heap.objs.size (bindL (envOfC qual scope s.heap.objs.size f cd).kindOf (ps.zip us) fun _=>none) (cellsFrom (s.heap.objs.size+ 1) scope.names []) (bindC (envOfC qual scope s.heap.objs.size f cd).kindOf (ps.zip us) fun _=>none) s1):
  Inv (lM CX P w K mg base N qual scope f cd A outer s H E) [] (start N vs) H s1:=by
 have hpl:ps.length<=N.length:=by have:=congrArg YF S.pre;rw[Q9]at this;omega
 obtain⟨h1,tk,rfl,hk⟩:=x.done;have noA:∀b:dk,b∉(lM CX P w K mg base N qual scope f cd A outer s H E).ex:=fun b z=>absurd (show b∈([]:List dk)from z) (by simp);refine⟨⟨e0.mod,S.kind,rfl,rfl,oh _,fun y z c h1 h2=>?_,fun y hy=>?_,fun y c _ h=>?_,fun _=>hd,Around.frames_deeper e0.frames,.inr ⟨rfl,rfl⟩,fun b z=>absurd z (noA b),e0.bs,e0.bsz,fun b _ _=>noA b,fun b z=>absurd z (noA b),e0.funs,e0.frf⟩,
  rfl,e0.bare,Un.kept hk,⟨_,x.toInCall.ns,fun i y v h1 h2 h3=>?_⟩,fun y c h=>⟨_,x.cell y c h⟩,e0.hok.fresh (oh _),fun y c h=>?_,fun p hp=>absurd (show p∈([]:List (dk×QM))from hp) (by simp),e0.hok.kept hk,?_⟩
 ·exact name_of_addr x.apart (RJ h1) (RJ h2)
 ·have hy:scope.names.lookup y=some .cell∨scope.names.lookup y=some .free:=hy;rcases hy with hy|hy
  ·exact Av hy
  ·exact absurd rfl (S.nofree _ (RJ hy))
 ·exact QG (x.above y c (RJ h))
 ·have hi:i<vs.length:=by
   unfold start at h2;by_cases hi:i<vs.length
   ·exact hi
   ·rw[Tf (by simpa using hi)]at h2;rw[List.getElem?_replicate]at h2;split at h2<;>cases h2
  have ha:vs[i]?=some v:=by
   unfold start at h2;rw[Tq (by simpa using hi),CA]at h2;cases e:vs[i]? with
   |none=>rw[e]at h2;cases h2
   |some a=>rw[e]at h2;cases h2;rfl
  obtain⟨u,hu,rv⟩:=r.get ha;have hp:ps[i]?=some y:=by
   rw[←S.pre,List.getElem?_take_of_lt (by omega)];exact h1
  have ndP:ps.Nodup:=by rw[←S.pre];exact S.nd.sublist (U4 _ _)
  refine⟨u,rv,?_⟩;rcases S.par y (QA hp)with k|k
  ·exact .inl ⟨k,wK ndP hp hu k⟩
  ·obtain⟨c,e⟩:=Av (n:=s.heap.objs.size+ 1) k;refine .inr ⟨.inl k,c,e,?_⟩;have q:=x.cell y c e;rw[wC ndP hp hu (by show scope.names.lookup y≠_;rw[k];decide)]at q;exact q
 ·exact e0.hok.fresh (QG (x.above y c (RJ h)))
 ·unfold start;show _=N.length;rw[xp,gm,Ui];omega
theorem K0{K:cw}{base:Qg}{f:dk}{params:Arguments}{dV kV doc pm cdv ct oc:cT}{an od:Option dk}{osl:Array (Option cT)}(lk:K.lookup f=some ⟨oc,od,.func (SA name qual params body scope dV kV doc pm an cdv ct),osl⟩)(hcd:VY K cdv qual=true)(S:FnScope N ps scope)(len:∀vs H Q E,sp vs H Q E->vs.length=ps.length)(hbody:∀(A:QR) (outer:List S2) (s:lr) (H:Hp) (vs:List V) (Q:VK) (E:XK),Room k (A.deeper (envOfC qual scope s.heap.objs.size f cdv))->sp vs H Q E->
   ∃t,PSs (lM CX P w K mg base N qual scope f cdv A outer s H E) body t/\t {nx:=fun _ H'=>Q .non H',rt:=Q} (start N vs) H):
  FnOk P w K mg base CX (k+ 1) f (SA name qual params body scope dV kV doc pm an cdv ct) ps sp:=by
 refine⟨len,fun A outer s H args us vs Q E hr e0 hb r hsp=>?_⟩;have hl:=len _ _ _ _ hsp;have KX:K.In s.heap:=e0.mod.kin.keeps fun b o e=>(e0.bs b o e).1;have lim:s.heap.NoLimit:=e0.mod.nolimit.keeps fun b o e=>(e0.bs b o e).1;have hkind:∀y∈ps.zip us,scope.names.lookup y.1=some .local∨(scope.names.lookup y.1=some .cell/\((cellsFrom (s.heap.objs.size+ 1) scope.names []).lookup y.1).isSome=true):=fun⟨n,v⟩ hy=>by
  rcases S.par n (SV hy).1 with q|q
  ·exact .inl q
  ·exact .inr ⟨q,VM _ _ _ (.inl q)⟩
 refine codeAny_call_function hr.depth (KX _ _ lk) rfl S.co S.gen rfl (PySem.W.codeRec_of KX hcd) (hb _ _ _ _ ?_);refine wpAny_newFunctionEnv_cells S.kind hkind fun env he s1 x=>?_;subst he;refine⟨lim.keeps x.toInCall.keep,codeAny_func ?_⟩;obtain⟨t,ht,hq⟩:=hbody A outer s H vs Q E (hr.deeper _) hsp;have I:Inv (lM CX P w K mg base N qual scope f cdv A outer s H E) [] (start N vs) H s1:=DU S hr.hd e0 hl r x;refine wpAny_mono (ht [] s1 (start N vs) H _ I hq) (fun fl s' hs=>?_) fun e s' hs=>hs;have fin:∀{σ':St} {H':Hp} {v:V} {u:cT},Inv (lM CX P w K mg base N qual scope f cdv A outer s H E) [] σ' H' s'->RelV v u->Q v H'->CE outer P w H s Q u s':=
  fun{σ' H' v u} J rv q=>⟨v,H',J.os,J.bare,J.base,J.hok,rv,q⟩
 cases fl with
 |ret u=>
  obtain⟨v,σ',H',J,rv,q⟩:=hs;exact fin J rv q
 |next=>
  obtain⟨σ',H',J,q⟩:=hs;exact fin (v:=V.non) (u:=Q4) J rfl q
 |brk=>
  obtain⟨_,_,_,q⟩:=hs;exact Rz q
 |cont=>
  obtain⟨_,_,_,q⟩:=hs;exact Rz q
section
variable{t:TA}{id:String}{r:List V->Hp->VK->Prop}
def tCB(r:List V->Hp->VK->Prop)(t:TA):TE:=fun σ H Q=>t σ H fun vs H1=>r vs H1 Q
theorem aQ(hc:cE X (.builtin id) r)(hg:Gl X x)(hm:X.mg x=none)(hv:R8 x=some (.builtin id))(ha:PA X (e::es) t)(hn:x≠"__name__":=by decide)(hdb:(x==("__debug__":pe))=false:=by decide)
  (he:starEach (e::es) X.env=(false,eval e X.env)::starEach es X.env:=by rfl) (hpl:(backTo pos (starEach es X.env)).any (·.1)=false:=by rfl):PE X (.Call (.Name x p) (e::es) [] pos) (tCB r t):=by
 intro pins s σ H Q I h;refine RN (my I hg hm hv ?_ hn hdb);exact XJ (thn (ha pos pins s σ H _ I h) fun us s1 ⟨vs,H1,I1,r1,q1⟩=>hc pins s1 σ H1 vs us Q I1 r1 q1) he hpl
theorem bF(hc:cE X (.type T) r)(hg:Gl X x)(hm:X.mg x=none)(hv:R8 x=some (.type T))(ha:PA X (e::es) t)(hn:x≠"__name__":=by decide)(hdb:(x==("__debug__":pe))=false:=by decide)
  (he:starEach (e::es) X.env=(false,eval e X.env)::starEach es X.env:=by rfl) (hpl:(backTo pos (starEach es X.env)).any (·.1)=false:=by rfl):PE X (.Call (.Name x p) (e::es) [] pos) (tCB r t):=by
 intro pins s σ H Q I h;refine RN (my I hg hm hv ?_ hn hdb);exact S7 (thn (ha pos pins s σ H _ I h) fun us s1 ⟨vs,H1,I1,r1,q1⟩=>hc pins s1 σ H1 vs us Q I1 r1 q1) he hpl
end
section
variable{κ:Type}[DecidableEq κ]
def dP(kvs:List (κ×V))(k:κ):Option V:=(kvs.find? fun kv=>decide (kv.1=k)).map (·.2)
def putK(kvs:List (κ×V))(k:κ)(v:V):List (κ×V):=
 if(kvs.any fun kv=>decide (kv.1=k))=true then kvs.map (fun kv=>if kv.1=k then(kv.1,v)else kv)else kvs++[(k,v)]
theorem cN{p:κ×V}{r:List (κ×V)}{k:κ}(e:p.1=k):dP (p::r) k=some p.2:=by simp[dP,Sv,e]
theorem cP{p:κ×V}{r:List (κ×V)}{k:κ}(e:¬ p.1=k):dP (p::r) k=dP r k:=by simp[dP,Sv,e]
theorem pO(k:κ):∀kvs:List (κ×V),(kvs.any fun kv=>decide (kv.1=k))=(dP kvs k).isSome
 |[]=>rfl
 |p::r=>by
  rw[SS];by_cases e:p.1=k
  ·simp only[cN e,decide_eq_true e,Bool.true_or,Option.isSome_some]
  ·rw[cP e,decide_eq_false e,UT];exact pO k r
theorem zy(k j:κ)(y:V):∀kvs:List (κ×V),dP (kvs.map fun kv=>if kv.1=k then(kv.1,y)else kv) j=(dP kvs j).map fun x=>if j=k then y else x
 |[]=>rfl
 |p::r=>by
  have ih:=zy k j y r;rw[Qd];by_cases h:p.1=k
  ·rw[if_pos h];by_cases e:p.1=j
   ·rw[cN (p:=(p.1,y)) e,cN e,Sw,if_pos (e.symm.trans h)]
   ·rw[cP (p:=(p.1,y)) e,cP e,ih]
  ·rw[if_neg h];by_cases e:p.1=j
   ·rw[cN (p:=p) e,cN e,Sw,if_neg (fun z=>h (e.trans z))]
   ·rw[cP (p:=p) e,cP e,ih]
theorem wo(k j:κ)(y:V):∀kvs:List (κ×V),dP kvs k=none->dP (kvs++[(k,y)]) j=if j=k then some y else dP kvs j
 |[],_=>by
  by_cases e:k=j
  ·rw[if_pos e.symm];exact cN (p:=(k,y)) e
  ·rw[if_neg (fun z=>e z.symm)];exact cP (p:=(k,y)) e
 |p::r,hn=>by
  rw[List.cons_append];have hk:¬ p.1=k:=fun z=>by rw[cN z]at hn;cases hn
  rw[cP hk]at hn;have ih:=wo k j y r hn;by_cases e:p.1=j
  ·rw[cN e,cN e,if_neg (fun z=>hk (e.trans z))]
  ·rw[cP e,cP e,ih]
theorem Gu(kvs:List (κ×V))(k j:κ)(y:V):dP (putK kvs k y) j=if j=k then some y else dP kvs j:=by
 unfold putK;by_cases a:(kvs.any fun kv=>decide (kv.1=k))=true
 ·rw[if_pos a,zy];rw[pO]at a;by_cases e:j=k
  ·obtain⟨x,hx⟩:=Vf.mp a;rw[if_pos e,e,hx,Sw,if_pos rfl]
  ·rw[if_neg e];cases dP kvs j with
   |none=>rfl
   |some x=>rw[Sw,if_neg e]
 ·rw[if_neg a];refine wo k j y kvs ?_;rw[pO]at a;cases q:dP kvs k with
  |none=>rfl
  |some x=>rw[q]at a;exact(a rfl).elim
theorem mC(kvs:List (κ×V))(k:κ)(v:V):(putK kvs k v).length<=kvs.length+ 1:=by
 unfold putK;split
 ·rw[gm];omega
 ·rw[xp,QL,Sa];omega
theorem RelO.isSome_eq{o:Option V}{u:Option cT}(r:RelO o u):o.isSome=u.isSome:=by
 cases o with
 |none=>cases u with
  |none=>rfl
  |some _=>exact(show False from r).elim
 |some _=>cases u with
  |none=>exact(show False from r).elim
  |some _=>rfl
theorem RelO.getD{o:Option V}{u:Option cT}{d':cT}(r:RelO o u)(rd:RelV d d'):RelV (o.getD d) (u.getD d'):=by
 cases o with
 |none=>cases u with
  |none=>exact rd
  |some _=>exact(show False from r).elim
 |some _=>cases u with
  |none=>exact(show False from r).elim
  |some _=>exact r
theorem KV.val{kvs:List (κ×V)}{vs:List (κ×cT)}(r:KV kvs vs)(k:κ):RelO (dP kvs k) (valueAt vs k):=by
 unfold KV at r
 induction r with
 |nil=>exact RZ
 |@cons p q ps qs h t ih=>
  obtain⟨h1,h2⟩:=h;by_cases e:p.1=k
  ·have e':q.1=k:=h1.symm.trans e;have b:valueAt (q::qs) k=some q.2:=by simp[valueAt,Sv,e']
   rw[cN e,b];exact h2
  ·have e':¬ q.1=k:=fun z=>e (h1.trans z);have b:valueAt (q::qs) k=valueAt qs k:=by simp[valueAt,Sv,e']
   rw[cP e,b];exact ih
theorem KV.any{kvs:List (κ×V)}{vs:List (κ×cT)}(r:KV kvs vs)(k:κ):(kvs.any fun kv=>decide (kv.1=k))=vs.any fun kv=>decide (kv.1=k):=by
 unfold KV at r
 induction r with
 |nil=>rfl
 |cons h t ih=>rw[SS,SS,ih,h.1]
theorem KV.repl{kvs:List (κ×V)}{vs:List (κ×cT)}(r:KV kvs vs)(k:κ)(ry:RelV y u):
  KV (kvs.map fun kv=>if kv.1=k then(kv.1,y)else kv) (vs.map fun kv=>if kv.1=k then(kv.1,u)else kv):=by
 unfold KV at r⊢
 induction r with
 |nil=>exact .nil
 |@cons p q ps qs h t ih=>
  rw[Qd,Qd];refine .cons ?_ ih;obtain⟨h1,h2⟩:=h;by_cases e:p.1=k
  ·rw[if_pos e,if_pos (h1.symm.trans e)];exact⟨h1,ry⟩
  ·rw[if_neg e,if_neg (fun z=>e (h1.trans z))];exact⟨h1,h2⟩
theorem KV.put{kvs:List (κ×V)}{vs:List (κ×cT)}(r:KV kvs vs)(k:κ)(ry:RelV y u):KV (putK kvs k y) (stored vs k u):=by
 unfold putK stored;rw[r.any k];by_cases e:(vs.any fun kv=>decide (kv.1=k))=true
 ·rw[if_pos e,if_pos e];exact r.repl k ry
 ·rw[if_neg e,if_neg e];exact YG r ⟨rfl,ry⟩
theorem KV.length{kvs:List (κ×V)}{vs:List (κ×cT)}(r:KV kvs vs):kvs.length=vs.length:=Qk r
end
theorem wV{k:Key}(r:RelV (kV k) u):(aO P w).is k u=true:=by
 cases k with
 |inl i=>obtain⟨t,e⟩:=(show∃t,u=Ts i t from r);subst e;exact lO P w i t
 |inr x=>obtain⟨t,e⟩:=(show∃t,u=VC x t from r);subst e;exact yx P w x t
theorem vV{P:Qo}{w:Qu}:∀{ks:List Key} {us:List cT},Vals (ks.map kV) us->ItemsAre (aO P w) ks us
 |[],_,r=>by rw[Tw]at r;cases r;exact .nil
 |k::ks,_,r=>by
  rw[Qd]at r;cases r with
  |cons h t=>exact .cons (wV h) (vV t)
abbrev KT(H:Hp):List (List Key×V)->List (List Key×dk×cT)->Prop:=Paired fun p q=>p.1=q.1/\H q.2.1=some (.tup (p.1.map kV))/\RelV p.2 q.2.2
theorem KT.val(r:KT H kvs xs)(k:List Key):RelO (dP kvs k) ((atKey xs k).map (·.2)):=by
 induction r with
 |nil=>exact RZ
 |@cons p q ps qs h t ih=>
  obtain⟨h1,_,h2⟩:=h;by_cases e:p.1=k
  ·have e':q.1=k:=h1.symm.trans e;have b:atKey (q::qs) k=some q.2:=by simp[atKey,Sv,e']
   rw[cN e,b];exact h2
  ·have e':¬ q.1=k:=fun z=>e (h1.trans z);have b:atKey (q::qs) k=atKey qs k:=by simp[atKey,Sv,e']
   rw[cP e,b];exact ih
theorem KT.repl(r:KT H kvs xs)(k:List Key)(ry:RelV y u):
  KT H (kvs.map fun kv=>if kv.1=k then(kv.1,y)else kv) (xs.map (putAt k u)):=by
 induction r with
 |nil=>exact .nil
 |@cons p q ps qs h t ih=>
  rw[Qd,Qd];refine .cons ?_ ih;obtain⟨h1,h2,h3⟩:=h;unfold putAt;by_cases e:p.1=k
  ·rw[if_pos e,if_pos (h1.symm.trans e)];exact⟨h1,h2,ry⟩
  ·rw[if_neg e,if_neg (fun z=>e (h1.trans z))];exact⟨h1,h2,h3⟩
theorem KT.put(r:KT H kvs xs)(k:List Key)(hb:H b=some (.tup (k.map kV)))(ry:RelV y u):
  KT H (putK kvs k y) (storedH xs k b u):=by
 have e:(kvs.any fun kv=>decide (kv.1=k))=(atKey xs k).isSome:=by
  rw[pO,(r.val k).isSome_eq,W5]
 unfold putK storedH;rw[e];by_cases q:(atKey xs k).isSome=true
 ·rw[if_pos q,if_pos q];exact r.repl k ry
 ·rw[if_neg q,if_neg q];exact YG r ⟨rfl,hb,ry⟩
theorem KT.keeps(r:KT H kvs xs)(ht:∀b ys,H b=some (.tup ys)->H' b=some (.tup ys)):KT H' kvs xs:=
 Paired.mapP r fun _ _ z=>⟨z.1,ht _ _ z.2.1,z.2.2⟩
section
theorem K1{u:HO}(ok:HOk P w H h)(e:Rd H a u):ObjOk P w H h a u:=e.ok ok
theorem jm{kvs:List (Key×V)}(ok:HOk P w H h)(e:Rd H a (.dK kvs)):kvs.length<=sizeLine/\(a==Rm)=false/\∃vs,KV kvs vs/\h.DictOf (aO P w) a vs:=
 show ObjOk P w H h a (.dK kvs)from K1 ok e
theorem Dg{kvs:List (Key×V)}(ok:HOk P w H h)(e:H a=some (.dK kvs)):kvs.length<=sizeLine/\(a==Rm)=false/\∃vs,KV kvs vs/\h.DictOf (aO P w) a vs:=jm ok (.inl e)
theorem key_of{ks:List Key}(ok:HOk P w H h)(e:H a=some (.tup (ks.map kV))):(tupleKind (aO P w)).is h ks a:=by
 obtain⟨_,its,r,o,h1,h2,n,h3⟩:=(show ObjOk P w H h a (.tup (ks.map kV))from ok a _ e);exact⟨o,its.toArray,n,h1,h2,h3.1,by simpa using vV r⟩
theorem qc(ok:HOk P w H h)(e:Rd H a (.dT kvs)):kvs.length<=sizeLine/\(a==Rm)=false/\
  ∃xs,KT H kvs xs/\h.DictOfH (tupleKind (aO P w)) a xs:=by
 obtain⟨z,y,xs,r,o,es,ep,h1,h2,h3,h4,h5⟩:=(show ObjOk P w H h a (.dT kvs)from K1 ok e);refine⟨z,y,xs,r,o,es,ep,h1,h2,h3,h4,fun x hx=>?_,h5⟩;have all:∀{l:List (List Key×V)} {m:List (List Key×dk×cT)},KT H l m->∀x∈m,(tupleKind (aO P w)).is h x.1 x.2.1:=by
  intro l m q
  induction q with
  |nil=>intro x hx;exact nomatch hx
  |@cons p q ps qs hq t ih=>
   intro x hx;rcases uc.mp hx with e|hx
   ·subst e;exact key_of ok (by rw[←hq.1];exact hq.2.1)
   ·exact ih x hx
 exact all r x hx
theorem O9(ok:HOk P w H h)(e:H a=some (.dT kvs)):kvs.length<=sizeLine/\(a==Rm)=false/\
  ∃xs,KT H kvs xs/\h.DictOfH (tupleKind (aO P w)) a xs:=qc ok (.inl e)
end
def DGet(H:Hp)(a:dk)(y:V)(r:Option V):Prop:=
 (∃kvs k,Rd H a (.dK kvs)/\y=kV k/\r=dP kvs k)∨∃kvs k b,Rd H a (.dT kvs)/\y=.ref b/\H b=some (.tup (k.map kV))/\r=dP kvs k
def DPut(H:Hp)(a:dk)(y v:V)(H':Hp):Prop:=
 (∃kvs k,H a=some (.dK kvs)/\y=kV k/\kvs.length<sizeLine/\H'=upd H a (.dK (putK kvs k v)))∨
 ∃kvs k b,H a=some (.dT kvs)/\y=.ref b/\H b=some (.tup (k.map kV))/\kvs.length<sizeLine/\H'=upd H a (.dT (putK kvs k v))
theorem DGet.t{k:List Key}(e:H a=some (.dT kvs))(eb:H b=some (.tup (k.map kV))):DGet H a (.ref b) (dP kvs k):=.inr ⟨kvs,k,b,.inl e,rfl,eb,rfl⟩
theorem DPut.t{k:List Key}(e:H a=some (.dT kvs))(eb:H b=some (.tup (k.map kV)))(hl:kvs.length<sizeLine):
  DPut H a (.ref b) v (upd H a (.dT (putK kvs k v))):=.inr ⟨kvs,k,b,e,rfl,eb,hl,rfl⟩
section
variable{r:cT}{o:Option V}
theorem Inv.big(I:Inv X pins σ H s):Rm<s.heap.objs.size:=by
 have h:Qz<s.heap.objs.size:=(I.mod.glob.keeps I.bk).lt;exact Vg (by decide) h
theorem Ec(hu:A.units+ 1<RM)(I:Inv X pins σ H s)(g:DGet H a y (some v))(ry:RelV y u)(h:∀w' s',Inv X pins σ H s'->RelV v w'->Q w' s'):
  ni (model X.prog X.w) A (getItem (.ref a) u) Q E s:=by
 rcases g with⟨kvs,k,e,ey,l⟩|⟨kvs,k,b,e,ey,eb,l⟩
 ·subst ey;obtain⟨z,hd,vs,rel,dd⟩:=jm I.hok e;obtain⟨w',hw,rw'⟩:=RelO.some_of (v:=v) (o:=valueAt vs k) (by rw[l];exact rel.val k);exact wpAny_getItem_of (wV ry) dd.mapOf hw (h w' _ (I.tok _) rw')
 ·subst ey;cases (show u=zt b from ry);obtain⟨z,hd,xs,rel,dd⟩:=qc I.hok e;obtain⟨w',hw,rw'⟩:=RelO.some_of (v:=v) (o:=(atKey xs k).map (·.2)) (by rw[l];exact rel.val k);obtain⟨p,hp,hp2⟩:=VN.mp hw;refine wpAny_getItem_heap (tupleKind_room_in1 hu) (key_of I.hok eb) dd hp ?_;rw[hp2];exact h w' _ (I.tok _) rw'
theorem PR(hu:A.units+ 1<RM)(I:Inv X pins σ H s)(g:DGet H a y o)(ry:RelV y u)(h:∀s',Inv X pins σ H s'->Q (.bool o.isSome) s'):
  ni (model X.prog X.w) A (compareOp .In u (.ref a)) Q E s:=by
 rcases g with⟨kvs,k,e,ey,l⟩|⟨kvs,k,b,e,ey,eb,l⟩
 ·subst ey;obtain⟨z,hd,vs,rel,dd⟩:=jm I.hok e;refine wpAny_in_of (wV ry) hd dd.mapOf ?_;rw[←(rel.val k).isSome_eq,←l];exact h _ (I.tok _)
 ·subst ey;cases (show u=zt b from ry);obtain⟨z,hd,xs,rel,dd⟩:=qc I.hok e;refine wpAny_in_heap (tupleKind_room_in1 hu) (key_of I.hok eb) hd dd ?_;have q:=(rel.val k).isSome_eq;rw[W5]at q;rw[←q,←l];exact h _ (I.tok _)
theorem C9{ob:HO}(I:Inv X pins σ H s)(mu:Mut (H a))(hs:Rf a s.heap h')(he:∃q,h'.get? a=some q)(new:ObjOk X.prog X.w (upd H a ob) h' a ob):
  Inv X pins σ (upd H a ob) {s with heap:=h',toks:=t'}:=
 I.write (x:=a) (e:=a) mu (.inl rfl) (fun b q hb z=>(hs.2 b hb).trans z) he new
theorem yh{kvs:List (Key×V)}{vs:List (Key×cT)}(z:kvs.length<=sizeLine)(hd:(a==Rm)=false)(rel:KV kvs vs)(dd:h'.DictOf (aO P w) a vs):
  ObjOk P w H' h' a (.dK kvs):=⟨z,hd,vs,rel,dd⟩
theorem Fd{Q:Unit->lr->Prop}(hu:A.units+ 1<RM)(I:Inv X pins σ H s)(g:DPut H a y v H')(ry:RelV y u)(rv:RelV v r)(h:∀s',Inv X pins σ H' s'->Q () s'):
  ni (model X.prog X.w) A (setItem (.ref a) u r) Q E s:=by
 rcases g with⟨kvs,k,e,ey,l,eH⟩|⟨kvs,k,b,e,ey,eb,l,eH⟩
 ·subst ey eH;obtain⟨z,hd,vs,rel,dd⟩:=Dg I.hok e;have hz:vs.length<=sizeLine:=by rw[←rel.length];exact z
  have hl:(putK kvs k v).length<=sizeLine:=by have:=mC kvs k v;omega
  refine wpAny_setItem_pairs (hsz:=hz) (wV ry) dd fun h' dd' hs=>h _ ?_;have he:∃q,h'.get? a=some q:=let ⟨q,_,_,hq,_⟩:=dd';⟨q,hq⟩;exact C9 I (by rw[e];exact RZ) hs he (yh hl hd (rel.put k rv) dd')
 ·subst ey eH;cases (show u=zt b from ry);obtain⟨z,hd,xs,rel,dd⟩:=O9 I.hok e;have hz:xs.length<=sizeLine:=by rw[←Qk rel];exact z
  have hl:(putK kvs k v).length<=sizeLine:=by have:=mC kvs k v;omega
  refine wpAny_setItem_heap (hsz:=hz) (tupleKind_room_in1 hu) (key_of I.hok eb) dd fun h' dd' hs=>h _ ?_;obtain⟨q,es,ep,hq,h2,h3,h4,_,h5⟩:=dd';refine C9 I (by rw[e];exact RZ) hs ⟨q,hq⟩ ⟨hl,hd,_,(rel.put k eb rv).keeps fun c ys ec=>?_,q,es,ep,hq,h2,h3,h4,h5⟩;rw[aj (cR ec e (fun z=>nomatch z))];exact ec
end
section
variable{kvs:List (Key×V)}{k:Key}
theorem Ou(I:Inv X pins σ H s)(e:Rd H a (.dK kvs))(h:∀t s',Inv X pins σ H s'->Q (.int kvs.length t) s'):ni (model X.prog X.w) A (call (.builtin "len") [.ref a]) Q E s:=by
 obtain⟨z,hd,vs,rel,dd⟩:=jm I.hok e;refine call_len_dict hd dd (by rw[←rel.length];rw[RE]at z;omega) ?_;rw[←rel.length];exact h _ _ (I.tok _)
end
def N8(i:QC):Prop:=∀ov iv,subscripted i false ov iv=YN [ov,iv] (getItem ov iv)
theorem J5{slice:QC}{id:String}(hl:typeLookup (.type T) "__getitem__"=pure (some (.builtin id)))(hs:N8 slice)(h:ni (model prog w) A (eval value env) (fun o s₁=>ni (model prog w) A (eval slice env) (fun i s₂=>s₂.TypeIs o T/\ni (model prog w) A (getItem o i) Q E s₂) E s₁) E s):
  ni (model prog w) A (eval (.Subscript value slice pos) env) Q E s:=by
 refine XM (wpAny_mono h (fun o s₁ h₁=>wpAny_mono h₁ (fun i s₂ h₂=>?_) fun _ _ x=>x) fun _ _ x=>x);obtain⟨hT,h₂⟩:=h₂;unfold subscriptTail;refine wpAny_bind ?_;rw[getitemInPython_of_ne hT.not_modules];refine wpAny_bind (wpAny_specialOf hT hl ?_);have fin:ni (model prog w) A (subscripted slice false o i) (fun r s₃=>ni (model prog w) A (letTemporaryGo value o r >>= fun _=>pure r) Q E s₃) E s₂:=by
  rw[hs o i];exact wpAny_operating (wpAny_mono h₂ (fun r s₃ h₃=>wpAny_bind (wpAny_letTemporaryGo (wpAny_pure h₃))) fun _ _ x=>x)
 first
  |exact wpAny_pure (wpAny_bind fin)
  |exact wpAny_bind (wpAny_pure (wpAny_bind fin))
  |exact wpAny_bind fin
theorem yZ{o:Option V}(I:Inv X pins σ H s)(g:DGet H a y o):s.TypeIs (.ref a) "dict":=by
 rcases g with⟨kvs,k,e,_,_⟩|⟨kvs,k,b,e,_,_,_⟩
 ·obtain⟨_,_,vs,_,dd⟩:=jm I.hok e;exact dd.typeIs
 ·obtain⟨_,_,xs,_,dd⟩:=qc I.hok e;exact dd.typeIs
def K4(td ty:TE):TE:=fun σ H Q=>td σ H fun x H1=>ty σ H1 fun y H2=>∃a v,x=.ref a/\DGet H2 a y (some v)/\Q v H2
def O8(ty td:TE):TE:=fun σ H Q=>ty σ H fun y H1=>td σ H1 fun x H2=>∃a o,x=.ref a/\DGet H2 a y o/\Q (.bl o.isSome) H2
def Co(td ty tv:TE):TS:=fun D σ H=>tv σ H fun v H1=>td σ H1 fun x H2=>ty σ H2 fun y H3=>∃a H4,x=.ref a/\DPut H3 a y v H4/\D.nx σ H4
section
variable{o i:QC}
theorem yc(hu:X.A.units+ 1<RM)(ho:PE X o td)(hi:PE X i ty)(hs:N8 i):PE X (.Subscript o i pos) (K4 td ty):=by
 intro pins s σ H Q I h;refine J5 PySem.F.slot_dict_getitem.lookup hs (thn (ho pins s σ H _ I h) fun u s1 ⟨x,H1,I1,rx,q1⟩=>thn (hi pins s1 σ H1 _ I1 q1) fun iv s2 zz=>?_);obtain⟨y,H2,I2,ry,a,v,ex,g,q2⟩:=zz;subst ex;obtain rfl:u=zt a:=rx;exact⟨yZ I2 g,Ec hu I2 g ry fun w' s3 I3 rw'=>⟨v,H2,I3,rw',q2⟩⟩
theorem LU(hu:X.A.units+ 1<RM)(hi:PE X i ty)(ho:PE X o td):PC X .In i o (O8 ty td):=by
 intro pins s σ H Q I h;refine thn (hi pins s σ H _ I h) fun iv s1 ⟨y,H1,I1,ry,q1⟩=>thn (ho pins s1 σ H1 _ I1 q1) fun u s2 zz=>?_;obtain⟨x,H2,I2,rx,a,ov,ex,g,q2⟩:=zz;subst ex;obtain rfl:u=zt a:=rx;exact PR hu I2 g ry fun s3 I3=>⟨.bl ov.isSome,H2,I3,rfl,q2⟩
theorem qt(hu:X.A.units+ 1<RM)(ho:PE X o td)(hi:PE X i ty)(hv:PE X value tv)(hs:Ue value (some (.Subscript o i pos')) pos.line X.env=pure false):
  PS X (.Assign [.Subscript o i pos'] value pos) (Co td ty tv):=by
 intro pins s σ H D I h;refine wpAny_Assign_Subscript (thn (hv pins s σ H _ I h) fun r s1 ⟨v,H1,I1,rv,q1⟩=>thn (ho pins s1 σ H1 _ I1 q1) fun u s2 ⟨x,H2,I2,rx,q2⟩=>thn (hi pins s2 σ H2 _ I2 q2) fun iv s3 zz=>?_) hs;obtain⟨y,H3,I3,ry,a,H4,ex,g,q3⟩:=zz;subst ex;obtain rfl:u=zt a:=rx;exact Fd hu I3 g ry rv fun s4 I4=>⟨σ,H4,I4,q3⟩
end
theorem GG(h:Qg)(hb:Rm<h.objs.size):ObjOk P w H (h.push {cls:=.type "dict",data:=.dict #[]}) h.objs.size (.dK []):=
 ⟨Qt _,beq_eq_false_iff_ne.mpr (QH (xy hb)),[],.nil,Heap.DictOf.new h⟩
theorem FX(h:Qg)(hb:Rm<h.objs.size):ObjOk P w H (h.push {cls:=.type "dict",data:=.dict #[]}) h.objs.size (.dT []):=
 ⟨Qt _,beq_eq_false_iff_ne.mpr (QH (xy hb)),[],.nil,_,#[],0,rl _ rfl,⟨rfl,rfl,rfl⟩,rfl,rfl,VZ⟩
def Ii:TE:=fun _ H Q=>∀p,H p=none->Q (.ref p) (upd H p (.dK []))
def NC:TE:=fun _ H Q=>∀p,H p=none->Q (.ref p) (upd H p (.dT []))
section
theorem uY:PE X (.Dict [] [] pos) Ii:=fun pins s σ H Q I h=>
 Xn ⟨.ref s.heap.objs.size,_,I.laid (a:=s.heap.objs.size) (o:=.dK []) (t':=s.toks) (fun _ _ q=>gf _ q) (oh _) (GG s.heap I.big),rfl,h _ (I.hok.fresh (oh _))⟩
theorem Ij:PE X (.Dict [] [] pos) NC:=fun pins s σ H Q I h=>
 Xn ⟨.ref s.heap.objs.size,_,I.laid (a:=s.heap.objs.size) (o:=.dT []) (t':=s.toks) (fun _ _ q=>gf _ q) (oh _) (FX s.heap I.big),rfl,h _ (I.hok.fresh (oh _))⟩
end
def qU(kvs more:List (Key×V)):List (Key×V):=more.foldl (fun acc kv=>putK acc kv.1 kv.2) kvs
theorem KV.merge:∀{more:List (Key×V)} {rs:List (Key×cT)} {kvs:List (Key×V)} {vs:List (Key×cT)},KV more rs->KV kvs vs->KV (qU kvs more) (merged vs rs):=by
 intro more rs kvs vs r;unfold KV at r
 induction r generalizing kvs vs with
 |nil=>intro q;exact q
 |@cons p q ps qs h t ih=>
  intro r0;have e:KV (putK kvs p.1 p.2) (stored vs q.1 q.2):=by
   have:=r0.put p.1 h.2;rw[←h.1];exact this
  exact ih e
structure M1(X:Cx)(o:QC)(m:pe)(apos:Sz)(e:QC)(cpos:Sz):Prop where
 base:Sk o m X.env (eval o X.env)=eval o X.env
 few:((backTo cpos (starEach [e] X.env)).all (fun x=>!x.1)&&(backToKw cpos (keywordEach [] X.env)).all (fun x=>x.1.isSome)
  &&decide (([e]:List QC).length+ ([]:List Uh).length+ (if([]:List Uh).isEmpty then 0 else 1)<30))=true
 line:(apos.endLine==cpos.line)=true
 trees:backTo cpos (starEach [e] X.env)=[(false,eval e X.env)]
structure M2(X:Cx)(o:QC)(m:pe)(apos:Sz)(e f:QC)(cpos:Sz):Prop where
 base:Sk o m X.env (eval o X.env)=eval o X.env
 few:((backTo cpos (starEach [e,f] X.env)).all (fun x=>!x.1)&&(backToKw cpos (keywordEach [] X.env)).all (fun x=>x.1.isSome)
  &&decide (([e,f]:List QC).length+ ([]:List Uh).length+ (if([]:List Uh).isEmpty then 0 else 1)<30))=true
 line:(apos.endLine==cpos.line)=true
 trees:backTo cpos (starEach [e,f] X.env)=[(false,eval e X.env),(false,eval f X.env)]
def IsD(H:Hp)(a:dk):Prop:=(∃kvs,Rd H a (.dK kvs))∨∃kvs,Rd H a (.dT kvs)
theorem FR(I:Inv X pins σ H s)(d:IsD H a):
  s.TypeIs (.ref a) "dict"/\(∀b,zt a=.ref b->∃ob,s.heap.get? b=some ob/\ob.dict=none)/\(a==Rm)=false:=by
 rcases d with⟨kvs,e⟩|⟨kvs,e⟩
 ·obtain⟨_,hd,vs,_,dd⟩:=jm I.hok e;refine⟨dd.typeIs,fun b q=>?_,hd⟩;cases q;obtain⟨ob,_,_,h1,h2,_⟩:=dd;exact⟨ob,h1,h2.2.1⟩
 ·obtain⟨_,hd,xs,_,dd⟩:=qc I.hok e;refine⟨dd.typeIs,fun b q=>?_,hd⟩;cases q;obtain⟨ob,_,_,h1,h2,_⟩:=dd;exact⟨ob,h1,h2.2.1⟩
section
variable{r:cT}{o:Option V}
theorem Ls(hu:A.units+ 1<RM)(I:Inv X pins σ H s)(g:DGet H a y o)(ry:RelV y u)(h:∀w' s',Inv X pins σ H s'->RelV (o.getD .non) w'->Q w' s'):
  ni (model X.prog X.w) A (call (.builtin "dict.get") [.ref a,u]) Q E s:=by
 rcases g with⟨kvs,k,e,ey,l⟩|⟨kvs,k,b,e,ey,eb,l⟩
 ·subst ey;obtain⟨z,hd,vs,rel,dd⟩:=jm I.hok e;refine S4 R5 dd.typeIs SX (Vt _ _) (meets_dict_get (aO X.prog X.w) a (wV ry) hd) ⟨_,dd.mapOf,h _ _ (I.tok _) ?_⟩;rw[l];exact(rel.val k).getD rfl
 ·subst ey;cases (show u=zt b from ry);obtain⟨z,hd,xs,rel,dd⟩:=qc I.hok e;refine S4 R5 dd.typeIs SX (Vt _ _) (meetsH_dict_get (tupleKind (aO X.prog X.w)) a b hd) ⟨tupleKind_room_in1 hu,k,xs,key_of I.hok eb,dd,h _ _ (I.tok _) ?_⟩;rw[l];exact(rel.val k).getD rfl
theorem Nt(hu:A.units+ 1<RM)(I:Inv X pins σ H s)(g:DGet H a y o)(ry:RelV y u)(rd:RelV d r)(h:∀w' s',Inv X pins σ H s'->RelV (o.getD d) w'->Q w' s'):
  ni (model X.prog X.w) A (call (.builtin "dict.get") [.ref a,u,r]) Q E s:=by
 rcases g with⟨kvs,k,e,ey,l⟩|⟨kvs,k,b,e,ey,eb,l⟩
 ·subst ey;obtain⟨z,hd,vs,rel,dd⟩:=jm I.hok e;refine S4 R5 dd.typeIs SX (Vu _ _ _) (meets_dict_get_default (aO X.prog X.w) a (wV ry) hd r) ⟨_,dd.mapOf,h _ _ (I.tok _) ?_⟩;rw[l];exact(rel.val k).getD rd
 ·subst ey;cases (show u=zt b from ry);obtain⟨z,hd,xs,rel,dd⟩:=qc I.hok e;refine S4 R5 dd.typeIs SX (Vu _ _ _) (meetsH_dict_get_default (tupleKind (aO X.prog X.w)) a b hd r) ⟨tupleKind_room_in1 hu,k,xs,key_of I.hok eb,dd,h _ _ (I.tok _) ?_⟩;rw[l];exact(rel.val k).getD rd
end
def HZ(td ty:TE):TE:=fun σ H Q=>td σ H fun x H1=>∃a,x=.ref a/\IsD H1 a/\ty σ H1 fun y H2=>∃o,DGet H2 a y o/\Q (o.getD .non) H2
def MW(td ty tx:TE):TE:=fun σ H Q=>td σ H fun x H1=>∃a,x=.ref a/\IsD H1 a/\ty σ H1 fun y H2=>tx σ H2 fun z H3=>∃o,DGet H3 a y o/\Q (o.getD z) H3
section
variable{o f:QC}{cpos:Sz}{tx:TE}
theorem Hb(hu:X.A.units+ 1<RM)(ho:PE X o td)(he:PE X e ty)(m:M1 X o "get" apos e cpos):PE X (.Call (.Attribute o "get" apos) [e] [] cpos) (HZ td ty):=by
 intro pins s σ H Q I h;refine W6 m.base m.few m.line Ry R5 V0 (thn (ho pins s σ H _ I h) fun u s1 zz=>?_);obtain⟨x,H1,I1,rx,a,ex,d,q1⟩:=zz;subst ex;obtain rfl:u=zt a:=rx;obtain⟨t1,t2,_⟩:=FR I1 d;refine⟨t1,t2,?_⟩;rw[m.trees];refine RX rfl (Ur (Tv (thn (he pins s1 σ H1 _ I1 q1) fun iv s2 ⟨y,H2,I2,ry,ov,g,q2⟩=>U3 ?_)));exact Ls hu I2 g ry fun w' s3 I3 rw'=>⟨_,H2,I3,rw',q2⟩
theorem GZ(hu:X.A.units+ 1<RM)(ho:PE X o td)(he:PE X e ty)(hf:PE X f tx)(m:M2 X o "get" apos e f cpos):PE X (.Call (.Attribute o "get" apos) [e,f] [] cpos) (MW td ty tx):=by
 intro pins s σ H Q I h;refine W6 m.base m.few m.line Ry R5 V0 (thn (ho pins s σ H _ I h) fun u s1 zz=>?_);obtain⟨x,H1,I1,rx,a,ex,d,q1⟩:=zz;subst ex;obtain rfl:u=zt a:=rx;obtain⟨t1,t2,_⟩:=FR I1 d;refine⟨t1,t2,?_⟩;rw[m.trees];refine RX rfl (Ur (Tv (thn (he pins s1 σ H1 _ I1 q1) fun iv s2 ⟨y,H2,I2,ry,q2⟩=>
  Tv (thn (hf pins s2 σ H2 _ I2 q2) fun fv s3 ⟨z,H3,I3,rz,ov,g,q3⟩=>U3 ?_))))
 exact Nt hu I3 g ry rz fun w' s4 I4 rw'=>⟨_,H3,I4,rw',q3⟩
end
section
variable{kvs:List (Key×V)}
theorem FF(I:Inv X pins σ H s)(e:Rd H a (.dK kvs))(h:∀p s',H p=none->Inv X pins σ (upd H p (.dK kvs)) s'->Q (.ref p) s'):ni (model X.prog X.w) A (call (.type "dict") [.ref a]) Q E s:=by
 obtain⟨z,hd,vs,rel,dd⟩:=jm I.hok e;refine kt_call_dict hd dd (by rw[←rel.length];exact z) fun h' dd' hs=>?_;refine h _ _ (I.hok.fresh (oh _)) (I.laid (a:=s.heap.objs.size) (o:=.dK kvs) (t':=s.toks) (fun b q hq=>?_) (oh _) (yh z (beq_eq_false_iff_ne.mpr (QH (xy I.big))) rel dd'));exact(hs.2 b (xy (vc hq))).trans (gf _ hq)
end
section
end
end L2
namespace HT
open PySem PyProof.Rows
variable{items:Array cT}{Q:cT->lr->Prop}{sl:dk}{vl vu:cT}{hi:Option Int}
def lexLt:List Int->List Int->Bool
 |[],[]=>false
 |[],_::_=>true
 |_::_,[]=>false
 |x::xs,y::ys=>if x=y then lexLt xs ys else decide (x<y)
theorem jN(x y:Int)(xs ys:List Int):lexLt (x::xs) (y::ys)=if x=y then lexLt xs ys else decide (x<y):=rfl
theorem vL:lexLt [] []=false:=rfl
theorem u4(y:Int)(ys:List Int):lexLt [] (y::ys)=true:=rfl
theorem uy(x:Int)(xs:List Int):lexLt (x::xs) []=false:=rfl
theorem Hy(A:QR)(s:lr)(a:Int)(t:TQ)(c:Int)(u:TQ):∃e,SeqAt.EqAt A s (.int a t) (.int c u) e/\(e=true↔a=c):=
 ⟨(a==c),SeqAt.EqAt.int_int a t c u,by simp⟩
theorem F5(A:QR)(s:lr)(a:Int)(t:TQ)(c:Int)(u:TQ)(prog:Qo)(w:Qu)(E:cT->lr->Prop)(Q:cT->lr->Prop)(h:Q (.bool (decide (a<c))) s):
  ni (model prog w) A (richCompare .Lt (.int a t) (.int c u)) Q E s:=
 (PyProof.Rows.lt_int h:ni (model prog w) A (compareOp .Lt (.int a t) (.int c u)) Q E s)
section
open PySem.SeqAt
open PySem.AutoSeq1 (wpAny_loadPart')
open PySem.MeetsSeq PySem.MeetsSeq2 PySem.MeetsSeq3
theorem vM(l b:dk)(items items2:Array cT)(n n2:Nat)(dd dd2:Option dk)(sl sl2:Array (Option cT))(ns ms:List Int)(hi:IntsAre items.toList ns)(hj:IntsAre items2.toList ms):
  Meets (QU.«tuple.__lt__» ⟨[.ref l,.ref b],[]⟩)
   (fun _ R s=>s.heap.get? l=some {cls:=.type "tuple",dict:=dd,data:=.seq items n,slots:=sl}/\s.heap.get? b=some {cls:=.type "tuple",dict:=dd2,data:=.seq items2 n2,slots:=sl2}/\
    R (.ok (.ret (.bool (lexLt ns ms)))) s):=
 .of_wp fun prog w A R s h=>by
  obtain⟨hp,g,d,tk,os⟩:=s;obtain⟨hl,hb,h⟩:=h;have f2:=AutoSeq1.sub_tuple_tuple;have z1:items.size=ns.length:=by rw[←hi.length];simp
  have z2:items2.size=ms.length:=by rw[←hj.length];simp
  wp_walk using wpAny_loadPart' hl,wpAny_loadPart' hb,wpAny_forIn_list _ (fun rest b s'=>b.1=none/\s'=⟨hp,g,d,tk,os⟩/\∃(vs ws:List cT) (ns' ms':List Int),rest=vs.zip ws/\
   IntsAre vs ns'/\IntsAre ws ms'/\ns'.length+ items2.size=ms'.length+ items.size/\R (.ok (.ret (.bool (lexLt ns' ms')))) ⟨hp,g,d,tk,os⟩) _
  case turn=>
   rintro⟨y,x⟩ rest b s' ⟨hb',rfl,vs,ws,ns',ms',hz,hvi,hwi,hlen,hR⟩;cases hvi with
   |nil=>rw[List.zip_nil_left]at hz;cases hz
   |cons a t hvi'=>
    cases hwi with
    |nil=>rw[List.zip_nil_right]at hz;cases hz
    |cons c u hwi'=>
     rw[UN]at hz;injection hz with hyx hrest;injection hyx with hy hx;subst hy hx;rw[jN]at hR;simp only[QL]at hlen;obtain⟨e,he,hiff⟩:=Hy A.in1 ⟨hp,g,d,tk,os⟩ a t c u;refine wpAny_bind (he prog w _ _ ?_);cases e with
     |true=>
      rw[if_pos (hiff.mp rfl)]at hR
      wp_walk
      exact⟨rfl,rfl,_,_,_,_,hrest,hvi',hwi',by omega,hR⟩
     |false=>
      rw[if_neg (fun q=>absurd (hiff.mpr q) Qn)]at hR;have hri:=F5 A.in1 ⟨hp,g,d,tk,os⟩ a t c u prog w
      wp_walk using hri
      exact⟨_,rfl,by simpa using hR⟩
  case fin=>
   rintro⟨b1,b2⟩ s' ⟨hb',rfl,vs,ws,ns',ms',hz,hvi,hwi,hlen,hR⟩;simp only at hb';subst hb';have hv:lexLt ns' ms'=decide (items.size<items2.size):=by
    cases hvi with
    |nil=>
     cases hwi with
     |nil=>
      simp only[Sa]at hlen;rw[vL];exact(decide_eq_false (by omega)).symm
     |cons c u hw=>
      simp only[Sa,QL]at hlen;rw[u4];exact(decide_eq_true (by omega)).symm
    |cons a t hv=>
     cases hwi with
     |nil=>
      simp only[Sa,QL]at hlen;rw[uy];exact(decide_eq_false (by omega)).symm
     |cons c u hw=>
      rw[UN]at hz;cases hz
   rw[hv]at hR
   wp_walk
   exact⟨_,rfl,by simpa [XE]using hR⟩
  case h=>
   exact⟨rfl,rfl,items.toList,items2.toList,ns,ms,rfl,hi,hj,by omega,h⟩
end
section
variable{prog:Qo}{w:Qu}{A:QR}{E:cT->lr->Prop}{s:lr}
theorem Bm{l b:dk}{items2:Array cT}{ns ms:List Int}(hl:Yu s.heap l items)(hb:Yu s.heap b items2)(hi:IntsAre items.toList ns)(hj:IntsAre items2.toList ms)(hu:A.units<RM)(h:Q (.bool (lexLt ns ms)) s):ni (model prog w) A (compareOp .Lt (.ref l) (.ref b)) Q E s:=by
 obtain⟨⟨cls,dd,data,sl⟩,ho,hc,n,hd⟩:=id hl;obtain⟨⟨cls2,dd2,data2,sl2⟩,ho2,hc2,n2,hd2⟩:=id hb;simp only at hc hd hc2 hd2;subst hc hd hc2 hd2;exact richCompare_meets_room (op:=.Lt) ⟨_,ho,rfl⟩ ⟨_,ho2,rfl⟩ PySem.F.slot_tuple_lt PySem.F.entry_tuple_lt (PySem.F.args_tuple_lt_2 _ _) (vM l b items items2 n n2 dd dd2 sl sl2 ns ms hi hj)
  ⟨ho,ho2,show Ta (lexLt ns ms)≠Value.notImplemented/\Q (.bool (lexLt ns ms)) s from⟨(fun x=>nomatch x),h⟩⟩ hu
def sIx(n d:Nat):Option Int->Nat
 |none=>d
 |some v=>if v<0 then(v+ (n:Int)).toNat else min v.toNat n
theorem MQ(n d:Nat)(hd:d<=n)(o:Option Int):sIx n d o<=n:=by
 cases o with
 |none=>exact hd
 |some v=>
  show(if v<0 then(v+ (n:Int)).toNat else min v.toNat n)<=n;by_cases hv:v<0
  ·rw[if_pos hv];omega
  ·rw[if_neg hv];exact Nat.min_le_right _ _
theorem Dm(v:Int)(n d:Nat):(if v<0 then max (v+ (n:Int)) 0 else min v (n:Int))=((sIx n d (some v):Nat):Int):=by
 show(if v<0 then max (v+ (n:Int)) 0 else min v (n:Int))=(((if v<0 then(v+ (n:Int)).toNat else min v.toNat n):Nat):Int);by_cases hv:v<0
 ·simp only[if_pos hv];omega
 ·simp only[if_neg hv];omega
theorem A9(lo hi:Option Int)(n:Nat):Tr lo hi 1 (n:Int)=(((sIx n 0 lo:Nat):Int),((sIx n n hi:Nat):Int)):=by
 have h1:¬ ((1:Int)<0):=by omega
 unfold Tr;simp only[h1,if_false];refine Prod.ext ?_ ?_
 ·cases lo with
  |none=>rfl
  |some v=>exact Dm v n 0
 ·cases hi with
  |none=>rfl
  |some v=>exact Dm v n n
theorem B0(i j:Nat):SE (i:Int) (j:Int) 1=j-i:=by
 unfold SE;have h1:(1:Int)>0:=by omega
 simp only[h1,if_true,Int.ediv_one];split<;>omega
theorem tZ{v:cT}{o:Option Int}{Q:Option Int->lr->Prop}(p:Vh v o)(h:Q o s):ni (model prog w) A (X7 v) Q E s:=by
 cases p with
 |none=>exact slicePart_none h
 |int i t=>exact slicePart_int h
theorem rm{lo:Option Int}{n:Nat}{Q:Int×Int×Nat->lr->Prop}(hs:s.heap.IsSliceOf sl vl vu .none)(pl:Vh vl lo)(pu:Vh vu hi)(h:Q (((sIx n 0 lo:Nat):Int),1,sIx n n hi-sIx n 0 lo) s):ni (model prog w) A (UU (.ref sl) (pure (n:Int))) Q E s:=by
 obtain⟨os,hos,hcs,hds⟩:=id hs;unfold UU Yv;refine wpAny_bind (wpAny_bind (wpAny_field hos hds (x:=vl) rfl (wpAny_bind (wpAny_field hos hds (x:=vu) rfl (wpAny_bind (wpAny_field hos hds (x:=.none) rfl (wpAny_pure ?_)))))));refine wpAny_bind (slicePart_none ?_);show ni _ _ (if((1:Int)==0)=true then _ else _) _ _ s;rw[if_neg (by decide)];refine wpAny_bind (tZ pl (wpAny_bind (tZ pu (wpAny_bind (wpAny_pure ?_)))));show ni _ _ (match Tr lo hi 1 (n:Int)with|(lo,hi)=>pure (lo,(1:Int),SE lo hi 1)) _ _ s;rw[A9 lo hi n];show ni _ _ (pure (((sIx n 0 lo:Nat):Int),(1:Int),SE ((sIx n 0 lo:Nat):Int) ((sIx n n hi:Nat):Int) 1)) _ _ s;rw[B0];exact wpAny_pure h
theorem Ga(xs:Array cT)(i k:Nat):((QF k).filterMap fun(m:Nat)=>xs[((i:Int)+ (m:Int)*1).toNat]?).toArray=((xs.toList.drop i).take k).toArray:=by
 have e:(fun(m:Nat)=>xs[((i:Int)+ (m:Int)*1).toNat]?)=fun m=>xs[i+ m]?:=by
  funext m;have:((i:Int)+ (m:Int)*1).toNat=i+ m:=by omega
  rw[this]
 rw[e];have:=pick_run xs i k;rw[List.filterMap_map]at this;have e2:((fun x=>xs[x]?)∘fun x=>i+ x)=fun m=>xs[i+ m]?:=rfl;rw[e2]at this;rw[this]
theorem oY{t:dk}{lo:Option Int}(ht:Yu s.heap t items)(hs:s.heap.IsSliceOf sl vl vu .none)(pl:Vh vl lo)(pu:Vh vu hi)(hw:¬ (sIx items.size 0 lo=0/\sIx items.size items.size hi=items.size))(h:Q (.ref s.heap.objs.size) {s with heap:=s.heap.push {cls:=.type "tuple",data:=.seq ((items.toList.drop (sIx items.size 0 lo)).take (sIx items.size items.size hi-sIx items.size 0 lo)).toArray}})(hsz:items.size<=sizeLine):ni (model prog w) A (getItem (.ref t) (.ref sl)) Q E s:=by
 have htake:sizeOk (.seq ((items.toList.drop (sIx items.size 0 lo)).take (sIx items.size items.size hi-sIx items.size 0 lo)).toArray):=by
  show((items.toList.drop (sIx items.size 0 lo)).take (sIx items.size items.size hi-sIx items.size 0 lo)).toArray.size<=sizeLine;rw[xu,Q9,Vi,QI];omega
 have hj:sIx items.size items.size hi<=items.size:=MQ _ _ (oh _) hi;obtain⟨os,hos,hcs,hds⟩:=id hs;have hTs:s.TypeIs (.ref sl) "slice":=⟨os,hos,hcs⟩;unfold getItem
 try with_reducible refine wpAny_holding ?_
 first|refine wpAny_bind (wpAny_pure ?_)|skip
 refine wpAny_bind (wpAny_sequenceKey ht.typeIs (by decide) ?_);refine wpAny_bind (Rc (name:=QO "__getitem__") ht.typeIs Sm
  (wpAny_call_entry Sm ht.typeIs entry_tuple_getitem ?_ (args_tuple_getitem _ _)))
 show ni _ _ (Ym (.ref t) >>= _) _ _ s;refine wpAny_bind (tupleItemsOf_ ht ?_);refine wpAny_bind (wpAny_typeOf hTs ?_);rw[if_pos (by decide)];refine wpAny_bind (rm hs pl pu ?_);have hno:¬ ((((sIx items.size 0 lo:Nat):Int)==0&&(1:Int)==1&&(sIx items.size items.size hi-sIx items.size 0 lo)==items.size)=true):=by
  intro q;rw[Ub,Ub]at q;have q1:((sIx items.size 0 lo:Nat):Int)=0:=eq_of_beq q.1.1;have q2:sIx items.size items.size hi-sIx items.size 0 lo=items.size:=eq_of_beq q.2;exact hw ⟨by omega,by omega⟩
 show ni _ _ (if(((sIx items.size 0 lo:Nat):Int)==0&&(1:Int)==1&&(sIx items.size items.size hi-sIx items.size 0 lo)==items.size)=true then _ else _) _ _ s;rw[if_neg hno,Ga]
 first
  |exact wpAny_bind (m:=SM _) (wpAny_newObj_type (wpAny_pure ⟨_,rfl,wpAny_pure h⟩) htake)
  |exact wpAny_bind (m:=SM _) (wpAny_newObj_type (wpAny_bind (wpAny_pure (wpAny_pure ⟨_,rfl,wpAny_pure h⟩))) htake)
  |exact wpAny_bind (wpAny_bind (m:=SM _) (wpAny_newObj_type (wpAny_pure (wpAny_pure ⟨_,rfl,wpAny_pure h⟩)) htake))
  |exact wpAny_bind (wpAny_bind (m:=SM _) (wpAny_newObj_type (wpAny_pure ⟨_,rfl,wpAny_pure h⟩) htake))
end
end HT
namespace L2
open PySem PySem.Spec PyProof.Rows
variable{X:Cx}{e:QC}{pos:Sz}{n j t':Nat}{i:Int}{r:R2}{pins:List (dk×QM)}{σ:St}{H:Hp}{s:lr}{T:String}{its:List cT}
abbrev TO:=St->Hp->(Option Int->Hp->Prop)->Prop
def PO(X:Cx)(e:Option QC)(t:TO):Prop:=
 ∀(pins:List (dk×QM)) (s:lr) (σ:St) (H:Hp) (Q:Option Int->Hp->Prop),Inv X pins σ H s->t σ H Q->
  ni (model X.prog X.w) X.A (evalPart e X.env) (fun u s'=>∃o H',Inv X pins σ H' s'/\Vh u o/\Q o H') X.xe s
def CN:TO:=fun _ H Q=>Q none H
def K9(t:TE):TO:=fun σ H Q=>t σ H fun x H1=>∃i,x=.int i/\Q (some i) H1
theorem intsAre_of{ns:List Int}:∀{us:List cT},Vals (ns.map V.int) us->IntsAre us ns:=by
 induction ns with
 |nil=>intro us r;rw[Tw]at r;cases r;exact .nil
 |cons n ns ih=>
  intro us r;rw[Qd]at r;cases r with
  |cons r1 r2=>
   obtain⟨t,e⟩:=r1;subst e;exact .cons n t (ih r2)
section
variable{te:TE}{lo hi:Option QC}{tl th:TO}{p2:Sz}
theorem mU:PO X none CN:=by
 intro pins s σ H Q I h;rw[Yn];exact wpAny_pure ⟨none,H,I,.none,h⟩
theorem iK(h:PE X e te):PO X (some e) (K9 te):=by
 intro pins s σ H Q I hw;rw[evalPart_some];refine thn (h pins s σ H _ I hw) fun u s1 zz=>?_;obtain⟨x,H1,I1,r1,q1⟩:=zz;obtain⟨i,rfl,q⟩:=q1;obtain⟨t,rfl⟩:=r1;exact⟨some i,H1,I1,.int i t,q⟩
def SlR(X:Cx)(r:V->Option Int->Option Int->Hp->VK->Prop):Prop:=
 ∀(pins:List (dk×QM)) (s:lr) (σ:St) (H:Hp) (x:V) (v vl vu:cT) (lo hi:Option Int) (sl:dk) (Q:VK),Inv X pins σ H s->RelV x v->s.heap.IsSliceOf sl vl vu .none->Vh vl lo->Vh vu hi->r x lo hi H Q->
  ∃T id,typeLookup (.type T) "__getitem__"=pure (some (.builtin id))/\s.TypeIs v T/\ni (model X.prog X.w) X.A (getItem v (.ref sl)) (EP X pins σ Q) X.xe s
def tSl(r:V->Option Int->Option Int->Hp->VK->Prop)(te:TE)(tl th:TO):TE:=fun σ H Q=>te σ H fun x H1=>tl σ H1 fun l H2=>th σ H2 fun u H3=>r x l u H3 Q
theorem hU{r:V->Option Int->Option Int->Hp->VK->Prop}(hr:SlR X r)(he:PE X e te)(hl:PO X lo tl)(hu:PO X hi th):PE X (.Subscript e (.Slice lo hi none p2) pos) (tSl r te tl th):=by
 intro pins s σ H Q I h;refine XM (thn (he pins s σ H _ I h) fun v s1 zz=>?_);obtain⟨x,H1,I1,r1,q1⟩:=zz;refine wpAny_Slice (thn (hl pins s1 σ H1 _ I1 q1) fun vl s2 ⟨l,H2,I2,pl,q2⟩=>thn (hu pins s2 σ H2 _ I2 q2) fun vu s3 zz=>?_);obtain⟨u,H3,I3,pu,q3⟩:=zz;rw[Yn];refine wpAny_pure ?_;have I4:Inv X pins σ H3 {s3 with heap:=s3.heap.push {cls:=.type "slice",data:=.fields #[vl,vu,.none]}}:=I3.kept (t':=s3.toks) fun b ob q=>gf _ q;obtain⟨T,id,hT,ht,hg⟩:=hr pins {s3 with heap:=s3.heap.push {cls:=.type "slice",data:=.fields #[vl,vu,.none]}} σ H3 x v vl vu l u s3.heap.objs.size Q I4 r1 (Heap.IsSliceOf.new ..) pl pu q3;show ni (model X.prog X.w) X.A (subscriptTail e (.Slice lo hi none p2) v (.ref s3.heap.objs.size)) (EP X pins σ Q) X.xe {s3 with heap:=s3.heap.push {cls:=.type "slice",data:=.fields #[vl,vu,.none]}};exact tail_any (ops:=[.ref s3.heap.objs.size,v]) ht hT hg (by with_unfolding_all rfl)
def su(xs:List V)(lo hi:Option Int):List V:=(xs.drop (HT.sIx xs.length 0 lo)).take (HT.sIx xs.length xs.length hi-HT.sIx xs.length 0 lo)
theorem rp(xs:List V)(lo hi:Option Int):(su xs lo hi).length<=xs.length:=by
 unfold su;rw[Q9,Vi];omega
def JO(K:cw):V->Option Int->Option Int->Hp->VK->Prop:=fun x lo hi H Q=>∃a xs,x=.ref a/\SqT K H a xs/\
 ¬ (HT.sIx xs.length 0 lo=0/\HT.sIx xs.length xs.length hi=xs.length)/\∀p,H p=none->Q (.ref p) (upd H p (.tup (su xs lo hi)))
theorem LV:SlR X (JO X.K):=by
 intro pins s σ H x v vl vu lo hi sl Q I rx hs pl pu h;obtain⟨a,xs,rfl,hx,hw,q⟩:=h;cases rx;obtain⟨its,r,ht,hz⟩:=I.tuple hx;have hlen:its.toArray.size=xs.length:=by rw[xu];exact r.length.symm
 refine⟨"tuple",_,Sm.lookup,ht.typeIs,?_⟩;refine HT.oY ht hs pl pu (by rw[hlen];exact hw) ?_ (by rw[hlen];exact hz);rw[hlen];refine⟨.ref s.heap.objs.size,_,I.laid (t':=s.toks) (o:=.tup (su xs lo hi)) (fun b ob q=>gf _ q) (oh _) ?_,rfl,q _ (I.hok.fresh (oh _))⟩;exact⟨QT (rp xs lo hi) hz,_,(r.drop (HT.sIx xs.length 0 lo)).take (HT.sIx xs.length xs.length hi-HT.sIx xs.length 0 lo),IsTpl.new _ _⟩
end
def ixN(n:Nat)(i:Int):Option Nat:=if 0<=i then(if i<n then some i.toNat else none)else if-(n:Int)<=i then some (i+ n).toNat else none
def atI{α:Type}(xs:List α)(i:Int):Option α:=(ixN xs.length i).bind fun j=>xs[j]?
theorem Kg(h:ixN n i=some j):seqIndex? i n=some j/\j<n/\-(n:Int)<=i/\i<n:=by
 unfold ixN at h;by_cases h0:0<=i
 ·rw[if_pos h0]at h;by_cases h1:i<n
  ·rw[if_pos h1]at h;have e:i.toNat=j:=Qj h;exact⟨by rw[seqIndex_of h0 h1,e],by omega,by omega,h1⟩
  ·rw[if_neg h1]at h;cases h
 ·rw[if_neg h0]at h;by_cases h1:-(n:Int)<=i
  ·rw[if_pos h1]at h;have e:(i+ n).toNat=j:=Qj h;exact⟨by rw[Yw (by omega) h1,e],by omega,h1,by omega⟩
  ·rw[if_neg h1]at h;cases h
theorem xQ{α:Type}{xs:List α}{v:α}(h:atI xs i=some v):∃j,seqIndex? i xs.length=some j/\xs[j]?=some v/\j<xs.length/\-(xs.length:Int)<=i/\i<xs.length:=by
 unfold atI at h;cases e:ixN xs.length i with
 |none=>rw[e]at h;cases h
 |some j=>
  rw[e]at h;obtain⟨h1,h2,h3,h4⟩:=Kg e;exact⟨j,h1,h,h2,h3,h4⟩
theorem eD{α:Type}{xs:List α}{v:α}(h:xs[j]?=some v):atI xs (j:Int)=some v:=by
 have hj:j<xs.length:=(pk.mp h).1;have e:ixN xs.length (j:Int)=some j:=by
  unfold ixN;rw[if_pos (by omega),if_pos (by omega)];simp
 unfold atI;rw[e];exact h
def Js(b:QC):Prop:=∀o i,subscripted b false o i=YN [o,i] (getItem o i)
def IxR(X:Cx)(r:R2):Prop:=
 ∀(value slice:QC) (pins:List (dk×QM)) (s:lr) (σ:St) (H:Hp) (x y:V) (v u:cT) (Q:VK),Inv X pins σ H s->RelV x v->RelV y u->r x y H Q->
  subscripted slice false v u=YN [v,u] (getItem v u)->ni (model X.prog X.w) X.A (subscriptTail value slice v u) (EP X pins σ Q) X.xe s
def MtR(X:Cx)(id:String)(r:V->List V->Hp->VK->Prop):Prop:=
 ∀(pins:List (dk×QM)) (s:lr) (σ:St) (H:Hp) (x:V) (xs:List V) (v:cT) (us:List cT) (Q:VK),Inv X pins σ H s->RelV x v->Vals xs us->r x xs H Q->
  ni (model X.prog X.w) X.A (call (.builtin id) (v::us)) (EP X pins σ Q) X.xe s
section
variable{a b:QC}{ta tb:TE}
theorem IxR.or{r':R2}(h:IxR X r)(h':IxR X r'):IxR X (fun x y H Q=>r x y H Q∨r' x y H Q):=by
 intro value slice pins s σ H x y v u Q I rx ry q hs;rcases q with q|q
 ·exact h value slice pins s σ H x y v u Q I rx ry q hs
 ·exact h' value slice pins s σ H x y v u Q I rx ry q hs
theorem fX(hr:IxR X r)(ha:PE X a ta)(hb:PE X b tb)(hs:Js b):PE X (.Subscript a b pos) (tOp r ta tb):=by
 intro pins s σ H Q I h;exact XM (Md ha hb I h fun v u s2 x y H2 I2 rx ry q=>hr a b pins s2 σ H2 x y v u Q I2 rx ry q (hs _ _))
def KG(K:cw):R2:=fun x y H Q=>∃p xs i v,x=.ref p/\y=.int i/\SqL K H p xs/\atI xs i=some v/\Q v H
def Jb(K:cw):R2:=fun x y H Q=>∃p xs i v,x=.ref p/\y=.int i/\SqT K H p xs/\atI xs i=some v/\Q v H
def Ox:R2:=fun x y H Q=>∃z i c,x=.str z/\y=.int i/\z.length<=sizeLine/\atI z.cps.toList i=some c/\Q (.str ⟨#[c]⟩) H
theorem ix_list:IxR X (KG X.K):=by
 intro value slice pins s σ H x y v u Q I rx ry h hs;obtain⟨p,xs,i,z,rfl,rfl,hq,he,q⟩:=h;cases rx;obtain⟨t,rfl⟩:=ry;obtain⟨its,r,pl,hz⟩:=I.list hq;obtain⟨j,h1,h2,h3,h4,h5⟩:=xQ he;obtain⟨w,ew,rw'⟩:=r.get h2;have hl:=r.length;have hn:=uE;have fin:EP X pins σ Q w s:=⟨z,H,I,rw',q⟩;by_cases h0:0<=i
 ·have hj:i.toNat=j:=by
   rw[seqIndex_of h0 h5]at h1;exact Qj h1
  exact item_listR pl.isList h0 (by omega) (by rw[hj];simpa using ew) fin hs
 ·have hj:(i+ (its.toArray.size:Int)).toNat=j:=by
   rw[Yw (by omega) h4]at h1;rw[xu,←hl];exact Qj h1
  exact VO (x:=w) pl.isList.typeIs W7.lookup
   (wpAny_getItem_list_neg (Q:=fun r s'=>r=w/\EP X pins σ Q r s') pl.isList (by omega) (by rw[xu]<;>omega) (by omega) (by rw[hj];simpa using ew) ⟨rfl,fin⟩) hs
theorem ix_tup:IxR X (Jb X.K):=by
 intro value slice pins s σ H x y v u Q I rx ry h hs;obtain⟨p,xs,i,z,rfl,rfl,hq,he,q⟩:=h;cases rx;obtain⟨t,rfl⟩:=ry;obtain⟨its,r,pl,hz⟩:=I.tuple hq;obtain⟨j,h1,h2,h3,h4,h5⟩:=xQ he;obtain⟨w,ew,rw'⟩:=r.get h2;have hl:=r.length;have hn:=uE;have fin:EP X pins σ Q w s:=⟨z,H,I,rw',q⟩;exact VO (x:=w) pl.typeIs Sm.lookup
  (getItem_tuple (j:=j) (Q:=fun r s'=>r=w/\EP X pins σ Q r s') pl (by omega) (by omega) (by rw[xu,←hl];exact h1) (by simpa using ew) ⟨rfl,fin⟩) hs
theorem Lx:IxR X Ox:=by
 intro value slice pins s σ H x y v u Q I rx ry h hs;obtain⟨z,i,c,rfl,rfl,hz,he,q⟩:=h;obtain⟨t,rfl⟩:=rx;obtain⟨t',rfl⟩:=ry;obtain⟨j,h1,h2,h3,h4,h5⟩:=xQ he;have hl:z.cps.toList.length=z.length:=by simp[Str.length]
 rw[hl]at h1 h4 h5;have hn:=uE;exact tail_any (typeIs_str s z t) slot_str_getitem.lookup (getItem_str (c:=c) (by
  have e1:decide (i< -(2^63:Int))=false:=decide_eq_false (by omega);have e2:decide (i≥2^63)=false:=decide_eq_false (by omega);rw[e1,e2,Wt]) (by rw[h1];simpa using h2) ⟨.str ⟨#[c]⟩,H,I.tok _,⟨_,rfl⟩,q⟩) hs
def rIx(K:cw):R2:=fun x y H Q=>KG K x y H Q∨Jb K x y H Q∨Ox x y H Q
theorem Nr:IxR X (rIx X.K):=ix_list.or (ix_tup.or Lx)
theorem yu(lo hi:Option Int)(n:Nat):(sliceBounds lo hi none n).1=((HT.sIx n 0 lo:Nat):Int)/\(sliceBounds lo hi none n).2.1=((HT.sIx n n hi:Nat):Int)/\(sliceBounds lo hi none n).2.2=1:=by
 refine⟨?_,?_,rfl⟩
 ·cases lo with
  |none=>simp[sliceBounds,HT.sIx]
  |some i=>
   simp only[sliceBounds,HT.sIx,Vj,show(1:Int)>0 by decide,if_true];by_cases h:i<0
   ·simp only[h,if_true]<;>omega
   ·simp only[h,if_false]<;>omega
 ·cases hi with
  |none=>simp[sliceBounds,HT.sIx]
  |some i=>
   simp only[sliceBounds,HT.sIx,Vj,show(1:Int)>0 by decide,if_true];by_cases h:i<0
   ·simp only[h,if_true]<;>omega
   ·simp only[h,if_false]<;>omega
theorem vD(its:List cT)(lo hi:Option Int):slicePick its.toArray lo hi none=((its.drop (HT.sIx its.length 0 lo)).take (HT.sIx its.length its.length hi-HT.sIx its.length 0 lo)).toArray:=by
 obtain⟨h1,h2,h3⟩:=yu lo hi its.toArray.size;unfold slicePick;rw[h1,h2,h3];simp only[sliceRange_one,pick_run,xu]<;>rfl
def LW(K:cw):V->Option Int->Option Int->Hp->VK->Prop:=fun x lo hi H Q=>∃a xs,x=.ref a/\SqL K H a xs/\∀p,H p=none->Q (.ref p) (upd H p (.lst (su xs lo hi)))
theorem Kv:SlR X (LW X.K):=by
 intro pins s σ H x v vl vu lo hi sl Q I rx hs pl pu h;obtain⟨a,xs,rfl,hx,q⟩:=h;cases rx;obtain⟨its,r,ht,hz⟩:=I.list hx;have hlen:=r.length;refine⟨"list",_,W7.lookup,ht.isList.typeIs,?_⟩;refine wpAny_getItem_list_slice ht.isList hs pl pu .none (by simp) ?_ (by rw[xu]<;>omega);rw[vD,←hlen];refine⟨.ref s.heap.objs.size,_,I.laid (t':=s.toks) (o:=.lst (su xs lo hi)) (fun b ob q=>gf _ q) (oh _) ?_,rfl,q _ (I.hok.fresh (oh _))⟩;exact⟨QT (rp xs lo hi) hz,_,0,(r.drop (HT.sIx xs.length 0 lo)).take (HT.sIx xs.length xs.length hi-HT.sIx xs.length 0 lo),rl _ rfl⟩
theorem xx:cE X (.builtin "len") (fun xs H Q=>∃p ys,xs=[.ref p]/\(SqL X.K H p ys∨SqT X.K H p ys)/\Q (.int ys.length) H):=by
 intro pins s σ H xs us Q I r h;obtain⟨p,ys,rfl,hq,q⟩:=h;obtain⟨u,rfl,rx⟩:=vals1 r;cases rx;have hn:=uE;rcases hq with hq|hq
 ·obtain⟨its,r',pl,hz⟩:=I.list hq;have hlen:=r'.length;exact Calls.call_len_list pl.isList (by simp only[xu]<;>omega) ⟨.int ys.length,H,I.tok _,⟨s.toks+ 1,by rw[xu,hlen]⟩,q⟩
 ·obtain⟨its,r',pl,hz⟩:=I.tuple hq;have hlen:=r'.length;exact len_tuple pl (by simp only[xu]<;>omega) ⟨.int ys.length,H,I.tok _,⟨s.toks+ 1,by rw[xu,hlen]⟩,q⟩
theorem xf:cE X (.type "list") (fun xs H Q=>∃p ys,xs=[.ref p]/\(SqL X.K H p ys∨SqT X.K H p ys)/\∀l,H l=none->Q (.ref l) (upd H l (.lst ys))):=by
 intro pins s σ H xs us Q I r h;obtain⟨p,ys,rfl,hq,q⟩:=h;obtain⟨u,rfl,rx⟩:=vals1 r;cases rx;have fin:∀(its:List cT),Vals ys its->ys.length<=sizeLine->∀(h':Qg) (c':Nat),(∀b o',s.heap.get? b=some o'->h'.get? b=some o')->
   h'.get? s.heap.objs.size=some {cls:=.type "list",dict:=none,data:=.seq its.toArray c',slots:=#[]}->EP X pins σ Q (.ref s.heap.objs.size) {s with heap:=h'}:=fun its r' hz h' c' kp e=>
  ⟨.ref s.heap.objs.size,_,I.laid (t':=s.toks) kp (oh _) (show ObjOk X.prog X.w _ h' _ (.lst ys)from⟨hz,its,c',r',e⟩),rfl,q _ (I.hok.fresh (oh _))⟩
 rcases hq with hq|hq
 ·obtain⟨its,r',pl,hz⟩:=I.list hq;have hlen:=r'.length;obtain⟨o,ho,hc,n,hd⟩:=pl.isList;exact Yo p (.inl rfl) ho hc hd (fun h' c' kp e=>fin its r' hz h' c' kp e) (by simp only[xu]<;>omega)
 ·obtain⟨its,r',pl,hz⟩:=I.tuple hq;have hlen:=r'.length;obtain⟨o,ho,hc,n,hd⟩:=pl;exact Yo p (.inr rfl) ho hc hd (fun h' c' kp e=>fin its r' hz h' c' kp e) (by simp only[xu]<;>omega)
theorem vJ:cE X (.type "tuple") (fun xs H Q=>∃p ys,xs=[.ref p]/\((SqL X.K H p ys/\∀l,H l=none->Q (.ref l) (upd H l (.tup ys)))∨(SqT X.K H p ys/\Q (.ref p) H))):=by
 intro pins s σ H xs us Q I r h;obtain⟨p,ys,rfl,h⟩:=h;obtain⟨u,rfl,rx⟩:=vals1 r;cases rx;rcases h with⟨hq,q⟩|⟨hq,q⟩
 ·obtain⟨its,r',pl,hz⟩:=I.list hq;have hlen:=r'.length;refine call_tuple_list pl.isList (fun h' kp=>?_) (by simp only[xu]<;>omega);have I1:Inv X pins σ H {s with heap:=h'}:=I.kept (t':=s.toks) kp;have I2:Inv X pins σ (upd H h'.objs.size (.tup ys)) {s with heap:=h'.push {cls:=.type "tuple",data:=.seq its.toArray}}:=
   I1.laid (t':=s.toks) (fun b o e=>gf _ e) (oh _) (show ObjOk X.prog X.w _ _ _ (.tup ys)from⟨hz,its,r',IsTpl.new _ _⟩)
  exact⟨.ref h'.objs.size,_,I2,rfl,q _ (I1.hok.fresh (oh _))⟩
 ·obtain⟨its,r',pl,hz⟩:=I.tuple hq;exact call_tuple_same pl ⟨.ref p,H,I,rfl,q⟩
def tyV(K:cw)(T:String)(x:V)(H:Hp):Prop:=match x with
 | .str _=>T="str"
 | .int _=>T="int"
 | .ref p=>(T="list"/\∃xs,SqL K H p xs)∨(T="tuple"/\∃o,K.lookup p=some o/\o.cls=.type "tuple"/\o.dict=none)∨
   (T="dict"/\((∃kvs,H p=some (.dK kvs))∨∃kvs,H p=some (.dT kvs)))∨(T="set"/\∃S n,H p=some (.set S n))
 |_=>False
theorem qZ{x:V}{v:cT}(I:Inv X pins σ H s)(r:RelV x v)(ty:tyV X.K T x H):
  s.TypeIs v T/\∀a,v=.ref a->∃ob,s.heap.get? a=some ob/\ob.dict=none:=by
 cases x with
 |str z=>
  obtain⟨t,rfl⟩:=r;cases (show T="str"from ty);exact⟨typeIs_str s z t,fun _ e=>nomatch e⟩
 |int i=>
  obtain⟨t,rfl⟩:=r;cases (show T="int"from ty);exact⟨typeIs_int s i t,fun _ e=>nomatch e⟩
 |ref p=>
  cases r;rcases ty with⟨rfl,xs,hq⟩|⟨rfl,o,hk,hc,hd⟩|⟨rfl,hk⟩|⟨rfl,S,n,hk⟩
  ·obtain⟨its,_,pl,_⟩:=I.list hq;refine⟨pl.isList.typeIs,fun a e=>?_⟩;cases e;obtain⟨o,n,e,c,hd,_⟩:=pl;exact⟨o,e,hd⟩
  ·refine⟨⟨o,I.kIn p o hk,hc⟩,fun a e=>?_⟩;cases e;exact⟨o,I.kIn _ o hk,hd⟩
  ·have z:∃o,s.heap.get? p=some o/\o.ExactDict:=by
    rcases hk with⟨kvs,hk⟩|⟨kvs,hk⟩
    ·obtain⟨_,_,_,_,o,_,_,e,ex,_⟩:=I.hok p _ hk;exact⟨o,e,ex⟩
    ·obtain⟨_,_,_,_,o,_,_,e,ex,_⟩:=I.hok p _ hk;exact⟨o,e,ex⟩
   obtain⟨o,e,ex⟩:=z;refine⟨⟨o,e,ex.1⟩,fun a e2=>?_⟩;cases e2;exact⟨o,e,ex.2.1⟩
  ·obtain⟨o,_,_,_,e,ex,_⟩:=I.hok p _ hk;refine⟨⟨o,e,ex.1⟩,fun a e2=>?_⟩;cases e2;exact⟨o,e,ex.2.1⟩
 |_=>exact Rz ty
def OH(K:cw)(T:String)(r:V->List V->Hp->VK->Prop)(to:TE):TE:=fun σ H Q=>to σ H fun x H1=>tyV K T x H1/\r x [] H1 Q
def tBM(K:cw)(T:String)(r:V->List V->Hp->VK->Prop)(to:TE)(t:TA):TE:=fun σ H Q=>to σ H fun x H1=>tyV K T x H1/\t σ H1 fun xs H2=>r x xs H2 Q
variable{o:QC}{es:List QC}{to:TE}{t:TA}{name:pe}{apos cpos:Sz}{id:String}{r:V->List V->Hp->VK->Prop}
theorem va(pa:PlainAttrs T)(slot:Yx T name id)(hty:typeOf (.builtin id)=pure (.type "method_descriptor"))(hm:MtR X id r)(ho:PE X o to)
  (hbase:Sk o name X.env (eval o X.env)=eval o X.env:=by rfl) (hline:(apos.endLine==cpos.line)=true:=by rfl):PE X (.Call (.Attribute o name apos) [] [] cpos) (OH X.K T r to):=by
 intro pins s σ H Q I h;refine TR hbase hline (thn (ho pins s σ H _ I h) fun v s1 zz=>?_);obtain⟨x,H1,I1,r1,ty,q1⟩:=zz;obtain⟨h1,h2⟩:=qZ I1 r1 ty;exact⟨T,id,pa,slot,hty,h1,h2,RX rfl (UA (hm pins s1 σ H1 x [] v [] Q I1 r1 .nil q1))⟩
theorem pU(pa:PlainAttrs T)(slot:Yx T name id)(hty:typeOf (.builtin id)=pure (.type "method_descriptor"))(hm:MtR X id r)(ho:PE X o to)(ha:PA X (e::es) t)
  (hbase:Sk o name X.env (eval o X.env)=eval o X.env:=by rfl)
  (hfew:((backTo cpos (starEach (e::es) X.env)).all (fun x=>!x.1)&&(backToKw cpos (keywordEach [] X.env)).all (fun x=>x.1.isSome)
   &&decide ((e::es).length+ ([]:List Uh).length+ (if([]:List Uh).isEmpty then 0 else 1)<30))=true:=by rfl)
  (hline:(apos.endLine==cpos.line)=true:=by rfl) (hs:starEach (e::es) X.env=(false,eval e X.env)::starEach es X.env:=by rfl) (hplain:(backTo cpos (starEach es X.env)).any (·.1)=false:=by rfl):
  PE X (.Call (.Attribute o name apos) (e::es) [] cpos) (tBM X.K T r to t):=by
 intro pins s σ H Q I h;refine wpAny_Call_method_late hbase hfew hline rfl (thn (ho pins s σ H _ I h) fun v s1 zz=>?_);obtain⟨x,H1,I1,r1,ty,q1⟩:=zz;obtain⟨h1,h2⟩:=qZ I1 r1 ty;refine⟨T,id,pa,slot,hty,h1,h2,?_⟩;have hA:=ha cpos pins s1 σ H1 _ I1 q1;rw[hs]at hA⊢;refine RX (by show(false||(backTo cpos (starEach es X.env)).any (·.1))=false;rw[hplain]<;>rfl) (Ur ?_);exact thn hA fun us s2 ⟨vs,H2,I2,r2,q2⟩=>hm pins s2 σ H2 x vs v us Q I2 r1 r2 q2
end
def MtM(X:Cx)(id:String)(r:V->List V->Hp->VK->Prop):Prop:=
 ∀(pins:List (dk×QM)) (s:lr) (σ:St) (H:Hp) (x:V) (xs:List V) (v:cT) (us:List cT) (Q:VK),Inv X pins σ H s->RelV x v->Vals xs us->r x xs H Q->
  ni (model X.prog X.w) X.A (call (.builtin id) (v::us)) (EP X pins σ Q) X.xe s
theorem Vals.one:∀{x:V} {us:List cT},Vals [x] us->∃u,us=[u]/\RelV x u
 |_,_,.cons r .nil=>⟨_,rfl,r⟩
section
variable{l b:dk}{xs ys zs:List V}
theorem Inv.lset{its':List cT}{f:Array cT->Array cT}(I:Inv X pins σ H s)(hH:H l=some (.lst xs))(e:s.heap.get? l=some {cls:=.type "list",data:=.seq its.toArray n})(hf:f its.toArray=its'.toArray)(hv:Vals ys its')(hz:ys.length<=sizeLine):
  Inv X pins σ (upd H l (.lst ys)) {s with heap:=s.heap.update l (Rv f),toks:=t'}:=by
 have q:=PySem.IsL.update e f;rw[hf]at q;refine I.write (x:=l) (e:=l) (by rw[hH];exact trivial) (.inl rfl) (fun b' u hb hu=>(QP s.heap (Rv f) (QH hb)).trans hu) ⟨_,q⟩ ?_;exact⟨hz,its',_,hv,q⟩
theorem Inv.lnew(I:Inv X pins σ H s)(hv:Vals ys its)(hz:ys.length<=sizeLine):
  Inv X pins σ (upd H s.heap.objs.size (.lst ys)) {s with heap:=s.heap.push {cls:=.type "list",data:=.seq its.toArray},toks:=t'}:=
 I.laid (fun _ _ q=>gf _ q) (oh _) ⟨hz,its,0,hv,rl _ rfl⟩
theorem Inv.fresh(I:Inv X pins σ H s):H s.heap.objs.size=none:=I.hok.fresh (oh _)
theorem Inv.lstM(I:Inv X pins σ H s)(hH:H l=some (.lst xs)):xs.length<=sizeLine/\∃(its:List cT) (n:Nat),Vals xs its/\xs.length=its.length/\s.heap.get? l=some {cls:=.type "list",data:=.seq its.toArray n}:=by
 obtain⟨z,its,n,r,e⟩:=I.hok l _ hH;exact⟨z,its,n,r,r.length,e⟩
theorem IA(h:n<=sizeLine):Tx n=false:=by
 unfold Tx;exact decide_eq_false (by omega)
end
section
def tq:V->List V->Hp->VK->Prop:=fun x vs H Q=>∃l xs y,x=.ref l/\vs=[y]/\H l=some (.lst xs)/\xs.length<sizeLine/\Q .non (upd H l (.lst (xs++[y])))
theorem dH:MtM X "list.append" tq:=by
 intro pins s σ H x vs v us Q I rx rv h;obtain⟨l,xs,y,rfl,rfl,hH,hz,q⟩:=h;cases rx;obtain⟨u,rfl,ru⟩:=rv.one;obtain⟨z,its,n,r,hl,e⟩:=I.lstM hH;refine TL Q6 ⟨_,e,rfl⟩ F.entry_list_append (F.args_list_append_2 _ _) (PySem.list_append l its.toArray n u (by rw[xu];omega)) ⟨e,?_⟩;refine⟨.non,_,I.lset (its':=its++[u]) hH e (by simp) (r.append (.cons ru .nil)) ?_,rfl,q⟩;rw[xp,Rw];omega
def KH:V->List V->Hp->VK->Prop:=fun x vs H Q=>∃l b xs zs,x=.ref l/\vs=[.ref b]/\H l=some (.lst xs)/\H b=some (.lst zs)/\xs.length+ zs.length<=sizeLine/\Q .non (upd H l (.lst (xs++zs)))
theorem E6:MtM X "list.extend" KH:=by
 intro pins s σ H x vs v us Q I rx rv h;obtain⟨l,b,xs,zs,rfl,rfl,hH,hB,hz,q⟩:=h;cases rx;obtain⟨u,rfl,ru⟩:=rv.one;cases ru;obtain⟨z,its,n,r,hl,e⟩:=I.lstM hH;obtain⟨z2,its2,n2,r2,hl2,e2⟩:=I.lstM hB;have hsz:its.toArray.size+ its2.toArray.size<=sizeLine:=by rw[xu,xu];omega
 have hlong:¬ (!its.toArray.isEmpty&&Tx (its.toArray.size+ its2.toArray.size))=true:=by
  rw[IA hsz,X8];exact Qn
 refine TL V1 ⟨_,e,rfl⟩ F.entry_list_extend (F.args_list_extend_2 _ _)
  (AutoSeq1.list_extend_list_list_0 l its.toArray n b its2.toArray n2 hlong (by rw[xu];omega) (by omega)) ⟨e,e2,?_⟩
 refine⟨.non,_,I.lset (its':=its++its2) hH e (by simp) (r.append r2) ?_,rfl,q⟩;rw[xp];omega
def N4:R2:=fun x y H Q=>∃l b xs zs,x=.ref l/\y=.ref b/\H l=some (.lst xs)/\H b=some (.lst zs)/\xs.length+ zs.length<=sizeLine/\∀p,H p=none->Q (.ref p) (upd H p (.lst (xs++zs)))
theorem q8:OpR X (binaryOp .Add) N4:=by
 intro pins s σ H x y v u Q I rx ry h;obtain⟨l,b,xs,zs,rfl,rfl,hH,hB,hz,q⟩:=h;cases rx;cases ry;obtain⟨z,its,n,r,hl,e⟩:=I.lstM hH;obtain⟨z2,its2,n2,r2,hl2,e2⟩:=I.lstM hB;refine PySem.P.add_list e e2 ?_ (by rw[xu,xu];omega);have ea:its.toArray++its2.toArray=(its++its2).toArray:=by simp
 rw[ea];exact⟨.ref _,_,I.lnew (t':=s.toks) (r.append r2) (by rw[xp];omega),rfl,q _ I.fresh⟩
end
section
variable{prog:Qo}{w:Qu}{A:QR}{E:cT->lr->Prop}
end
section
end
end L2
namespace Att
open PySem PySem.W PySem.Calls PyProof.Rows
variable{P:Params}{h:Qg}{l:OpenLaw}{n:Nat}
theorem sP:∀(ns:List Int) (vs:List cT),WellAll P h vs (ns.map WData.int)->IntsAre vs ns:=by
 intro ns
 induction ns with
 |nil=>
  intro vs w;rw[Tw]at w;cases w;exact .nil
 |cons n ns ih=>
  intro vs w;rw[Qd]at w;cases w with
  |cons a b=>
   cases a;exact .cons _ _ (ih _ b)
theorem Eg(hn:l.most=some n){args:List WData}{vals:List cT}(hpre:l.row.toRowW.claim.pre args=true)(hwl:WellAll P h vals args):
  ∃a vs ns,vals=[zt a]/\args=[WData.list (ns.map WData.int)]/\h.get? a=some {cls:=.type "list",data:=.seq vs.toArray}/\IntsAre vs ns/\ns.length<=n:=by
 have hsh:WShape.hasAll [] args [.list .int]=true:=(pre_splitW hpre).1;have hc:l.pre.holds [] {args:=args}=true:=(pre_splitW hpre).2;obtain⟨d,r,rfl,h1,h2⟩:=hasAllW_cons hsh;obtain rfl:=hasAllW_nil h2;obtain⟨xs,rfl,h3⟩:=hasW_list h1;obtain⟨ns,rfl⟩:=items_int h3;have hlen:ns.length<=n:=by
  unfold OpenLaw.pre at hc;have h4:(WTm.not (.lt (.lit (.int (n:Int))) (.len (.arg 0)))).holds [] {args:=[.list (ns.map .int)]}=true:=by
   have h4:=(holds_andW hc).1;rw[hn]at h4;exact h4
  have h5:=condW_of h4 (w_not (w_lt w_lit (w_len_list (w_arg rfl))));rw[gm]at h5;refine Nat.le_of_not_lt fun q=>?_;have q':(n:Int)<((ns.length:Nat):Int):=by omega
  first
   |(rw[decide_eq_true q']at h5;exact absurd h5 (by decide))
   |(simp at h5;omega)
 cases hwl with
 |cons w1 w2=>
  cases w2;cases w1 with
  |list ho hall=>exact⟨_,_,ns,rfl,rfl,ho,sP ns _ hall,hlen⟩
theorem EG(l:OpenLaw)(args:List WData):l.row.toRowW.claim.post args (.bool true) args=true:=
 postW_of (r:=l.row.toRowW) (X:=(true==true))
  (show WShape.has [] (.bool true) .bool=true by first|rfl|decide|simp[WShape.has,WShape.arms,WShape.armsAll])
  (show(WTm.eq .res (.lit (.bool true))).value [] {args:=args,res:=some (.bool true),after:=args}=some (.bool (true==true))from w_eq_bool (w_res rfl) w_lit) rfl
theorem attach_call{q:Qo}{loose:List pe}{XP:(pe->Option cT)->Qg->Prop}{YP:Qu->Qg->Prop}{d:DefRec}(hn:l.most=some n)(hdf:d.params.defaults=[])(call:∀(w:Qu) (s₀ s₁:lr) (mg mb:pe->Option cT) (fa:dk) (o:QM) (pm cd doc:cT) (a:dk) (vs:List cT) (ns:List Int),
   Ground q loose [] XP w s₀ mg mb s₁.heap->YP w s₁.heap->
   s₁.heap.get? fa=some o->o.data=.func (docDef d.name d.params d.body d.scope pm cd doc)->s₁.heap.CodeRec cd d.name->mg d.name=some (.ref fa)->
   s₁.heap.get? a=some {cls:=.type "list",data:=.seq vs.toArray}->IntsAre vs ns->ns.length<=n->s₁.gens=#[]->
   QW (model l.prog w) Vc (.call (.ref fa) ⟨[.ref a],[]⟩) (fun r s'=>r=.ok (.ret (.bool true))/\OldK s₁.heap s'.heap/\s'.os=s₁.os/\TK s'.gens) s₁):
  WalkO q loose XP YP l.row.toRowW d [] (fun f vs=>PySem.call f vs):=by
 intro w s₀ s₁ mg mb G Y fa o pm cd doc dV kV ho hd hcd hD hmg hg args vals as hpre hlay hrd hwl hlo;obtain rfl:dV=.none:=Dflts.none hD hdf;obtain rfl:kV=.none:=Dflts.noKw hD;obtain⟨a,vs,ns,rfl,rfl,hobj,hints,hlen⟩:=Eg hn hpre hwl;refine enter_call (codeAny_mono (call w s₀ s₁ mg mb fa o pm cd doc a vs ns G Y ho (fd_plain hd) hcd hmg hobj hints hlen hg) fun r s' hq=>?_);obtain⟨rfl,h2,h3,h4⟩:=hq;exact⟨.inl ⟨.bool true,.bool true,[],rfl,fun _=>rfl,.bool true,EG l _,fun _=>⟨List.Pairwise.nil,fun _ hm=>(nomatch hm)⟩⟩,h2,h3,h4⟩
section
variable{prog:Qo}{w:Qu}{A:QR}{E:cT->lr->Prop}{s:lr}{K:Frag}
end
end Att
namespace L2
open PySem PySem.Spec PyProof.Rows
variable{P:Qo}{w:Qu}{mg:pe->Option cT}{k n:Nat}{a f:dk}{fd:xw}{x qual:pe}{sp:Sp}{X:Cx}{ps:List pe}{A B:Prop}{H H':Hp}
theorem rj:∀{vs:List cT} {ns:List Int},IntsAre vs ns->Vals (ns.map V.int) vs
 |_,_,.nil=>.nil
 |_,_,.cons n t h=>.cons ⟨t,rfl⟩ (rj h)
def Only(H:Hp):Prop:=∀b,H b=none∨∃o xs,H b=some (.frz o (.lst xs))
theorem HQ{K:cw}{mb:pe->Option cT}{CX:CXT}{fa:dk}{s₁:lr}{vs:List cT}{ns:List Int}(KX:K.In s₁.heap)(hns:s₁.heap.Ns Qz mg)(hb:s₁.heap.Ns XG mb)(hbb:∀x:pe,x≠"__name__"->mb x=R8 x)(hlim:s₁.heap.NoLimit)(hg:s₁.gens=#[])(ha:s₁.heap.get? a=some {cls:=.type "list",data:=.seq vs.toArray})(hi:IntsAre vs ns)(hl:ns.length<=sizeLine)(hr:Room k Vc)(F:∀base:Qg,K.In base->base.Ns Qz mg->FnOk P w K mg base CX k fa fd [x] sp)(hbind:∀(s:lr) (u:cT),BindsTo s fd ⟨[u],[]⟩ [(x,u)])(hsp:∀H:Hp,Only H->SqL K H a (ns.map V.int)->sp [.ref a] H (fun v _=>v=.bl true) fun _ _ _=>False)(hCX:∀H e s',CX [] H s₁ (fun _ _ _=>False) e s'->False):
  QW (model P w) Vc (.call (.ref fa) ⟨[.ref a],[]⟩) (fun r s'=>r=.ok (.ret (.bool true))/\OldK s₁.heap s'.heap/\s'.os=s₁.os/\TK s'.gens) s₁:=by
 have rv:=rj hi;have lenV:=hi.length
 -- from an abstract heap in which nothing but the script may be tracked
 have core:∀H:Hp,Only H->SqL K H a (ns.map V.int)->HOk P w H s₁.heap->(∀b,H b≠none->b=a)->(H a≠none->K.lookup a=none)->
   QW (model P w) Vc (.call (.ref fa) ⟨[.ref a],[]⟩) (fun r s'=>r=.ok (.ret (.bool true))/\OldK s₁.heap s'.heap/\s'.os=s₁.os/\TK s'.gens) s₁:=by
  intro H hO hS hok hA hK;have base_of:∀{b:dk} {o:QM},s₁.heap.get? b=some o->H b=none->(yd s₁.heap H).get? b=some o:=fun e n=>Iu e n;have noA:∀{b:dk} {o:QM} {es:Array QQ} {ep:Nat},s₁.heap.get? b=some o->o.data=.dict es ep->H b=none:=fun{b o es ep} e d=>by
   cases q:H b with
   |none=>rfl
   |some u=>
    have e':b=a:=hA b (by rw[q];simp);subst e';rw[ha]at e;cases e;have d':Data.seq vs.toArray _=Data.dict es ep:=d;cases d'
  have nsK:∀{b:dk} {m:pe->Option cT},s₁.heap.Ns b m->(yd s₁.heap H).Ns b m:=fun{b m} ⟨o,es,ep,e,d,r⟩=>⟨o,es,ep,base_of e (noA e d),d,r⟩;have hKb:K.In (yd s₁.heap H):=fun b o e=>base_of (KX b o e) (by
   cases q:H b with
   |none=>rfl
   |some u=>
    have e':b=a:=hA b (by rw[q];simp);subst e';rw[hK (by rw[q];simp)]at e;cases e)
  have hM:Mod K mg (yd s₁.heap H):=⟨hKb,nsK hns,⟨mb,nsK hb,hbb⟩,let ⟨mc,h1,h2⟩:=hlim;⟨mc,nsK h1,h2⟩⟩;have e0:Env0 P w K mg (yd s₁.heap H) Vc [] s₁ H:=⟨rfl,hM,fun b o e=>Kd e,Tu (DV _ _),trivial,fun b hb=>absurd (show b∈([]:List dk)from hb) (by simp),hok,.of_eq hg⟩;refine codeAny_mono ((F _ hKb (nsK hns)).run Vc [] s₁ H ⟨[.ref a],[]⟩ [.ref a] [.ref a] _ _ hr e0 (hbind s₁ (.ref a)) (.cons rfl .nil) (hsp H hO hS)) fun r s' h=>?_;cases r with
  |error e=>exact(hCX H e s' h).elim
  |ok fl=>
   cases fl with
   |next=>exact Rz h
   |brk=>exact Rz h
   |cont=>exact Rz h
   |ret u=>
    obtain⟨v,H',os,bare,un,hok',r',q⟩:=h;have q':v=.bl true:=q;subst q';obtain rfl:u=Ta true:=r';refine⟨rfl,OldK.of_keep fun b o e=>?_,os,bare⟩;cases q:H b with
    |none=>exact un.keep b o e q (by intro z;exact absurd (show b∈([]:List dk)from z) (by simp)) (by simp)
    |some u=>
     rcases hO b with z|⟨ob,xs,z⟩
     ·rw[q]at z;cases z
     ·have z2:=un.frzs b ob _ z;obtain⟨e1,_⟩:=hok b _ z;obtain⟨e2,_⟩:=hok' b _ z2;rw[e]at e1;cases e1;exact e2
 cases hk:K.lookup a with
 |some o=>
  -- the script is one of the module's own objects
  have e:=KX a o hk;rw[ha]at e;cases e;refine core (fun _=>none) (fun _=>.inl rfl) (.inr ⟨_,vs.toArray,_,hk,rfl,rfl,rfl,by rw[xu,lenV];exact hl,by simpa using rv⟩) (fun b u z=>by have z':(none:Option HO)=some u:=z;cases z') (fun b z=>absurd rfl z) fun z=>absurd rfl z
 |none=>
  refine core (fun b=>if b=a then some (.frz {cls:=.type "list",data:=.seq vs.toArray} (.lst (ns.map V.int)))else none) (fun b=>?_) (.inl (.inr ⟨{cls:=.type "list",data:=.seq vs.toArray},if_pos rfl⟩)) (fun b u z=>?_) (fun b z=>?_) fun _=>hk
  ·by_cases hb:b=a
   ·exact .inr ⟨_,_,if_pos hb⟩
   ·exact .inl (if_neg hb)
  ·by_cases hb:b=a
   ·have z':=(if_pos hb).symm.trans z;cases z';subst hb;exact⟨ha,by rw[gm];exact hl,vs,_,rv,ha⟩
   ·have z':=(if_neg hb).symm.trans z;cases z'
  ·by_cases hb:b=a
   ·exact hb
   ·exact absurd (if_neg hb) z
theorem JE{l:Wu}{q:Qo}{loose:List pe}{XP:(pe->Option cT)->Qg->Prop}{YP:Qu->Qg->Prop}{d:DefRec}{K:Params->cw}{CX:Qu->CXT}{sp:Qu->Sp}(hn:l.most=some n)(hn2:n<=sizeLine)(hdf:d.params.defaults=[])(hr:Room k Vc)(hY:∀(w:Qu) (h:Qg),YP w h->(K w.params).In h)(F:∀(w:Qu) (mg:pe->Option cT) (fa:dk) (h:Qg),(K w.params).In h->h.Ns Qz mg->mg d.name=some (.ref fa)->
   ∃fd:xw,(∀(s:lr) (u:cT),BindsTo s fd ⟨[u],[]⟩ [(x,u)])/\
    ∀base:Qg,(K w.params).In base->base.Ns Qz mg->FnOk l.prog w (K w.params) mg base (CX w) k fa fd [x] (sp w)) (hsp:∀(w:Qu) (H:Hp) (a:dk) (ns:List Int),ns.length<=n->Only H->SqL (K w.params) H a (ns.map V.int)->sp w [.ref a] H (fun v _=>v=.bl true) fun _ _ _=>False) (hCX:∀(w:Qu) (H:Hp) (s:lr) (e:cT) (s':lr),CX w [] H s (fun _ _ _=>False) e s'->False):
  Yp q loose XP YP l.row.toRowW d [] (fun f vs=>PySem.call f vs):=by
 refine Att.attach_call hn hdf fun w s₀ s₁ mg mb fa o pm cd doc a vs ns G Y ho hd hcd hmg hobj hints hlen hg=>?_;have KX:=hY w _ Y;obtain⟨fd,hb,hF⟩:=F w mg fa _ KX G.T.g hmg;exact HQ KX G.T.g G.T.b G.T.builtins G.T.nolimit hg hobj hints (QT hlen hn2) hr hF hb (fun H hO hS=>hsp w H a ns hlen hO hS) fun H e s'=>hCX w H s₁ e s'
def inClass(s:QB)(j:Nat):QB:=match s with
 | .ClassDef _ _ _ body _ _ _ _ _ _ _=>body.getD j (.Pass ⟨0,0,0,0⟩)
 |_=>.Pass ⟨0,0,0,0⟩
def jS(s:QB):Arguments:=match s with
 | .FunctionDef _ a _ _ _ _ _ _ _ _=>a
 |_=>{posonlyargs:=[],args:=[],vararg:=none,kwonlyargs:=[],kw_defaults:=[],kwarg:=none,defaults:=[]}
def fA(s:QB):List QB:=match s with
 | .FunctionDef _ _ b _ _ _ _ _ _ _=>b
 |_=>[]
def aw(s:QB):SU:=match s with
 | .FunctionDef _ _ _ _ _ _ sc _ _ _=>sc
 |_=>{kind:=.function,names:=[],isGenerator:=false,isCoroutine:=false}
abbrev CX0:CXT:=fun _ _ _ _ _ _=>False
abbrev E0:XK:=fun _ _ _=>False
theorem nZ:jI CX0 X E0:=fun _ _ _ _ _ _ _ h=>h.elim
structure Fun(K:cw)(x qual:pe)(st:QB)(f:dk)(fd:xw):Prop where
 ex:∃(oc:cT) (od:Option dk) (kV doc pm:cT) (an:Option dk) (cdv ct:cT) (osl:Array (Option cT)),
  fd=SA x qual (jS st) (fA st) (aw st) .none kV doc pm an cdv ct/\K.lookup f=some ⟨oc,od,.func fd,osl⟩/\VY K cdv qual=true
 kp:R9 K (.ref f)=true
section
variable{K:cw}{base:Qg}
theorem Fun.ok{st:QB}{N:List pe}(F:Fun K x qual st f fd)(S:FnScope N ps (aw st))(len:∀vs H Q E,sp vs H Q E->vs.length=ps.length)(hbody:∀(cdv:cT) (A:QR) (outer:List S2) (s:lr) (H:Hp) (vs:List V) (Q:VK) (E:XK),Room k (A.deeper (envOfC qual (aw st) s.heap.objs.size f cdv))->sp vs H Q E->
   ∃t,PSs (lM CX0 P w K mg base N qual (aw st) f cdv A outer s H E).nox (fA st) t/\t {nx:=fun _ H'=>Q .non H',rt:=Q} (start N vs) H):FnOk P w K mg base CX0 (k+ 1) f fd ps sp:=by
 obtain⟨oc,od,kV,doc,pm,an,cdv,ct,osl,rfl,lk,hcd⟩:=F.ex;refine K0 lk hcd S len fun A outer s H vs Q E hr hsp=>?_;obtain⟨t,h,q⟩:=hbody cdv A outer s H vs Q E hr hsp;exact⟨t,h.nox,q⟩
theorem Fun.binds{st:QB}(F:Fun K x qual st f fd)(h:∀(kV doc pm:cT) (an:Option dk) (cdv ct:cT) (us:List cT),us.length=ps.length->Xm (SA x qual (jS st) (fA st) (aw st) .none kV doc pm an cdv ct) ⟨us,[]⟩=pure (ps.zip us)):Binds K fd ps []:=by
 obtain⟨oc,od,kV,doc,pm,an,cdv,ct,osl,rfl,lk,hcd⟩:=F.ex;exact .all (h kV doc pm an cdv ct)
theorem Mp{st:QB}{oc:cT}{od an:Option dk}{osl:Array (Option cT)}{kV doc pm cdv ct:cT}(l:K.lookup f=some ⟨oc,od,.func (SA x qual (jS st) (fA st) (aw st) .none kV doc pm an cdv ct),osl⟩)(c:VY K cdv qual=true)(k:R9 K (.ref f)=true):Fun K x qual st f (SA x qual (jS st) (fA st) (aw st) .none kV doc pm an cdv ct):=⟨⟨oc,od,kV,doc,pm,an,cdv,ct,osl,rfl,l,c⟩,k⟩
end
theorem FW{A:QR}(hr:Room k A):A.units+ 1<RM:=SW (Tj (by decide:1<=64) _) hr.units
theorem aD(h:n<=1000):n<sizeLine:=SW h (by decide)
section
theorem pv(i:Nat){pos:Sz}(hN:X.N[i]?=some x:=by rfl)(hv:Vis X.env.scope x:=by first|exact Ql rfl|exact XN (Ql rfl)|exact XN (XN rfl))(hd:(x==("__debug__":pe))=false:=by decide)(hcd:(x==("__classdict__":pe))=false:=by decide):PE X (.Name x pos) (DY i):=Mu hN hv hd hcd
end
theorem NZ(h:B):if false=true then A else B:=by
 rw[if_neg Qn];exact h
theorem MT(h:A):if true=true then A else B:=by
 rw[if_pos rfl];exact h
theorem dO{c:Prop}[Decidable c](h1:c->A)(h2:¬ c->B):if c then A else B:=by
 by_cases h:c
 ·rw[if_pos h];exact h1 h
 ·rw[if_neg h];exact h2 h
def Same(H H':Hp):Prop:=∀b o,H b=some o->H' b=some o
theorem Same.refl(H:Hp):Same H H:=fun _ _ h=>h
theorem Same.trans{H1 H2:Hp}(a:Same H H1)(b:Same H1 H2):Same H H2:=fun c o h=>b c o (a c o h)
theorem Same.free(e:Same H H'){l:dk}(h:H' l=YH):H l=YH:=by
 cases q:H l with
 |none=>rfl
 |some o=>
  rw[e l o q]at h;cases h
theorem Same.seq{K:cw}{xs:List V}(e:Same H H')(h:SqL K H a xs):SqL K H' a xs:=by
 rcases h with(h|⟨o,h⟩)|h
 ·exact .inl (.inl (e _ _ h))
 ·exact .inl (.inr ⟨o,e _ _ h⟩)
 ·exact .inr h
section
variable{κ:Type}[DecidableEq κ]
end
end L2
namespace GX
open PySem
variable{env:S2}{sc:SU}{n:pe}{c:dk}
theorem uD{α β:Type}{f:α->β->Vd (ForInStep β)}(g:α->β->β):∀(l:List α) (b:β),(∀x∈l,∀b,f x b=pure (.yield (g x b)))->
  forIn l b f=pure (l.foldl (fun b x=>g x b) b)
 |[],b,_=>rfl
 |x::l,b,h=>by
  simp only[VE,h x (.head _),pure_bind];exact uD g l (g x b) fun y hy=>h y (xj _ hy)
def oQ(env:S2)(x:pe×Ua)(cs:List (pe×dk)):List (pe×dk):=if x.2==.free then(x.1,(env.cells.lookup x.1).getD 0)::cs else cs
theorem AU(h:∀y∈sc.names,y.2=.free->∃c,env.cells.lookup y.1=some c):
  closureFor sc env=pure (sc.names.foldl (fun b x=>oQ env x b) []):=by
 simp only[closureFor];rw[uD (oQ env) sc.names [] (fun x hx b=>by
  obtain⟨n,k⟩:=x;unfold oQ;by_cases hk:k=.free
  ·subst hk;obtain⟨c,hc⟩:=h _ hx rfl;have e:cellOf env n=pure c:=by unfold cellOf;rw[hc]
   simp[e,hc]
  ·have hb:(k==Ra)=false:=by simpa using hk
   simp only[hb,Tz,if_false])]
 rfl
theorem ue{env:S2}:∀(l:List (pe×Ua)) (acc:List (pe×dk)),(∀y∈l,y.2=.free->∃c,env.cells.lookup y.1=some c)->(∀p∈acc,env.cells.lookup p.1=some p.2)->
  ∀p∈l.foldl (fun b x=>oQ env x b) acc,env.cells.lookup p.1=some p.2
 |[],acc,_,ha=>ha
 |x::l,acc,h,ha=>by
  refine ue l _ (fun y hy=>h y (xj _ hy)) fun p hp=>?_;unfold oQ at hp;dsimp only at hp;by_cases hk:x.2=.free
  ·obtain⟨c,hc⟩:=h x xl hk;rw[hk]at hp;simp only[beq_self_eq_true,if_true]at hp;rcases uc.mp hp with rfl|hp
   ·rw[hc];rfl
   ·exact ha p hp
  ·have hb:(x.2==Ra)=false:=by simpa using hk
   simp only[hb,Tz,if_false]at hp;exact ha p hp
theorem uO{env:S2}{n:pe}:∀(l:List (pe×Ua)) (acc:List (pe×dk)),((∃c,(n,c)∈acc)∨(n,Ra)∈l)->∃c,(n,c)∈l.foldl (fun b x=>oQ env x b) acc
 |[],acc,h=>by
  rcases h with h|h
  ·exact h
  ·cases h
 |x::l,acc,h=>by
  refine uO l _ ?_;unfold oQ;dsimp only;rcases h with⟨c,h⟩|h
  ·refine .inl ⟨c,?_⟩;split
   ·exact xj _ h
   ·exact h
  ·rcases uc.mp h with h|h
   ·refine .inl ?_;subst h;exact⟨_,by rw[if_pos (by rfl)];exact .head _⟩
   ·exact .inr h
theorem nB{n:pe}{c:dk}:∀{l:List (pe×dk)},(n,c)∈l->∃c',l.lookup n=some c'
 |[],h=>by cases h
 |(m,d)::l,h=>by
  rw[Vk];cases e:n==m with
  |true=>exact⟨d,rfl⟩
  |false=>
   rcases uc.mp h with h|h
   ·cases h;simp at e
   ·exact nB h
theorem Hf{n:pe}{c:dk}:∀{l:List (pe×dk)},l.lookup n=some c->(n,c)∈l
 |[],h=>by cases h
 |(m,d)::l,h=>by
  rw[Vk]at h;cases e:n==m with
  |true=>
   rw[e]at h;have e':n=m:=by simpa using e
   have h':d=c:=Qj h;rw[e',h'];exact xl
  |false=>
   rw[e]at h;exact xj _ (Hf h)
theorem tH(h:∀y∈sc.names,y.2=.free->∃c,env.cells.lookup y.1=some c):
  ∃cl,closureFor sc env=pure cl/\(∀x c,cl.lookup x=some c->env.cells.lookup x=some c)/\(∀n,(n,Ra)∈sc.names->∃c,cl.lookup n=some c):=by
 refine⟨_,AU h,fun x c e=>?_,fun n hn=>?_⟩
 ·exact ue sc.names [] h (fun p hp=>by cases hp) (x,c) (Hf e)
 ·obtain⟨c,hc⟩:=uO (env:=env) sc.names [] (.inr hn);exact nB hc
theorem mH{x:pe}{names:List (pe×Ua)}:
  (names.map fun(n,k)=>if(k==Ra&&env.scope.kind==.function&&env.kindOf n==some .cell)then(n,R0)else(n,k)).lookup x
  =(names.lookup x).map fun k=>if(k==Ra&&env.scope.kind==.function&&env.kindOf x==some .cell)then R0 else k:=by
 induction names with
 |nil=>rfl
 |cons p r ih=>
  obtain⟨n,k⟩:=p;rw[Qd];by_cases e:x=n
  ·subst e;dsimp only;split<;>simp_all
  ·have e':(x==n)=false:=by simpa using e
   dsimp only;split<;>simp only[Vk,e']<;>exact ih
def yb(elt target:QC)(ifs:List QC)(it acc:cT)(env:S2):Vd Bool:=do
 match←pyNext it with
 |none=>pure false
 |some v=>
  letOwnedTupleGo target it v
  assign target env v
  let ok←forIn ifs true fun c r=>if r=true then do let ok←isTrue c env (eval c env);pure (Us ok)else pure (Us r)
  if ok=true then do
   let x←eval elt env;let _←call (.builtin "list.append") [acc,x]
   pure true
  else pure true
theorem Jd(elt target iter:QC)(ifs:List QC)(scope:SU)(pos:Sz)(it acc:cT)(env:S2):
  compTurn (.ListComp elt [⟨target,iter,ifs,0⟩] scope pos) 0 it acc env=(do
   Ug iter.pos
   let more←yb elt target ifs it acc env
   if more=true then again (.compLoop (.ListComp elt [⟨target,iter,ifs,0⟩] scope pos) 0 it acc env)else pure (.done .next)):=by
 rw[compTurn_list,yb];simp only[bind_assoc];congr 1;funext _;congr 1;funext r;cases r with
 |none=>simp
 |some v=>
  simp only[bind_assoc];congr 1;funext _;congr 1;funext _;congr 1;funext ok;cases ok<;>simp
theorem Aw{prog:Qo}{w:Qu}{A:QR}{R:S3->lr->Prop}{s:lr}{elt target iter:QC}{ifs:List QC}{scope:SU}{pos:Sz}{it acc:cT}(I:Nat->lr->Prop)(turn:∀n s,I n s->ni (model prog w) A (yb elt target ifs it acc env) (fun more s'=>if more=true then∃m,m<n/\I m s' else R (.ok .next) s') (fun _ _=>False) s)(n:Nat)(h:I n s):
  QW (model prog w) A (.compLoop (.ListComp elt [⟨target,iter,ifs,0⟩] scope pos) 0 it acc env) R s:=by
 apply codeAny_loop rfl I _ n h;intro n s hI;apply wpAny_noted;rw[Jd];change ni _ A _ _ _ _;apply wpAny_bind;apply wpAny_standAt;apply wpAny_bind;refine wpAny_mono (turn n s hI) (fun more s' q=>?_) fun _ _ z=>z.elim;cases more
 ·exact wpAny_pure q
 ·exact wpAny_pure ⟨rfl,q⟩
end GX
namespace GX
open PySem PySem.Spec PyProof.Rows
variable{A:QR}{key v:cT}{Q E:cT->lr->Prop}{s:lr}{B:QU}{R:S3->lr->Prop}{nm:String}{kws:List (pe×cT)}{ko d:Option cT}
def kept:Option (cT×cT)->Array cT
 |none=>#[]
 |some (x,k)=>#[x,k]
abbrev ug(a:Array cT)(c:Nat):QM:={cls:=.type "list",dict:=none,data:=.seq a c,slots:=#[]}
abbrev put(S:dk)(a:Array cT)(s:lr):lr:={s with heap:=s.heap.update S (Rv fun _=>a)}
def KeyOf(prog:Qo)(w:Qu)(A:QR)(key v:cT)(Q:cT->lr->Prop)(s:lr):Prop:=
 match key with
 | .none=>Q v s
 |f=>ni (model prog w) A.in1 (call f [v]) Q (fun _ _=>False) s
def After(prog:Qo)(w:Qu)(op:XF)(lp:String)(I S:dk)(key:cT)(kw:List (pe×cT))(b:Option (cT×cT))(A:QR)(R:S3->lr->Prop):Option cT->lr->Prop
 |none,s=>(∃c,s.heap.get? S=some (ug (kept b) c))/\match b with
  |some (x,_)=>R (.ok (.ret x)) (put S #[] s)
  |none=>∃n d r,kw=(n,d)::r/\R (.ok (.ret d)) s
 |some v,s=>KeyOf prog w A key v (fun k s=>(∃c,s.heap.get? S=some (ug (kept b) c))/\match b with
  |none=>QW (model prog w) A (.builtin lp ⟨[.ref I,key,.ref S],kw⟩) R (put S #[v,k] s)
  |some (_,k')=>ni (model prog w) A.in1 (richCompare op k k') (fun a s=>∃y c,a=.bool y/\s.heap.get? S=some (ug (kept b) c)/\QW (model prog w) A (.builtin lp ⟨[.ref I,key,.ref S],kw⟩) R (if y then put S #[v,k] s else s)) (fun _ _=>False) s) s
abbrev Turn(prog:Qo)(w:Qu)(op:XF)(lp:String)(B:QU):Prop:=∀(I S:dk) (key:cT) (kw:List (pe×cT)) (b:Option (cT×cT)) (c:Nat),
 MeetsIn prog w (B ⟨[.ref I,key,.ref S],kw⟩) fun A R s=>s.heap.get? S=some (ug (kept b) c)/\ni (model prog w) A.in1 (pyNext (.ref I)) (After prog w op lp I S key kw b A R) (fun _ _=>False) s
section
variable{prog:Qo}{w:Qu}
theorem two{x k:cT}:(kept (some (x,k))).size<=sizeLine:=by show 2<=sizeLine;decide +kernel
theorem key_of{P:U5->lr->Prop}{f:cT->Vd U5}(r:cT->Vd cT)(h:KeyOf prog w A key v Q s)(m:∀k s,Q k s->ni (model prog w) A.in1 (f k) P E s):
  ni (model prog w) A.in1 (match key with| .none=>pure v >>= f|_=>tryCatch (holding [v] (call key [v])) r >>= f) P E s:=by
 unfold KeyOf at h;split at h
 ·exact wpAny_bind (wpAny_pure (m _ _ h))
 ·exact wpAny_bind (wpAny_tryCatch (wpAny_holding (wpAny_mono h m fun _ _ z=>z.elim)))
theorem yY:Turn prog w .Lt "min.loop" QU.«min.loop»:=by
 intro I S key kw b c A R s ⟨hS,nx⟩;show ni _ _ (VF (.ref S) >>= _) _ _ s;apply wpAny_bind;apply wpAny_seqItems hS rfl;apply wpAny_bind;apply wpAny_tryCatch;refine wpAny_mono nx (fun r s1 h=>?_) fun _ _ z=>z.elim;rcases r with _|v<;>rcases b with _|⟨x,k'⟩
 ·obtain⟨_,n,d,l,rfl,q⟩:=h
  wp_walk
  exact q
 ·obtain⟨⟨c1,h1⟩,q⟩:=h;apply wpAny_bind;refine wpAny_updateSeq h1 rfl ?_ two
  wp_walk
  exact q
 ·unfold After at h;refine key_of _ h fun k s2 h=>?_;obtain⟨⟨c2,h2⟩,q⟩:=h;apply wpAny_bind;apply wpAny_updateSeq h2 rfl;exact wpAny_pure ⟨plainId_quiet Sq _,q⟩
 ·unfold After at h;refine key_of _ h fun k s2 h=>?_;obtain⟨_,q⟩:=h;apply wpAny_bind;apply wpAny_tryCatch;apply wpAny_holding;apply wpAny_bind;refine wpAny_mono q (fun a s3 h=>?_) fun _ _ z=>z.elim;obtain⟨y,c3,rfl,h3,q⟩:=h
  wp_walk
  cases y
  ·wp_walk
   exact⟨plainId_quiet Sq _,q⟩
  ·refine wpAny_ite_true rfl (wpAny_bind (wpAny_updateSeq h3 rfl ?_ two))
   wp_walk
   exact⟨plainId_quiet Sq _,q⟩
theorem enter{id:String}{args:Args}{Sp:YT}(he:SY UJ id=some B)(hp:V2 id=true)(m:MeetsIn prog w (B args) Sp)(h:Sp A R s):
  QW (model prog w) A (.builtin id args) R s:=codeAny_builtin he (by rw[Around.under_plainId hp];exact m A R s h)
def CM(bt:Nat->Nat->Bool)(n i:Nat):Prop:=∀j,j<n->bt j i=false/\(j<i->bt i j=true)
structure Best(prog:Qo)(w:Qu)(A:QR)(key:cT)(op:XF)(l I S:dk)(vs:List cT)(bt:Nat->Nat->Bool)(G:List (Nat×cT)->lr->Prop):Prop where
 irr:∀i,bt i i=false
 asy:∀i j,bt i j=true->bt j i=false
 cov:∀a b c,bt a b=true->bt c b=false->bt a c=true
 tail:∀p q L s,G (p::q::L) s->G (q::L) s
 head:∀p L s,G (p::L) s->G [p] s
 calm:∀x L s h tk,x=I∨x=S->G L s->(∀b o,b≠x->s.heap.get? b=some o->h.get? b=some o)->G L {s with heap:=h,toks:=tk}
 list:∀L s,G L s->s.heap.IsList l vs.toArray
 keys:∀L s j v a c m,G L s->vs[j]?=some v->s.heap.get? S=some (ug a c)->s.heap.IsListIter I l m->KeyOf prog w A key v (fun k s=>G ((j,k)::L) s/\s.heap.get? S=some (ug a c)/\s.heap.IsListIter I l m) s
 cmp:∀i j k k' s,G [(j,k),(i,k')] s->ni (model prog w) A.in1 (richCompare op k k') (fun a s'=>a=.bool (bt j i)/\s'=s) (fun _ _=>False) s
theorem KeyOf.imp{Q':cT->lr->Prop}(h:KeyOf prog w A key v Q s)(m:∀k s,Q k s->Q' k s):KeyOf prog w A key v Q' s:=by
 unfold KeyOf at h⊢;split at h
 ·exact m _ _ h
 ·exact wpAny_mono h m fun _ _ z=>z
def Pq(bt:Nat->Nat->Bool)(vs:List cT)(j:Nat):Option (Nat×cT×cT)->Prop
 |none=>j=0
 |some (i,x,_)=>i<j/\vs[i]?=some x/\CM bt j i
def held:Option (Nat×cT×cT)->List (Nat×cT)
 |none=>[]
 |some (i,_,k)=>[(i,k)]
variable{op:XF}{lp:String}{l I S:dk}{vs:List cT}{bt:Nat->Nat->Bool}{G:List (Nat×cT)->lr->Prop}{kw:List (pe×cT)}
theorem Best.put(M:Best prog w A key op l I S vs bt G){L:List (Nat×cT)}{a b:Array cT}{c m:Nat}(SI:S≠I)(g:G L s)(hS:s.heap.get? S=some (ug a c))(hI:s.heap.IsListIter I l m):
  G L (put S b s)/\(∃c,(put S b s).heap.get? S=some (ug b c))/\(put S b s).heap.IsListIter I l m:=
 ⟨M.calm S L s _ s.toks (.inr rfl) g fun x o n e=>(QP _ _ (QH n)).trans e,⟨_,Q7 _ hS rfl⟩,hI.at fun o e=>(QP _ _ SI).trans e⟩
theorem Ek(T:Turn prog w op lp B)(he:SY UJ lp=some B)(hp:V2 lp=true)(hh:A.handled=none)(M:Best prog w A key op l I S vs bt G)(lI:l≠I)(SI:S≠I)
  (hD:vs=[]->∃n d r,kw=(n,d)::r/\∀s,G [] s->R (.ok (.ret d)) s) (hR:∀i v k s,vs[i]?=some v->CM bt vs.length i->G [(i,k)] s->R (.ok (.ret v)) s):
  ∀(r j:Nat) (b:Option (Nat×cT×cT)) (s:lr) (c:Nat),vs.length=j+ r->Pq bt vs j b->G (held b) s->s.heap.get? S=some (ug (kept (b.map (·.2))) c)->s.heap.IsListIter I l j->
   QW (model prog w) A (.builtin lp ⟨[.ref I,key,.ref S],kw⟩) R s:=by
 have W:=U9 (prog:=prog) (w:=w) (A:=A.in1) hh I l lI vs.toArray;intro r
 induction r with
 |zero=>
  intro j b s c ej so g hS hI;obtain rfl:j=vs.toArray.size:=by rw[xu];omega
  refine enter he hp (T I S key kw _ c) ⟨hS,W.done _ _ _ ⟨hI,M.list _ _ g⟩ fun h tk k=>?_⟩;have g1:=M.calm I _ _ h tk (.inl rfl) g fun x o n e=>k x o (by simpa using n) e;refine⟨⟨c,k S _ (by simpa using SI) hS⟩,?_⟩;rcases b with _|⟨i,x,y⟩
  ·obtain⟨n,d,l,e,q⟩:=hD (Rr (by simpa using(show vs.toArray.size=0 from so)));exact⟨n,d,l,e,q _ g1⟩
  ·exact hR i x y _ so.2.1 (by simpa using so.2.2) (M.calm S _ _ _ tk (.inr rfl) g1 fun z o n e=>(QP _ _ (QH n)).trans e)
 |succ r ih=>
  intro j b s c ej so g hS hI;refine enter he hp (T I S key kw _ c) ⟨hS,W.item j _ _ _ (by rw[xu];omega) ⟨hI,M.list _ _ g⟩ fun v h tk hv st k=>?_⟩;have hv:vs[j]?=some v:=by simpa using hv
  have g1:=M.calm I _ _ h tk (.inl rfl) g fun x o n e=>k x o (by simpa using n) e;unfold After;refine KeyOf.imp (M.keys _ _ j v _ _ _ g1 hv (k S _ (by simpa using SI) hS) st.1) fun y s2 ⟨g2,h2,i2⟩=>⟨⟨c,h2⟩,?_⟩;have more:(∀i,i<j->bt j i=true)->QW (model prog w) A (.builtin lp ⟨[.ref I,key,.ref S],kw⟩) R (put S #[v,y] s2):=fun up=>by
   obtain⟨g3,⟨c3,h3⟩,i3⟩:=M.put (b:=#[v,y]) SI g2 h2 i2;refine ih (j+ 1) (some (j,v,y)) _ c3 (by omega) ⟨SK _,hv,fun i hi=>?_⟩ (M.head _ _ _ g3) h3 i3;rcases Vl.mp hi with z|rfl
   ·exact⟨M.asy _ _ (up i z),fun _=>up i z⟩
   ·exact⟨M.irr _,fun z=>absurd z (QD _)⟩
  rcases b with _|⟨i,x,z⟩
  ·exact more fun i hi=>absurd (show j=0 from so) (by omega)
  ·obtain⟨hi,hx,ft⟩:=so;refine wpAny_mono (M.cmp i j y z s2 g2) (fun a s3 ⟨ea,es⟩=>⟨_,c,ea,es▸h2,?_⟩) fun _ _ z=>z;subst es;cases e:bt j i with
   |true=>exact more fun i' hi'=>M.cov _ _ _ e (ft i' hi').1
   |false=>
    refine ih (j+ 1) (some (i,x,z)) _ c (by omega) ⟨by omega,hx,fun i' hi'=>?_⟩ (M.tail _ _ _ _ g2) h2 i2;rcases Vl.mp hi' with z|rfl
    ·exact ft i' z
    ·exact⟨e,fun z=>absurd z (by omega)⟩
abbrev Hi(prog:Qo)(w:Qu)(nm lp:String):Prop:=∀(A:QR) (s:lr) (Q E:cT->lr->Prop) (kws:List (pe×cT)) (ko d:Option cT) (l:dk) (its:Array cT),
 S8 nm ["key","default"] 0 ⟨[],kws⟩=pure [ko,d]->argsOk nm ⟨[.ref l],kws⟩->s.heap.IsList l its->
 QW (model prog w) A (.builtin lp ⟨[.ref s.heap.objs.size,ko.getD .none,.ref (s.heap.objs.size+ 1)],d.toList.map fun d=>("default",d)⟩) (wants Q E)
  {s with heap:=(s.heap.push {cls:=.type "list_iterator",data:=.fields #[.ref l,.int 0 0]}).push (ug #[] 0)}->ni (model prog w) A (call (.builtin nm) [.ref l] kws) Q E s
theorem wL:Hi prog w "min" "min.loop":=by
 intro A s Q E kws ko d l its hb ha hl h;refine kmb_tree F.kind_min F.plain_min F.entry_min ha ?_
 wp_walk using wpAny_of_eq hb,wpAny_pyIter_list hl
 rw[Rl];exact⟨plainId_quiet Sq _,h⟩
theorem wg(O:Hi prog w nm lp)(T:Turn prog w op lp B)(he:SY UJ lp=some B)(hp:V2 lp=true)(hh:A.handled=none)(hb:S8 nm ["key","default"] 0 ⟨[],kws⟩=pure [ko,d])(ha:argsOk nm ⟨[.ref l],kws⟩)(hl:s.heap.IsList l vs.toArray)(M:Best prog w A (ko.getD .none) op l s.heap.objs.size (s.heap.objs.size+ 1) vs bt G)(g:∀h,(∀b o,s.heap.get? b=some o->h.get? b=some o)->G [] {s with heap:=h})(hD:vs=[]->∃x,d=some x/\∀s,G [] s->Q x s)(hR:∀i v k s,vs[i]?=some v->CM bt vs.length i->G [(i,k)] s->Q v s):ni (model prog w) A (call (.builtin nm) [.ref l] kws) Q E s:=by
 obtain⟨o,ho,_⟩:=id hl;refine O A s Q E kws ko d l _ hb ha hl (Ek T he hp hh M (xy (vc ho)) (Nat.succ_ne_self _) (fun e=>?_) hR vs.length 0 none _ 0 (WK _).symm rfl (g _ fun b o e=>?_) ?_ ?_)
 ·obtain⟨x,rfl,q⟩:=hD e;exact⟨_,x,[],rfl,q⟩
 ·exact gf _ (gf _ e)
 ·exact W8 (Rl ..).symm rfl
 ·exact⟨_,gf _ (rl _ rfl),rfl,rfl⟩
abbrev nG(h h':Qg):Prop:=∀b o,h.get? b=some o->h'.get? b=some o
theorem AL(O:Hi prog w nm lp)(T:Turn prog w op lp B)(he:SY UJ lp=some B)(hp:V2 lp=true)(hh:A.handled=none)(hb:S8 nm ["key","default"] 0 ⟨[],kws⟩=pure [ko,d])(ha:argsOk nm ⟨[.ref l],kws⟩)(hl:s.heap.IsList l vs.toArray)(bt:Nat->Nat->Bool)(irr:∀i,bt i i=false)(asy:∀i j,bt i j=true->bt j i=false)(cov:∀a b c,bt a b=true->bt c b=false->bt a c=true)(KK:Nat->cT->Prop)(keys:∀j v h tk,vs[j]?=some v->nG s.heap h->KeyOf prog w A (ko.getD .none) v (fun k s'=>KK j k/\∃tk,s'={s with heap:=h,toks:=tk}) {s with heap:=h,toks:=tk})(cmp:∀i j k k' h tk,KK j k->KK i k'->nG s.heap h->∀Q:cT->lr->Prop,Q (.bool (bt j i)) {s with heap:=h,toks:=tk}->ni (model prog w) A.in1 (richCompare op k k') Q (fun _ _=>False) {s with heap:=h,toks:=tk})(hD:vs=[]->∃x,d=some x/\∀h tk,nG s.heap h->Q x {s with heap:=h,toks:=tk})(hR:∀i v h tk,vs[i]?=some v->CM bt vs.length i->nG s.heap h->Q v {s with heap:=h,toks:=tk}):
  ni (model prog w) A (call (.builtin nm) [.ref l] kws) Q E s:=by
 refine wg (bt:=bt) (G:=fun L s'=>(∃h tk,s'={s with heap:=h,toks:=tk}/\nG s.heap h)/\∀p∈L,KK p.1 p.2) O T he hp hh hb ha hl ⟨irr,asy,cov,?_,?_,?_,?_,?_,?_⟩ (fun h k=>⟨⟨h,s.toks,rfl,k⟩,by simp⟩) (fun e=>?_) ?_
 ·exact fun p q L s g=>⟨g.1,fun q hq=>g.2 q (xj _ hq)⟩
 ·exact fun p L s g=>⟨g.1,fun q hq=>g.2 q (tw.mp hq▸xl)⟩
 ·rintro x L s' h tk hx ⟨⟨h',tk',rfl,G⟩,q⟩ k;refine⟨⟨h,tk,rfl,fun b o e=>k b o ?_ (G b o e)⟩,q⟩;have:=vc e;rcases hx with rfl|rfl
  ·exact xy this
  ·exact xy (SD this)
 ·rintro L s' ⟨⟨h',tk',rfl,G⟩,q⟩;exact hl.at fun o e=>G _ _ e
 ·rintro L s' j v a c m ⟨⟨h,tk,rfl,G⟩,q⟩ hv hS hI;refine(keys j v h tk hv G).imp ?_;rintro k s' ⟨hk,tk',rfl⟩;refine⟨⟨⟨h,tk',rfl,G⟩,fun p hp=>?_⟩,hS,hI⟩;rcases uc.mp hp with rfl|hp
  ·exact hk
  ·exact q p hp
 ·rintro i j k k' s' ⟨⟨h,tk,rfl,G⟩,q⟩;exact cmp i j k k' h tk (q (j,k) (by simp)) (q (i,k') (by simp)) G _ ⟨rfl,rfl⟩
 ·obtain⟨x,hx,q⟩:=hD e;exact⟨x,hx,fun s' ⟨⟨h,tk,e,G⟩,_⟩=>e▸q h tk G⟩
 ·exact fun i v k s' hv ft ⟨⟨h,tk,e,G⟩,_⟩=>e▸hR i v h tk hv ft G
end
end GX
namespace GX
open PySem
end GX
namespace GB
variable{n b h:Nat}
theorem Cq(n h:Nat):(n &&& 2^h=0)↔n.testBit h=false:=by
 constructor
 ·intro e;have q:(n &&& 2^h).testBit h=false:=by rw[e];exact Vm h
  rw[XO,Nat.testBit_two_pow_self,Bool.and_true]at q;exact q
 ·intro e;apply Nat.eq_of_testBit_eq;intro i;rw[XO,Vm,Wz];by_cases hi:h=i
  ·subst hi;rw[e];rfl
  ·rw[decide_eq_false hi,X8]
def Fg(n:Nat):List Nat:=(QF 63).filter fun h=>n.testBit h
theorem Fx(hn:n<2^b)(hb:b<=h):n.testBit h=false:=
 Nat.testBit_lt_two_pow (Qr hn (We (by decide) hb))
theorem w6{p:Nat->Bool}{c:Nat}(hb:b<=c)(hp:∀h,b<=h->p h=false):(QF c).filter p=(QF b).filter p:=by
 induction c with
 |zero=>
  have:b=0:=by omega
  subst this;rfl
 |succ c ih=>
  by_cases e:b=c+ 1
  ·subst e;rfl
  ·rw[VG,Qm,ih (by omega)];have:[c].filter p=[]:=by
    rw[Rb,hp c (by omega)];rfl
   rw[this,Q2]
theorem IU(hb:b<=63)(hn:n<2^b):(QF b).filter (fun h=>n.testBit h)=Fg n:=
 (w6 hb fun _ hh=>Fx hn hh).symm
theorem AI:h∈Fg n↔h<63/\n.testBit h=true:=by
 unfold Fg;rw[QS,RD]
theorem HN(n:Nat):(Fg n).length<=63:=by
 have:=Qf (fun h=>n.testBit h) (QF 63);rw[RI]at this;exact this
theorem iN(n:Nat):(Fg n).Pairwise (·<·):=List.Pairwise.filter _ S0
def hl(n:Int):List Int:=(Fg n.toNat).map (fun(h:Nat)=>(h:Int))
theorem LG(n:Int):(hl n).length<=63:=by
 unfold hl;rw[gm];exact HN _
theorem F7{n:Int}{a:Int}{r:List Int}(e:hl n=a::r):∀x∈hl n,a<=x:=by
 have s:(hl n).Pairwise (·<·):=by
  unfold hl;rw[W9];exact(iN _).imp fun h=>by omega
 rw[e]at s⊢;intro x hx;rcases uc.mp hx with rfl|hx
 ·exact R6 _
 ·have:=(UO.mp s).1 x hx;omega
end GB
namespace GB
def Cg(l:List Nat):Nat:=l.foldl (fun a h=>a ||| 2^h) 0
theorem Aj(h:Nat):∀(l:List Nat) (a:Nat),(l.foldl (fun a h=>a ||| 2^h) a).testBit h=(a.testBit h||decide (h∈l))
 |[],a=>by simp
 |x::l,a=>by
  rw[Sb,Aj h l,Nat.testBit_or,Wz,Bool.or_assoc];congr 1;rw[Su];simp only[Bool.or_eq_true,decide_eq_true_iff,uc];constructor
  ·rintro(e|e)
   ·exact .inl e.symm
   ·exact .inr e
  ·rintro(e|e)
   ·exact .inl e.symm
   ·exact .inr e
theorem zi(l:List Nat)(h:Nat):(Cg l).testBit h=decide (h∈l):=by
 unfold Cg;rw[Aj,Vm,UT]
theorem Ju{l:List Nat}{b:Nat}(h:∀x∈l,x<b):Cg l<2^b:=by
 apply Nat.lt_pow_two_of_testBit;intro i hi;rw[zi];exact decide_eq_false fun z=>by have:=h i z;omega
end GB
namespace L2
open PySem PySem.Spec PyProof.Rows
variable{X:Cx}{H:Hp}{h:Qg}{C D:dk}{elt tg iter e:QC}{ifs es:List QC}{sc:SU}{pos p:Sz}{g:TG}{tt:TT}{te:TE}{σ:St}{Qe:Hp->Prop}{wi:TI}{i:Nat}{x:pe}{kws:List Uh}{t:TA}
def O6(N:List pe)(sc:SU)(x:pe):Option Nat->Bool
 |none=>true
 |some j=>decide (N[j]?=some x)&&decide (sc.names.lookup x=some .free)
def G3(N N':List pe)(src:List (Option Nat))(esc sc:SU):Prop:=
 (∀y∈sc.names,y.2≠.cell)/\(∀y∈sc.names,y.2=.local->sc.names.lookup y.1=some .local)/\
 (∀y∈sc.names,y.2=.free->esc.names.lookup y.1=some .cell∨esc.names.lookup y.1=some .free)/\
 N'.Nodup/\src.length=N'.length/\∀p∈N'.zip src,O6 N sc p.1 p.2=true
instance (N N':List pe) (src:List (Option Nat)) (esc sc:SU):Decidable (G3 N N' src esc sc):=by unfold G3;infer_instance
def yQ(src:List (Option Nat))(σ:St):St:=src.map fun o=>o.bind fun j=>(σ[j]?).bind fun v=>v
def Cx.blk(X:Cx)(N':List pe)(sc:SU)(cl:List (pe×dk))(C:dk)(s2:lr)(H2:Hp)(fp:List dk):Cx:=
 {X with N:=N',s₀:=s2,H₀:=H2,env:=compEnvC sc cl C X.env,outer:=X.stack,ex:=fp,fn:=fun _=>false,pn:=[],xe:=fun _ _=>False}
def PIf(X:Cx)(ifs:List QC)(t:TT):Prop:=
 ∀(pins:List (dk×QM)) (s:lr) (σ:St) (H:Hp) (Q:Bool->Hp->Prop),Inv X pins σ H s->t σ H Q->
  ni (model X.prog X.w) X.A (forIn ifs true fun c r=>if r=true then do let ok←isTrue c X.env (eval c X.env);pure (Us ok)else pure (Us r)) (TP X pins σ Q) X.xe s
def M3:TT:=fun _ H Q=>Q true H
theorem eJ:PIf X [] M3:=fun _ _ _ H _ I h=>wpAny_tests_nil ⟨H,I,h⟩
theorem fF{c:QC}{t:TT}(h:PT X c t):PIf X [c] t:=fun pins s σ H Q I hw=>wpAny_tests_one (h pins s σ H Q I hw)
theorem Un.but{fs ex:List dk}{H':Hp}{h1 h2:Qg}(u:Un fs ex H H' h h1)(sb:Rf C h1 h2)(hC:h.get? C=none):Un fs ex H H' h h2:=
 have ne:∀b o,h.get? b=some o->b≠C:=fun b o e z=>by rw[z,hC]at e;cases e
 ⟨fun b o e n hb hx=>(sb.2 b (ne b o e)).trans (u.keep b o e n hb hx),fun b o e n hb hx=>let ⟨sl,z⟩:=u.slot b o e n hb hx;⟨sl,(sb.2 b (ne b o e)).trans z⟩,u.free,
  fun b o e hx=>let ⟨o',z⟩:=u.there b o e hx;⟨o',(sb.2 b (ne b o e)).trans z⟩,u.tups,u.frzs,u.tbls⟩
theorem HOk.but{P:Qo}{w:Qu}{h':Qg}(x:HOk P w H h)(sb:Rf C h h')(hC:H C=none):HOk P w H h':=fun b ob e=>by
 refine(x b ob e).stay (fun c v hc q=>(sb.2 c ?_).trans q) (fun _ q=>q) fun _ _ q=>q;rintro rfl;rcases hc with rfl|hc
 ·rw[hC]at e;cases e
 ·rw[hC]at hc;cases hc
def eR(g:TG)(tt:TT)(te:TE)(D:dk)(N:St->Hp->Prop)(x:V)(σ:St)(H:Hp):Prop:=
 g x σ H fun σ2 H2=>tt σ2 H2 fun b H3=>if b=true then te σ2 H3 fun y H4=>∃ys,H4 D=some (.lst ys)/\ys.length<sizeLine/\N σ2 (upd H4 D (.lst (ys++[y])))else N σ2 H3
def Gx(src:List (Option Nat))(wi:TI)(g:TG)(tt:TT)(te:TE):TE:=fun σ H Q=>wi σ H fun J H1=>∀D,H1 D=none->∃W:Nat->Nat->St->Hp->Prop,(∃m,W 0 m (yQ src σ) (upd H1 D (.lst [])))/\
 ∀i m σ' H',W i m σ' H'->(J.stop i H'/\Q (.ref D) H')∨(J.go i H'/\∃N:St->Hp->Prop,(∀σ2 H2,N σ2 H2->∃m',m'<m/\W (i+ 1) m' σ2 H2)/\
  ∀x H'',J.yld i H' x H''->eR g tt te D N x σ' H'')
theorem wy{N':List pe}{src:List (Option Nat)}{cl:List (pe×dk)}{pins:List (dk×QM)}{H2:Hp}{s2:lr}{it:dk}{fp:List dk}{tn:Nat->Qg->Prop}{J:It}{W:Nat->Nat->St->Hp->Prop}{m0:Nat}{RR:cT->dk->S3->lr->Prop}(hc:X.calm=true)(hk:sc.kind=.function)(hB:G3 X.N N' src X.env.scope sc)(hsub:∀x c,cl.lookup x=some c->X.env.cells.lookup x=some c)(hhas:∀n,(n,Ra)∈sc.names->∃c,cl.lookup n=some c)(hg:∀cl C s2 H2 fp,N'.Nodup->PG (X.blk N' sc cl C s2 H2 fp) tg g)(ht:∀cl C s2 H2 fp,PIf (X.blk N' sc cl C s2 H2 fp) ifs tt)(he:∀cl C s2 H2 fp,PE (X.blk N' sc cl C s2 H2 fp) elt te)(I2:Inv X pins σ H2 s2)(T:Turn X.prog X.w X.K tg J fp it tn)(st2:tn 0 s2.heap)(f2:∀b∈fp,kE X pins H2 b)(w0:W 0 m0 (yQ src σ) (upd H2 s2.heap.objs.size (.lst [])))(turn:∀i m σ' H',W i m σ' H'->(J.stop i H'/\Qe H')∨(J.go i H'/\∃N:St->Hp->Prop,(∀σ2 H2,N σ2 H2->∃m',m'<m/\W (i+ 1) m' σ2 H2)/\
   ∀x H'',J.yld i H' x H''->eR g tt te s2.heap.objs.size N x σ' H'')) (fin:∀C s4 σ3 H3,s2.heap.objs.size<=C->Inv (X.blk N' sc cl C s2 H2 fp) [] σ3 H3 s4->Qe H3->RR (.ref s2.heap.objs.size) C (.ok .next) s4):
  ni (model X.prog X.w) X.A (newList []) (fun acc s₃=>ni (model X.prog X.w) X.A (newFunctionEnv sc X.env.globals cl [] X.env.qual none .none (some X.env)) (fun cenv s₄=>
   QW (model X.prog X.w) X.A (.compStart (.ListComp elt [⟨tg,iter,ifs,0⟩] sc pos) 0 (.ref it) acc {cenv with scope:=relabel sc X.env}) (RR acc cenv.locals) s₄) X.xe s₃) X.xe s2:=by
 obtain⟨b1,b2,b3,b4,b5,b6⟩:=hB;refine wpAny_newObj_type (wpAny_newFunctionEnv b1 (by intro y hy;simp at hy) (fun h₁ ns₁ sb₁=>?_) hk);dsimp only at ns₁ sb₁⊢;generalize hP:s2.heap.push {cls:=.type "list",dict:=none,data:=.seq ([]:List cT).toArray}=Hl at ns₁ sb₁⊢;have hC:Hl.objs.size=s2.heap.objs.size+ 1:=by rw[←hP,Rl]
 have nDC:s2.heap.objs.size≠Hl.objs.size:=by rw[hC];exact xy (SK _)
 have below:∀{b:dk} {o:QM},s2.heap.get? b=some o->b≠Hl.objs.size:=fun{b o} z=>by
  have:=vc z;rw[hC];exact xy (SD this)
 have old:∀b o,s2.heap.get? b=some o->h₁.get? b=some o:=fun b o z=>sb₁.extBut b o (below z) (gf _ (hP▸gf _ z));have hD1:h₁.get? s2.heap.objs.size=some {cls:=.type "list",data:=.seq ([]:List cT).toArray}:=sb₁.extBut _ _ nDC (gf _ (hP▸rl _ rfl));have fD:H2 s2.heap.objs.size=none:=I2.hok.fresh (oh _);have fC:H2 Hl.objs.size=none:=I2.hok.fresh (by rw[hC];exact RP _);have ok:(X.blk N' sc cl Hl.objs.size s2 H2 fp).Ok:=by
  refine⟨I2.ok.mod,hk,I2.ok.glob,I2.ok.blt,?_,fun x y c h1 h2=>I2.ok.inj x y c (hsub x c h1) (hsub y c h2),fun x hx=>?_,fun x c z=>?_,I2.ok.hd,I2.ok.frames,.inl rfl,fun b hb=>⟨?_,fun x c z=>(f2 b hb).2.2.2.2.1 x c (hsub x c z)⟩,
   I2.bs,QT I2.ok.bsz I2.sz,fun b o z hb=>?_,fun b hb z=>?_,I2.stack,I2.stkFree⟩
  ·show s2.heap.objs.size<=Hl.objs.size;rw[hC];exact RP _
  ·have hx':(sc.names.map fun(n,k)=>if(k==Ra&&X.env.scope.kind==.function&&X.env.kindOf n==some .cell)then(n,R0)else(n,k)).lookup x=some .cell∨
     (sc.names.map fun(n,k)=>if(k==Ra&&X.env.scope.kind==.function&&X.env.kindOf n==some .cell)then(n,R0)else(n,k)).lookup x=some .free:=hx
   rw[GX.mH]at hx';cases e:sc.names.lookup x with
   |none=>
    rw[e]at hx';simp at hx'
   |some k=>
    rw[e]at hx';by_cases hf:k=.free
    ·subst hf;exact hhas x (RJ e)
    ·have hb:(k==Ra)=false:=by simpa using hf
     have e2:((some k).map fun k=>if(k==Ra&&X.env.scope.kind==.function&&X.env.kindOf x==some .cell)then R0 else k)=some k:=by
      show some (if(k==Ra&&X.env.scope.kind==.function&&X.env.kindOf x==some .cell)=true then R0 else k)=some k;rw[hb,SH,SH];rfl
     rw[e2]at hx';rcases hx' with z|z
     ·exact absurd (Qj z) (b1 _ (RJ e))
     ·exact absurd (Qj z) hf
  ·cases z
  ·obtain⟨o,z,_⟩:=T.obj 0 _ st2 b hb;exact below z
  ·rcases(f2 b hb).2.2.2.1 with f3|f3
   ·exact I2.ok.noex b o z f3
   ·have l1:=vc z;have l2:=I2.ok.bsz;exact absurd (Qr l1 (QT l2 f3)) (QD _)
  ·rcases uc.mp (I2.stkSub b z)with z|z
   ·exact(f2 b hb).2.1 z
   ·exact(f2 b hb).2.2.1 z
 have IY:Inv (X.blk N' sc cl Hl.objs.size s2 H2 fp) [] (yQ src σ) (upd H2 s2.heap.objs.size (.lst [])) {s2 with heap:=h₁,toks:=s2.toks+ ([]:List (pe×cT)).length}:=by
  refine⟨ok,rfl,I2.bare,Un.laid old (oh _) fD,⟨_,ns₁,fun i x v e1 e2 _=>?_⟩,fun x c z=>?_,?_,fun x c z=>?_,fun p hp=>?_,I2.hok.laid old (oh _) ⟨Qt _,[],0,.nil,hD1⟩,?_⟩
  ·have e1':N'[i]?=some x:=e1;unfold yQ at e2;rw[CA]at e2;cases es:src[i]? with
   |none=>rw[es]at e2;cases e2
   |some o=>
    rw[es]at e2;cases o with
    |none=>cases e2
    |some j=>
     have e3:(σ[j]?).bind (fun v=>v)=some v:=Qj e2;have e4:σ[j]?=some (some v):=by
      cases q:σ[j]? with
      |none=>rw[q]at e3;cases e3
      |some w=>rw[q]at e3;exact congrArg some e3
     have hz:(x,some j)∈N'.zip src:=QA (i:=i) (by rw[Va];exact⟨e1',es⟩);have hcap:=b6 _ hz;have hcap':(decide (X.N[j]?=some x)&&decide (sc.names.lookup x=some .free))=true:=hcap;rw[Ub]at hcap';have c1:X.N[j]?=some x:=of_decide_eq_true hcap'.1;have c2:sc.names.lookup x=some .free:=of_decide_eq_true hcap'.2;have hfree:=RJ c2;have vis:=b3 _ hfree rfl;obtain⟨m,hn,hl⟩:=I2.loc;obtain⟨u,ru,lk⟩:=hl j x v c1 e4 (.inr vis);rcases lk with⟨k1,_⟩|⟨_,c,k2,z⟩
     ·have k1':X.env.scope.names.lookup x=some .local:=k1;rcases vis with v|v<;>(rw[k1']at v;cases v)
     ·obtain⟨c',k3⟩:=hhas x hfree;have k4:=hsub x c' k3;rw[k2]at k4;cases k4;refine⟨u,ru,.inr ⟨?_,c,k3,z.keeps old⟩⟩;show(sc.names.map fun(n,k)=>if(k==Ra&&X.env.scope.kind==.function&&X.env.kindOf n==some .cell)then(n,R0)else(n,k)).lookup x=some .cell∨
       (sc.names.map fun(n,k)=>if(k==Ra&&X.env.scope.kind==.function&&X.env.kindOf n==some .cell)then(n,R0)else(n,k)).lookup x=some .free
      rw[GX.mH,c2];show some (if _ then R0 else Ra)=_∨some (if _ then R0 else Ra)=_;split
      ·exact .inl rfl
      ·exact .inr rfl
  ·obtain⟨v,q⟩:=I2.cell x c (hsub x c z);exact⟨v,q.keeps old⟩
  ·show upd H2 s2.heap.objs.size (.lst []) Hl.objs.size=none;rw[aj (QH nDC)];exact fC
  ·obtain⟨v,q⟩:=I2.cell x c (hsub x c z);rw[aj (xy q.lt)];exact I2.freeC x c (hsub x c z)
  ·exact absurd (show p∈([]:List (dk×QM))from hp) (by simp)
  ·show(src.map _).length=N'.length;rw[gm];exact b5
 have stat:∀{H':Hp},(∀b∈fp,H' b=none)->∀b∈fp,kE (X.blk N' sc cl Hl.objs.size s2 H2 fp) [] H' b:=fun hn b hb=>
  ⟨hn b hb,(ok.exf b hb).1,ok.exfs b hb,.inl hb,(ok.exf b hb).2,fun p hp=>absurd (show p∈([]:List (dk×QM))from hp) (by simp)⟩
 have loop:QW (model X.prog X.w) X.A (.compLoop (.ListComp elt [⟨tg,iter,ifs,0⟩] sc pos) 0 (.ref it) (.ref s2.heap.objs.size) (compEnvC sc cl Hl.objs.size X.env))
   (RR (.ref s2.heap.objs.size) Hl.objs.size) {s2 with heap:=h₁,toks:=s2.toks+ ([]:List (pe×cT)).length}:=by
  refine GX.Aw (fun n s'=>∃i σ' H',Inv (X.blk N' sc cl Hl.objs.size s2 H2 fp) [] σ' H' s'/\tn i s'.heap/\(∀b∈fp,H' b=none)/\W i n σ' H') ?_ m0
   ⟨0,_,_,IY,T.keep 0 _ _ st2 (fun b _ o z=>old b o z),fun b hb=>?_,w0⟩
  ·rintro n s3 ⟨i,σ3,H3,I3,st3,fr3,w3⟩;rcases turn i n σ3 H3 w3 with⟨stop,qn⟩|⟨go,N,hN,step⟩
   ·refine wpAny_bind (thn (T.done (X.blk N' sc cl Hl.objs.size s2 H2 fp) rfl rfl rfl hc i [] s3 σ3 H3 (fun _ _=>False) I3 (stat fr3) st3 stop) fun r s4 zz=>?_);obtain⟨hr,I4⟩:=zz;subst hr;exact wpAny_pure<|fin _ s4 σ3 H3 (by rw[hC];exact RP _) I4 qn
   ·refine wpAny_bind (thn (T.item (X.blk N' sc cl Hl.objs.size s2 H2 fp) rfl rfl rfl hc i [] s3 σ3 H3 (fun _ _=>False) I3 (stat fr3) st3 go) fun r s4 zz=>?_);obtain⟨u,hr,h4⟩:=zz;subst hr;refine wpAny_bind (thn h4 fun _ s5 zz=>?_);obtain⟨x,H5,I5,r5,y5,st5,fr5⟩:=zz;have I5':=I5.pinned (stat fr5) (T.obj _ _ st5);have again:∀{σ7:St} {H7:Hp} {s7:lr},Inv (X.blk N' sc cl Hl.objs.size s2 H2 fp) ([]++qC fp s5.heap) σ7 H7 s7->N σ7 H7->
      ∃m,m<n/\∃i σ' H',Inv (X.blk N' sc cl Hl.objs.size s2 H2 fp) [] σ' H' s7/\tn i s7.heap/\(∀b∈fp,H' b=none)/\W i m σ' H':=fun{σ7 H7 s7} I7 n7=>by
     obtain⟨m',hm,w7⟩:=hN σ7 H7 n7;refine⟨m',hm,i+ 1,σ7,H7,I7.unpinned,T.keep _ _ _ st5 fun b hb o z=>(I7.pin (b,o) (Qi _ (Qi _ (fc hb z)))).1,fun b hb=>?_,w7⟩;obtain⟨o,z,_⟩:=T.obj _ _ st5 b hb;exact(I7.pin (b,o) (Qi _ (Qi _ (fc hb z)))).2.1
    refine wpAny_bind (thn (hg cl Hl.objs.size s2 H2 fp b4 _ s5 σ3 H5 x u _ I5' r5 (step x H5 y5)) fun _ s6 zz=>?_);obtain⟨σ6,H6,I6,q6⟩:=zz;refine wpAny_bind (thn (ht cl Hl.objs.size s2 H2 fp _ s6 σ6 H6 _ I6 q6) fun ok s7 zz=>?_);obtain⟨H7,I7,q7⟩:=zz;cases ok with
    |true=>
     rw[if_pos rfl]at q7⊢;refine wpAny_bind (thn (he cl Hl.objs.size s2 H2 fp _ s7 σ6 H7 _ I7 q7) fun yv s8 zz=>?_);obtain⟨y,H8,I8,r8,ys,hD,hz,n8⟩:=zz;exact wpAny_bind<|thn (dH (X:=X.blk N' sc cl Hl.objs.size s2 H2 fp) _ s8 σ6 H8 (.ref s2.heap.objs.size) [y] (.ref s2.heap.objs.size) [yv] (fun _ H'=>N σ6 H') I8 rfl (.cons r8 .nil) ⟨_,ys,y,rfl,rfl,hD,hz,n8⟩)
      fun _ s9 ⟨_,H9,I9,_,n9⟩=>wpAny_pure (again I9 n9)
    |false=>
     rw[if_neg Qn]at q7⊢;exact wpAny_pure (again I7 q7)
  ·obtain⟨o,z,_⟩:=T.obj 0 _ st2 b hb;rw[aj (xy (vc z))];exact(f2 b hb).1
 exact codeAny_compStart_list loop (T.self X.A 0 _ _ _ (T.keep 0 _ _ st2 (fun b _ o z=>old b o z)) loop)
theorem bV(N':List pe)(src:List (Option Nat))(hc:X.calm=true)(hk:sc.kind=.function)(hB:decide (G3 X.N N' src X.env.scope sc)=true)(hi:PI X tg iter wi)(hg:∀cl C s2 H2 fp,N'.Nodup->PG (X.blk N' sc cl C s2 H2 fp) tg g)(ht:∀cl C s2 H2 fp,PIf (X.blk N' sc cl C s2 H2 fp) ifs tt)(he:∀cl C s2 H2 fp,PE (X.blk N' sc cl C s2 H2 fp) elt te)(hs:∀x,foldedSetIterable iter X.env x=pure x:=by intro _;rfl):
  PE X (.ListComp elt [⟨tg,iter,ifs,0⟩] sc pos) (Gx src wi g tt te):=by
 intro pins s σ H Q I h;have B:=of_decide_eq_true hB;obtain⟨cl,hclos,hsub,hhas⟩:=GX.tH (env:=X.env) (sc:=sc) fun y hy hf=>I.ok.has y.1 (B.2.2.1 y hy hf);rw[eval_ListComp];refine wpAny_comprehension_free (use:=none) rfl hs hclos hk B.2.1 (thn (hi pins s σ H _ I h) fun v s1 h1=>thn h1 fun itv s2 h2=>?_);obtain⟨it,fp,tn,J,H2,e,I2,T,st2,f2,q⟩:=h2;subst e;obtain⟨W,⟨m0,w0⟩,turn⟩:=q s2.heap.objs.size (I2.hok.fresh (oh _));refine wy (RR:=fun acc C=>compPost (model X.prog X.w) X.A X.xe none (EP X pins σ Q) acc C) (Qe:=fun H'=>Q (.ref s2.heap.objs.size) H') hc hk B hsub hhas hg ht he I2 T st2 f2 w0 turn fun C s4 σ3 H3 hC I4 qn=>?_;obtain⟨m,hn,_⟩:=I4.loc;refine⟨m,hn,fun h' sb=>⟨.ref s2.heap.objs.size,H3,?_,rfl,qn⟩⟩;exact I2.call' (s':={s4 with heap:=h'}) (ch:=fp) I4.os (I4.base.but sb (Wc hC)) (I4.hok.but sb I4.free) I4.bare fun b hb=>⟨(f2 b hb).2.2.2.1,(f2 b hb).2.1,(f2 b hb).2.2.2.2.1,(f2 b hb).2.2.2.2.2⟩
theorem Dw{py spos:Sz}{y:pe}(N':List pe)(src:List (Option Nat))(hN:X.N.Nodup)(hy:X.N[i]?=some y)(hl:Loc X.env.scope y)(hc:X.calm=true)(hk:sc.kind=.function)(hB:decide (G3 X.N N' src X.env.scope sc)=true)(hi:PI X tg iter wi)(hg:∀cl C s2 H2 fp,N'.Nodup->PG (X.blk N' sc cl C s2 H2 fp) tg g)(ht:∀cl C s2 H2 fp,PIf (X.blk N' sc cl C s2 H2 fp) ifs tt)(he:∀cl C s2 H2 fp,PE (X.blk N' sc cl C s2 H2 fp) elt te)(hsw:Ue (.ListComp elt [⟨tg,iter,ifs,0⟩] sc pos) (some (.Name y py)) spos.line X.env=pure true:=by rfl)(hs:∀x,foldedSetIterable iter X.env x=pure x:=by intro _;rfl)(hf:X.fn y=true∨X.env.scope.names.lookup y=some .local:=by first|exact .inl rfl|exact .inr rfl):
  PS X (.Assign [.Name y py] (.ListComp elt [⟨tg,iter,ifs,0⟩] sc pos) spos) (J1 (Gx src wi g tt te) (uv i)):=by
 intro pins s σ H D I h;have B:=of_decide_eq_true hB;obtain⟨cl,hclos,hsub,hhas⟩:=GX.tH (env:=X.env) (sc:=sc) fun y hy hf=>I.ok.has y.1 (B.2.2.1 y hy hf);rw[exec_Assign_Name_used _ _ _ _ hsw];refine wpAny_bind (wpAny_standAt (wpAny_bind ?_));show ni _ X.A (do let _←comprehension (.ListComp elt [⟨tg,iter,ifs,0⟩] sc pos) sc X.env _ (newList []) false (eval iter X.env) (some (assign (.Name y py) X.env))) _ _ s;refine wpAny_bind (wpAny_mono (wpAny_comprehension_free (use:=some (assign (.Name y py) X.env)) (Q:=fun _ s'=>SP X pins D .next s') rfl hs hclos hk B.2.1
  (thn (hi pins s σ H _ I h) fun v s1 h1=>thn h1 fun itv s2 h2=>?_)) (fun _ s' hq=>wpAny_pure (wpAny_pure hq)) fun _ _ e=>e)
 obtain⟨it,fp,tn,J,H2,e,I2,T,st2,f2,q⟩:=h2;subst e;obtain⟨W,⟨m0,w0⟩,turn⟩:=q s2.heap.objs.size (I2.hok.fresh (oh _));refine wy (RR:=fun acc C=>compPost (model X.prog X.w) X.A X.xe (some (assign (.Name y py) X.env)) (fun _ s'=>SP X pins D .next s') acc C) (Qe:=fun H'=>D.nx (σ.set i (some (.ref s2.heap.objs.size))) H') hc hk B hsub hhas hg ht he I2 T st2 f2 w0 turn
  fun C s4 σ3 H3 hC I4 qn=>?_
 have IX:Inv X pins σ H3 s4:=I2.call' (ch:=fp) I4.os I4.base I4.hok I4.bare fun b hb=>⟨(f2 b hb).2.2.2.1,(f2 b hb).2.1,(f2 b hb).2.2.2.2.1,(f2 b hb).2.2.2.2.2⟩;have nC:∀{b:dk} {o:QM},s2.heap.get? b=some o->C≠b:=fun{b o} z=>RC (Qr (vc z) hC);have nL:C≠X.env.locals:=RC (Qr I2.lt hC);have nK:∀x c,X.env.cells.lookup x=some c->c≠C:=fun x c z=>by
  obtain⟨v,o,ho,_⟩:=I2.cell x c z;exact QH (nC ho)
 obtain⟨m,hn,_⟩:=I4.loc;show ni _ X.A (assign (.Name y py) X.env (.ref s2.heap.objs.size)) _ _ s4;refine WZ (vU IX hN hy hl (v:=.ref s2.heap.objs.size) rfl (fun s5 I5 h5=>?_) hf);obtain⟨a,sb,ha⟩:=h5;have na:C≠a:=by
  rcases ha with z|z
  ·rw[z];exact nL
  ·exact QH (nK _ _ z)
 refine⟨m,hn.sameBut sb na,fun h' sb'=>⟨_,H3,?_,qn⟩⟩;exact I5.turned (it:=C) (t':=s5.toks) (fun b o hb z=>(sb'.2 b hb).trans z) I4.free nL (.inr (QT I2.sz hC)) nK fun p hp=>QH (nC (I2.pin p hp).1)
theorem xB{N:St->Hp->Prop}{x:V}(h:te (σ.set i (some x)) H fun y H4=>∃ys,H4 D=some (.lst ys)/\ys.length<sizeLine/\N (σ.set i (some x)) (upd H4 D (.lst (ys++[y])))):eR (uv i) M3 te D N x σ H:=by
 show(if true=true then te (σ.set i (some x)) H (fun y H4=>∃ys,H4 D=some (.lst ys)/\ys.length<sizeLine/\N (σ.set i (some x)) (upd H4 D (.lst (ys++[y]))))else N (σ.set i (some x)) H);rw[if_pos rfl];exact h
theorem Bs{lo:Int}{n:Nat}(Pv:Nat->St->Hp->Prop)(h0:Pv 0 σ H)(hs:∀i σ H,i<n->Pv i σ H->eR g tt te D (Pv (i+ 1)) (.int (lo+ i)) σ H)(hd:∀σ H,Pv n σ H->Qe H):
  ∃W:Nat->Nat->St->Hp->Prop,(∃m,W 0 m σ H)/\∀i m σ' H',W i m σ' H'->((Itr lo n).stop i H'/\Qe H')∨((Itr lo n).go i H'/\∃N:St->Hp->Prop,(∀σ2 H2,N σ2 H2->∃m',m'<m/\W (i+ 1) m' σ2 H2)/\
   ∀x H'',(Itr lo n).yld i H' x H''->eR g tt te D N x σ' H''):=by
 refine⟨fun i m σ H=>m=n-i/\i<=n/\Pv i σ H,⟨n,by simp,Qt _,h0⟩,?_⟩;rintro i m σ H ⟨rfl,hi,p⟩;by_cases hlt:i<n
 ·refine .inr ⟨hlt,Pv (i+ 1),fun σ' H' p'=>⟨n-(i+ 1),by omega,rfl,hlt,p'⟩,fun x H' y=>?_⟩;obtain⟨e,y⟩:=y;subst e y;exact hs i σ _ hlt p
 ·have e:i=n:=by omega
  subst e;exact .inl ⟨oh _,hd σ H p⟩
theorem bz{K:cw}{a:dk}{xs:List V}(Pv:Nat->St->Hp->Prop)(h0:Pv 0 σ H)(hl:∀i σ H,i<=xs.length->Pv i σ H->SqL K H a xs)(hs:∀i x σ H,xs[i]?=some x->Pv i σ H->eR g tt te D (Pv (i+ 1)) x σ H)(hd:∀σ H,Pv xs.length σ H->Qe H):
  ∃W:Nat->Nat->St->Hp->Prop,(∃m,W 0 m σ H)/\∀i m σ' H',W i m σ' H'->((Itl K a).stop i H'/\Qe H')∨((Itl K a).go i H'/\∃N:St->Hp->Prop,(∀σ2 H2,N σ2 H2->∃m',m'<m/\W (i+ 1) m' σ2 H2)/\
   ∀x H'',(Itl K a).yld i H' x H''->eR g tt te D N x σ' H''):=by
 refine⟨fun i m σ H=>m=xs.length-i/\i<=xs.length/\Pv i σ H,⟨xs.length,by simp,Qt _,h0⟩,?_⟩;rintro i m σ H ⟨rfl,hi,p⟩;have q:=hl i σ H hi p;by_cases hlt:i<xs.length
 ·refine .inr ⟨⟨xs,xs[i],q,by simp[hlt]⟩,Pv (i+ 1),fun σ' H' p'=>⟨xs.length-(i+ 1),by omega,rfl,hlt,p'⟩,fun x H' y=>?_⟩;obtain⟨e,y⟩:=y;subst e;exact hs i x σ _ (y xs q) p
 ·have e:i=xs.length:=by omega
  subst e;exact .inl ⟨⟨xs,q,oh _⟩,hd σ H p⟩
section
theorem yE:cE X (.builtin "isinstance") (fun xs H Q=>∃(x:V) (t:cT) (T:String) (b:Bool),xs=[x,.ty T]/\TyOf X.K H x t/\VX X.K t (.type T)=some b/\Q (.bl b) H):=by
 intro pins s σ H xs us Q I r h;obtain⟨x,t,T,b,rfl,ty,e,q⟩:=h;obtain⟨u,w',rfl,r1,r2⟩:=vals2 r;obtain rfl:w'=RL T:=r2;exact EJ I r1 ty e fun tk=>⟨.bl b,H,I.tok tk,rfl,q⟩
theorem EK:MtR X "int.bit_length" (fun x vs H Q=>∃i,x=.int i/\vs=[]/\Q (.int (Rt i)) H):=by
 intro pins s σ H x xs v us Q I rx rv h;obtain⟨i,rfl,rfl,q⟩:=h;obtain⟨t,rfl⟩:=rx;cases rv;exact call_int_bit_length ⟨.int (Rt i),H,I.tok _,⟨_,rfl⟩,q⟩
theorem all_range(bs:List Bool):(QF bs.length).all (fun i=>bs.getD i false)=bs.all fun b=>b:=by
 have e:(QF bs.length).map (fun i=>bs.getD i false)=bs:=Vn (by simp) fun i h1 h2=>by simp[h2]
 conv=>rhs;rw[←e,List.all_map]
 rfl
theorem yz(hc:X.calm=true):cE X (.builtin "all") (fun xs H Q=>∃(p:dk) (bs:List Bool),xs=[.ref p]/\SqL X.K H p (bs.map V.bl)/\Q (.bl (bs.all fun b=>b)) H):=by
 intro pins s σ H xs us Q I r h;obtain⟨p,bs,rfl,hq,q⟩:=h;obtain⟨u,rfl,rx⟩:=vals1 r;cases rx;obtain⟨its,rv,pl,hz⟩:=I.list hq;have hl:its.toArray.size=bs.length:=by rw[xu,←rv.length,gm]
 have hp:p<s.heap.objs.size:=let ⟨_,z,_⟩:=pl.isList;vc z;refine call_all_walk (wpAny_pyIter_list pl.isList ?_);refine⟨s.heap.objs.size,[s.heap.objs.size,p],[s.heap.objs.size],its.toArray.size,_,_,fun i=>bs.getD i false,rfl,U9 (A:=X.A.in1) (I.ok.hd hc) _ p (xy hp) its.toArray,
  ⟨⟨_,rl _ rfl,rfl,rfl⟩,pl.isList.push _⟩,fun i v s' Q' E' hP hQ=>?_,fun h' tk kp=>?_⟩
 ·have hv:its[i]?=some v:=by simpa using hP
  have hb:i<bs.length:=by
   have:=(pk.mp hv).1;rw[←hl,xu];exact this
  obtain⟨u,hu,ru⟩:=rv.get (i:=i) (x:=V.bl bs[i]) (by rw[CA,xi hb];rfl);rw[hv]at hu;cases hu;obtain rfl:v=Ta bs[i]:=ru;refine wpAny_truthy_bool ?_;have e:bs.getD i false=bs[i]:=by rw[Qs,xi hb,Xo]
  rw[←e];exact hQ
 ·refine⟨.bl (bs.all fun b=>b),H,I.kept (t':=tk) fun b o e=>kp b o ?_ (gf _ e),?_,q⟩
  ·intro z;have z':b=s.heap.objs.size:=by simpa using z
   exact absurd (vc e) (by rw[z'];exact QD _)
  ·show Ta _=Ta _;rw[hl,all_range]
def HE(X:Cx)(id:String)(ks:List pe)(r:List V->List V->Hp->VK->Prop):Prop:=
 ∀(pins:List (dk×QM)) (s:lr) (σ:St) (H:Hp) (xs zs:List V) (us ws:List cT) (Q:VK),Inv X pins σ H s->Vals xs us->Vals zs ws->r xs zs H Q->
  ni (model X.prog X.w) X.A (call (.builtin id) us (ks.zip ws)) (EP X pins σ Q) X.xe s
def N2(r:List V->List V->Hp->VK->Prop)(t tk:TA):TE:=fun σ H Q=>t σ H fun vs H1=>tk σ H1 fun zs H2=>r vs zs H2 Q
theorem Eb{ks:List pe}{tk:TA}{id:String}{r:List V->List V->Hp->VK->Prop}(hc:HE X id ks r)(hg:Gl X x)(hm:X.mg x=none)(hv:R8 x=some (.builtin id))(ha:PA X (e::es) t)(hk:PK X kws tk)(hks:(backToKw pos (keywordEach kws X.env)).filterMap (·.1)=ks:=by rfl)(hn:x≠"__name__":=by decide)(hdb:(x==("__debug__":pe))=false:=by decide)(he:backTo pos (starEach (e::es) X.env)=(false,eval e X.env)::backTo pos (starEach es X.env):=by rfl)(hplain:(backTo pos (starEach (e::es) X.env)).any (·.1)=false:=by rfl)(hall:(backToKw pos (keywordEach kws X.env)).all (·.1.isSome)=true:=by rfl)(hkw:(backToKw pos (keywordEach kws X.env)).any (·.1.isNone)=false:=by rfl):PE X (.Call (.Name x p) (e::es) kws pos) (N2 r t tk):=by
 intro pins s σ H Q I h;refine RN (my I hg hm hv ?_ hn hdb);refine Ux (thn (ha pos pins s σ H _ I h) fun us s1 ⟨vs,H1,I1,r1,q1⟩=>thn (hk pos pins s1 σ H1 _ I1 q1) fun ws s2 zz=>?_) he hplain hall hkw;obtain⟨zs,H2,I2,r2,q2⟩:=zz;rw[hks];exact hc pins s2 σ H2 vs zs us ws Q I2 r1 r2 q2
theorem q9(a v:cT):argsOk "min" ⟨[a],[(QO "default",v)]⟩:=by unfold argsOk;kernel_rfl
theorem E3(hc:X.calm=true):HE X "min" [QO "default"] (fun xs zs H Q=>∃(p:dk) (ns:List Int) (d:V),xs=[.ref p]/\zs=[d]/\SqL X.K H p (ns.map V.int)/\(ns=[]->Q d H)/\∀b,b∈ns->(∀z∈ns,b<=z)->Q (.int b) H):=by
 intro pins s σ H xs zs us ws Q I r rz h;obtain⟨p,ns,d,rfl,rfl,hq,h0,h1⟩:=h;obtain⟨u,rfl,rx⟩:=vals1 r;cases rx;obtain⟨dv,rfl,rd⟩:=vals1 rz;obtain⟨its,rv,pl,hz⟩:=I.list hq;have hl:its.length=ns.length:=by rw[←rv.length,gm]
 have tell:∀(i:Nat) v,its[i]?=some v->∃n t,ns[i]?=some n/\v=.int n t:=fun i v e=>by
  have b:i<ns.length:=hl▸(pk.mp e).1;obtain⟨u,hu,t,rfl⟩:=rv.get (i:=i) (x:=V.int ns[i]) (by simp[b]);exact⟨ns[i],t,by simp[b],Qj (e.symm.trans hu)⟩
 refine GX.AL GX.wL GX.yY VP Sq (ko:=none) (d:=some dv) (I.ok.hd hc) rfl (q9 _ _) pl.isList
  (fun i j=>decide (ns.getD i 0<ns.getD j 0)) (fun i=>by simp) (fun i j h=>by simp at h⊢;omega) (fun a b c h h2=>by simp at h h2⊢;omega) (fun i v=>∃t,v=.int (ns.getD i 0) t) ?_ ?_ ?_ ?_
 ·intro j v h tk hv G;obtain⟨n,t,hn,rfl⟩:=tell j v hv;exact And.intro ⟨t,by rw[Qs,hn];rfl⟩ ⟨tk,rfl⟩
 ·exact fun i j k k' h tk hk hk' G Q q=>CmpOf.ints_lt (P:=fun i v=>∃t,v=.int (ns.getD i 0) t) (fun i=>ns.getD i 0) (fun _ _ z=>z) j i _ _ _ _ _ hk hk' q
 ·exact fun e=>⟨dv,rfl,fun h tk G=>⟨d,H,I.kept (t':=tk) G,rd,h0 (Rr (by rw[←hl,e];rfl))⟩⟩
 ·intro i v h tk hv ft G;obtain⟨n,t,hn,rfl⟩:=tell i v hv;refine⟨.int n,H,I.kept (t':=tk) G,⟨t,rfl⟩,h1 n (QA hn) fun z hz=>?_⟩;obtain⟨j,hj,rfl⟩:=SO hz;have:=(ft j (hl▸hj)).1;simpa [Qs,hn,hj]using this
end
structure Cal(K:cw)(mg:pe->Option cT)(x:pe)(f:dk)(fd:xw)(ps:List pe):Prop where
 mg:mg x=some (.ref f)
 kp:R9 K (.ref f)=true
 bd:Binds K fd ps []
theorem aT{k:Nat}{f:dk}{fd:xw}{ps:List pe}{sp:Sp}(F:FnOk X.prog X.w X.K X.mg X.base CX0 k f fd ps sp)(c:Cal X.K X.mg x f fd ps)(hr:Room k X.A)(ha:PA X (e::es) t)(hg:Gl X x:=by rfl)(hdb:(x==("__debug__":pe))=false:=by decide)(he:starEach (e::es) X.env=(false,eval e X.env)::starEach es X.env:=by rfl)(hpl:(backTo pos (starEach es X.env)).any (·.1)=false:=by rfl):
  PE X (.Call (.Name x p) (e::es) [] pos) (DA sp [] E0 t):=Jq F hr hg c.mg c.kp c.bd .nil nZ ha hdb he hpl
theorem dE{T:String}(hm:X.mg x=none)(hv:R8 x=some (.type T))(hg:Gl X x:=by rfl)(hn:x≠"__name__":=by decide)(hdb:(x==("__debug__":pe))=false:=by decide):PE X (.Name x pos) (tC (.ty T)):=
 Jz hg hm hv rfl hn hdb
def Po(K:cw)(t:TE):TT:=fun σ H Q=>t σ H fun x H'=>∃k,Iv K x H' k/\Q k H'
theorem br(K:cw){f:QC}{t:TE}(hK:X.K=K)(h:PE X (.Call f es kws pos) t):PT X (.Call f es kws pos) (Po K t):=by
 subst hK;exact Ge h fun _=>rfl
section
end
end L2
namespace GX
open PySem
variable{prog:Qo}{w:Qu}{A:QR}{E Q:cT->lr->Prop}{s:lr}{l:dk}{n:Nat}{T:String}{nm:pe}{R:S3->lr->Prop}
theorem Ey:typeLookup (.type "list") (QO "keys")=pure none:=am_miss_of_fast (by kernel_rfl)
section
variable{items:Array cT}{Q:Option cT->lr->Prop}
theorem Ip{id:String}{B:QU}{x:cT}{S:YT}(slot:Yx T nm id)(en:SY UJ id=some B)(hT:s.TypeIs (.ref l) T)(ar:argsOk id ⟨[.ref l,x],[]⟩)(m:Meets (B ⟨[.ref l,x],[]⟩) S)(h:S A R s):
  QW (model prog w) A (.call (.builtin id) ⟨[.ref l,x],[]⟩) R s:=codeAny_call_builtin slot.plain en (slot.check _ _ _ _ _ _ _ _ hT ar (m prog w A R s h))
theorem J4{id:String}{o:QM}(slot:Yx T "__getattribute__" id)(ga:typeLookup (.type T) "__getattr__"=pure none)(en:SY UJ id=some QU.«object.__getattribute__»)(ar:∀a b,argsOk id ⟨[a,b],[]⟩)(hl:s.heap.get? l=some o)(hc:o.cls=.type T)(m:∀u,Meets (QU.«object.__getattribute__» ⟨[.ref l,.str nm u],[]⟩) (fun A R s=>s.heap.get? l=some o/\raisesAttr (.ref l) nm A R s))(hA:A.handled=none)(h:∀h' tk,nG s.heap h'->Q none {s with heap:=h',toks:=tk}):ni (model prog w) A (Xp (.ref l) nm) Q E s:=by
 obtain⟨c,dd,dt,sl⟩:=o;cases hc;obtain⟨hp,g,d,tk,os⟩:=s;have hT:∀tk,QX ⟨hp,g,d,tk,os⟩ (.ref l) T:=fun _=>⟨_,hl,rfl⟩;have:=slot.lookup;have:=slot.bind (.ref l);have:=sub_AttributeError;unfold Xp getAttrBy? getAttrBy
 repeat' first|assumption|exact hT _|wp_step
 refine Ip slot en (hT _) (ar _ _) (m _) ⟨hl,hA,fun h' tk' e x=>?_⟩;obtain⟨t',u',_⟩:=x.there;have q:=h h' tk' x.keeps;unfold getattributeRaised
 repeat' first|assumption|wp_step
theorem CH(hA:A.handled=none)(hl:s.heap.get? l=some (ug items n))(h:∀h' tk,nG s.heap h'->Q none {s with heap:=h',toks:=tk}):ni (model prog w) A (Xp (.ref l) (QO "keys")) Q E s:=
 J4 F.slot_list_getattribute am_list_getattr_none am_entry_list_getattribute F.args_list_getattribute_2 hl rfl (fun u=>meets_getattribute_miss_list l items n _ _ u Ey (by decide)) hA h
end
theorem lg:SY UJ "dict.update.loop"=some QU.«dict.update.loop»:=Xq (by kernel_rfl)
theorem eU:V2 "dict.update.loop"=true:=by decide +kernel
section
variable{I d:dk}{fp wr:List dk}{P:Nat->cT->Prop}{St:Nat->Qg->Prop}{K:Type}[DecidableEq K]{knd:UI prog w K}
theorem Cm(kx:List (K×cT)):(merged [] kx).length<=kx.length:=by
 have:=merged_length_le [] kx;simpa using this
theorem yH(I d:dk)(i:Int)(t:TQ):MeetsIn prog w (QU.«dict.update.loop» ⟨[.ref d,.ref I,.int i t,.none],[]⟩) fun A R s=>ni (model prog w) A.in1 (pyNext (.ref I)) (fun r s=>match r with
  |none=>R (.ok (.ret .none)) s
  |some v=>∃a o k x c,v=.ref a/\s.heap.get? a=some o/\o.cls=.type "tuple"/\o.data=.seq #[k,x] c/\
   ni (model prog w) A.in1 (dictSet d k x) (fun _ s=>QW (model prog w) A (.builtin "dict.update.loop" ⟨[.ref d,.ref I,.int (i+ 1) 0,.none],[]⟩) R s) (fun _ _=>False) s) (fun _ _=>False) s:=by
 intro A R s nx;show ni _ _ (pyNext (.ref I) >>= _) _ _ s;apply wpAny_bind;refine wpAny_mono nx (fun r s1 h=>?_) fun _ _ z=>z.elim;rcases r with _|v
 ·wp_walk
  exact h
 ·obtain⟨a,o,k,x,c,rfl,ha,hc,hd,q⟩:=h;have ty:s1.TypeIs (.ref a) "tuple":=⟨o,ha,hc⟩;apply wpAny_bind;apply wpAny_holding;apply wpAny_bind;apply wpAny_tryCatch
  wp_walk using wpAny_seqItems ha hd,wpAny_mono q
  ·exact fun _ _ e=>wpAny_pure ⟨plainId_quiet eU _,e⟩
  ·exact fun _ _ z=>z.elim
theorem Gn{D:Nat->Qg->Prop}(W:VH prog w A.in1 I fp wr n P St)(nd:d∉fp)(calm:∀i h h',D i h->(∀b o,b∉wr->h.get? b=some o->h'.get? b=some o)->D i h')
  (turn:∀i v s,P i v->D i s.heap->∃a o k x c,v=.ref a/\s.heap.get? a=some o/\o.cls=.type "tuple"/\o.data=.seq #[k,x] c/\
   ∀Q:Unit->lr->Prop,(∀h,D (i+ 1) h->(∀b,b≠d->h.get? b=s.heap.get? b)->∀tk,Q () {s with heap:=h,toks:=tk})->ni (model prog w) A.in1 (dictSet d k x) Q (fun _ _=>False) s):
  ∀(k i:Nat) (s:lr) (t:TQ),n=i+ k->St i s.heap->D i s.heap->(∀h tk,D n h->R (.ok (.ret .none)) {s with heap:=h,toks:=tk})->
   QW (model prog w) A (.builtin "dict.update.loop" ⟨[.ref d,.ref I,.int i t,.none],[]⟩) R s:=by
 intro k
 induction k with
 |zero=>
  intro i s t e st di fin;obtain rfl:n=i:=e;exact enter lg eU (yH I d _ t) (W.done s _ _ st fun h tk q=>fin h tk (calm _ _ _ di q))
 |succ k ih=>
  intro i s t e st di fin;refine enter lg eU (yH I d _ t) (W.item i s _ _ (by omega) st fun v h tk pv st1 q=>?_);obtain⟨a,o,y,x,c,e1,e2,e3,e4,set⟩:=turn i v {s with heap:=h,toks:=tk} pv (calm _ _ _ di q);refine⟨a,o,y,x,c,e1,e2,e3,e4,set _ fun h2 d2 sb tk=>?_⟩;exact ih (i+ 1) {s with heap:=h2,toks:=tk} 0 (by omega) (W.frame _ _ _ st1 fun b hb o e=>(sb b fun z=>nd (z▸hb)).trans e) d2 fin
theorem HP(W:VH prog w A.in1 I fp wr n P St)(nd:d∉fp)(h₀:Qg)(kx:List (K×cT))(hn:kx.length=n)(hz:n<=sizeLine)
  (hP:∀i v,P i v->∃a key k x o c,v=.ref a/\kx[i]?=some (k,x)/\knd.is k key=true/\h₀.get? a=some o/\o.cls=.type "tuple"/\o.data=.seq #[key,x] c/\a≠d/\a∉wr):
  ∀(k i:Nat) (s:lr) (t:TQ),n=i+ k->St i s.heap->(∀b o,b∉wr->b≠d->h₀.get? b=some o->s.heap.get? b=some o)->s.heap.DictOf knd d (merged [] (kx.take i))->
  (∀h' tk,(∀b o,b∉wr->b≠d->h₀.get? b=some o->h'.get? b=some o)->h'.DictOf knd d (merged [] kx)->R (.ok (.ret .none)) {s with heap:=h',toks:=tk})->
  QW (model prog w) A (.builtin "dict.update.loop" ⟨[.ref d,.ref I,.int i t,.none],[]⟩) R s:=by
 have nw:d∉wr:=fun z=>nd (W.sub _ z);intro k i s t en st kp dd fin;refine Gn (D:=fun i h=>(∀b o,b∉wr->b≠d->h₀.get? b=some o->h.get? b=some o)/\h.DictOf knd d (merged [] (kx.take i))) W nd ?_ ?_ k i s t en st ⟨kp,dd⟩ fun h tk q=>fin h tk q.1 ?_
 ·rintro i h h' ⟨kp,od,es,ep,ho,r⟩ q;exact⟨fun b o nb nb' e=>q b o nb (kp b o nb nb' e),od,es,ep,q d od nw ho,r⟩
 ·rintro i v s pv ⟨kp,dd⟩;obtain⟨a,key,k,x,o,c,rfl,hx,hk,ha,hc,hd,na,naw⟩:=hP i v pv;refine⟨a,o,key,x,c,rfl,kp a o naw na ha,hc,hd,fun Q q=>wpAny_dictSet_pairs hk dd (fun h2 d2 sb=>q h2 ⟨fun b o nb nb' e=>(sb.2 b nb').trans (kp b o nb nb' e),?_⟩ sb.2 _) (QT (Cm _) (by rw[Q9];omega))⟩;rw[merged_take_succ [] kx i (k,x) hx];exact d2
 ·have z:=q.2;rwa [←hn,Qq]at z
end
section
variable{K:Type}[DecidableEq K]{knd:UI prog w K}
abbrev newD(h:Qg):Qg:=h.push {cls:=.type "dict",data:=.dict #[]}
theorem tQ(ty:QX {s with heap:=newD s.heap} (.ref l) T)(nT:(RL T !=.type "dict")=true)(h:ni (model prog w) A.in1.in1 (Xp (.ref l) (QO "keys")) (fun r s1=>r=none/\ni (model prog w) A.in1.in1 (pyIter (.ref l))
   (fun it s2=>QW (model prog w) A.in1 (.builtin "dict.update.loop" ⟨[.ref s.heap.objs.size,it,.int 0 0,.none],[]⟩) (wants (fun r s3=>r=.none/\Q (.ref s.heap.objs.size) s3) E) s2) E s1) E {s with heap:=newD s.heap}):
  ni (model prog w) A (call (.type "dict") [.ref l]) Q E s:=by
 apply callType_codes F.kt_called_dict (F.kt_typeCall_dict_1 _) F.entry_dict_init (kt_code_dict_new (Q₁:=fun v s1=>v=.ref s.heap.objs.size/\s1={s with heap:=newD s.heap}) _ ⟨rfl,rfl⟩);rintro _ _ ⟨rfl,rfl⟩;have td:QX {s with heap:=newD s.heap} (.ref s.heap.objs.size) "dict":=⟨_,rl _ rfl,rfl⟩;refine⟨td,F.args_dict_init_2 _ _,?_⟩;show ni _ _ (Builtin.Dict.selfAndRest _ _ >>= _) _ _ _
 wp_walk using wpAny_notOrdered_dict td,wpAny_ite_true nT,wpAny_mono h
 ·rintro _ s1 ⟨rfl,q⟩
  wp_walk using wpAny_mono q
  ·exact fun _ _ e=>wpAny_pure ⟨plainId_quiet eU _,e⟩
  ·exact fun _ _ e=>e
 ·exact fun _ _ e=>e
theorem pL{vs:List cT}{kx:List (K×cT)}(hA:A.handled=none)(hl:s.heap.get? l=some {cls:=.type "list",dict:=none,data:=.seq vs.toArray n,slots:=#[]})(hz:vs.length<=sizeLine)(hlen:kx.length=vs.length)(hP:∀(i:Nat) v,vs[i]?=some v->∃a key k x o c,v=.ref a/\kx[i]?=some (k,x)/\knd.is k key=true/\s.heap.get? a=some o/\o.cls=.type "tuple"/\o.data=.seq #[key,x] c)(h:∀h' tk,(∀b o,s.heap.get? b=some o->h'.get? b=some o)->h'.DictOf knd s.heap.objs.size (merged [] kx)->Q (.ref s.heap.objs.size) {s with heap:=h',toks:=tk}):
  ni (model prog w) A (call (.type "dict") [.ref l]) Q E s:=by
 have hl':(newD s.heap).get? l=some {cls:=.type "list",dict:=none,data:=.seq vs.toArray n,slots:=#[]}:=gf _ hl;refine tQ (T:="list") ⟨_,hl',rfl⟩ (by decide) (CH hA hl' fun h1 tk1 k1=>⟨rfl,?_⟩);have hl1:=k1 l _ hl';have lt1:l<h1.objs.size:=vc hl1;have ld:l<s.heap.objs.size:=vc hl;have il:h1.IsList l vs.toArray:=⟨_,hl1,rfl,n,rfl⟩;have d1:h1.DictOf knd s.heap.objs.size []:=by
  obtain⟨od,es,ep,ho,r⟩:=Heap.DictOf.new (knd:=knd) s.heap;exact⟨od,es,ep,k1 _ _ ho,r⟩
 have dlt:s.heap.objs.size<h1.objs.size:=by
  obtain⟨od,es,ep,ho,r⟩:=d1;exact vc ho
 have hI:∀{b:dk},b<h1.objs.size->b≠h1.objs.size:=fun z=>xy z;refine wpAny_pyIter_list (s:={s with heap:=h1,toks:=tk1}) il ?_;have W:=U9 (prog:=prog) (w:=w) (A:=A.in1.in1) hA h1.objs.size l (hI lt1) vs.toArray;refine HP (A:=A.in1) (knd:=knd) W (d:=s.heap.objs.size) ?_ s.heap kx (by rw[hlen,xu]) (by rw[xu];exact hz) (fun i v hv=>?_) vs.toArray.size 0 _ 0 (by omega)
  ⟨⟨_,rl _ rfl,rfl,rfl⟩,il.push _⟩ (fun b o _ nb e=>gf _ (k1 b o (gf _ e))) ?_ fun h2 tk2 k2 d2=>?_
 ·intro z;have z':s.heap.objs.size=h1.objs.size∨s.heap.objs.size=l:=by simpa using z
  rcases z' with z'|z'
  ·exact absurd dlt (by rw[z'];exact QD _)
  ·exact absurd ld (by rw[z'];exact QD _)
 ·obtain⟨a,key,k,x,o,c,e1,e2,e3,e4,e5,e6⟩:=hP i v (by simpa using hv);refine⟨a,key,k,x,o,c,e1,e2,e3,e4,e5,e6,xy (vc e4),fun z=>?_⟩;have z':a=h1.objs.size:=by simpa using z
  exact absurd (Vg (vc e4) dlt) (by rw[z'];exact QD _)
 ·exact d1.push _
 ·exact⟨rfl,h h2 tk2 (fun b o e=>k2 b o (fun z=>by
   have z':b=h1.objs.size:=by simpa using z
   exact absurd (Vg (vc e) dlt) (by rw[z'];exact QD _)) (xy (vc e)) e) d2⟩
end
end GX
namespace GX
open PySem PyProof.Rows
section
variable{prog:Qo}{w:Qu}{A:QR}{E:cT->lr->Prop}{s:lr}
theorem qW{x:cT}{kw:List (pe×cT)}{Q:cT->lr->Prop}(ok:argsOk "sorted" ⟨[x],kw⟩)
  (h:ni (model prog w) A.in1 (collect x) (fun vs s1=>ni (model prog w) A.in1 (newList vs >>= fun l=>holding [l] (call (.builtin "list.sort") [l] kw) >>= fun _=>ret l) (fun f s2=>∃v,f=.done (.ret v)/\Q v s2) E s1) E s):
  ni (model prog w) A (call (.builtin "sorted") [x] kw) Q E s:=
 call_function_entry_kw kind_sorted plain_sorted entry_sorted ok (wpAny_bind (m:=checkCount _ _ _ _) (wpAny_pure (wpAny_bind (wpAny_mono h (fun _ _ q=>q) fun _ _ e=>e))))
end
end GX
namespace L2
open PySem PySem.Spec PyProof.Rows
variable{m ps:List (Int×Int)}{k:Int}{X:Cx}{P:Qo}{w:Qu}{s:lr}{ns:List Int}{pins:List (dk×QM)}{σ:St}{H:Hp}{h':Qg}{xs:List V}{a:dk}
def dI(m:List (Int×Int)):List (Key×V):=m.map fun p=>(GV p.1,V.int p.2)
theorem vv(m:List (Int×Int)):(dI m).length=m.length:=gm ..
def lkI:List (Int×Int)->Int->Option Int
 |[],_=>none
 |p::m,k=>if p.1=k then some p.2 else lkI m k
theorem Cn:∀(m:List (Int×Int)) (k:Int),dP (dI m) (GV k:Key)=(lkI m k).map V.int
 |[],_=>rfl
 |p::m,k=>by
  show dP ((GV p.1,V.int p.2)::dI m) (GV k)=_;unfold lkI;by_cases e:p.1=k
  ·rw[if_pos e,cN (by rw[e])];rfl
  ·rw[if_neg e,cP (fun z=>e (Sn z)),Cn m k]
def dh:List (Int×Int)->Int->Int->List (Int×Int)
 |[],k,v=>[(k,v)]
 |p::m,k,v=>if p.1=k then(p.1,v)::m else p::dh m k v
theorem HK:∀(m:List (Int×Int)) (k v j:Int),lkI (dh m k v) j=if j=k then some v else lkI m j
 |[],k,v,j=>by
  show(if k=j then some v else none)=_;by_cases e:j=k
  ·rw[if_pos e,if_pos e.symm]
  ·rw[if_neg e,if_neg (fun z=>e z.symm)];rfl
 |p::m,k,v,j=>by
  show lkI (if p.1=k then(p.1,v)::m else p::dh m k v) j=if j=k then some v else(if p.1=j then some p.2 else lkI m j)
  by_cases e:p.1=k
  ·rw[if_pos e];show(if p.1=j then some v else lkI m j)=_;by_cases e2:j=k
   ·rw[if_pos e2,if_pos (e.trans e2.symm)]
   ·rw[if_neg e2,if_neg (fun z=>e2 (z.symm.trans e)),if_neg (fun z=>e2 (z.symm.trans e))]
  ·rw[if_neg e];show(if p.1=j then some p.2 else lkI (dh m k v) j)=_;rw[HK m k v j];by_cases e2:j=k
   ·rw[if_pos e2,if_neg (fun z=>e (z.trans e2)),if_pos e2]
   ·rw[if_neg e2,if_neg e2]
theorem Ac:∀(m:List (Int×Int)) (k v x:Int),x∈(dh m k v).map (·.1)↔x=k∨x∈m.map (·.1)
 |[],k,v,x=>by simp[dh]
 |p::m,k,v,x=>by
  show x∈(if p.1=k then(p.1,v)::m else p::dh m k v).map (·.1)↔_;by_cases e:p.1=k
  ·rw[if_pos e];simp only[Qd,uc];constructor
   ·exact fun h=>.inr h
   ·rintro(h|h)
    ·exact .inl (h.trans e.symm)
    ·exact h
  ·rw[if_neg e];simp only[Qd,uc];have:=Ac m k v x;constructor
   ·rintro(h|h)
    ·exact .inr (.inl h)
    ·rcases this.mp h with h|h
     ·exact .inl h
     ·exact .inr (.inr h)
   ·rintro(h|h|h)
    ·exact .inr (this.mpr (.inl h))
    ·exact .inl h
    ·exact .inr (this.mpr (.inr h))
theorem Ht:∀(m:List (Int×Int)) (k v:Int),(m.map (·.1)).Nodup->((dh m k v).map (·.1)).Nodup
 |[],k,v,_=>by simp[dh]
 |p::m,k,v,h=>by
  show((if p.1=k then(p.1,v)::m else p::dh m k v).map (·.1)).Nodup;rw[Qd,Rh]at h;by_cases e:p.1=k
  ·rw[if_pos e,Qd,Rh];exact h
  ·rw[if_neg e,Qd,Rh];refine⟨fun z=>?_,Ht m k v h.2⟩;rcases(Ac m k v p.1).mp z with z|z
   ·exact e z
   ·exact h.1 z
theorem pC:∀(m:List (Int×Int)) (k v:Int) (p:Int×Int),p∈dh m k v->p=(k,v)∨p∈m
 |[],k,v,p,h=>.inl (by simpa [dh]using h)
 |q::m,k,v,p,h=>by
  have h':p∈(if q.1=k then(q.1,v)::m else q::dh m k v):=h;by_cases e:q.1=k
  ·rw[if_pos e]at h';rcases uc.mp h' with z|z
   ·exact .inl (by rw[z,e])
   ·exact .inr (xj _ z)
  ·rw[if_neg e]at h';rcases uc.mp h' with z|z
   ·exact .inr (by rw[z];exact xl)
   ·rcases pC m k v p z with z|z
    ·exact .inl z
    ·exact .inr (xj _ z)
theorem Ig(k:Int):∀m:List (Int×Int),((dI m).any fun kv=>decide (kv.1=(GV k:Key)))=m.any fun p=>decide (p.1=k)
 |[]=>rfl
 |p::m=>by
  show(decide ((GV p.1:Key)=GV k)||(dI m).any _)=(decide (p.1=k)||m.any _);rw[Ig k m];congr 1;rw[decide_eq_decide];exact⟨fun h=>Sn h,fun h=>congrArg _ h⟩
theorem xR:∀(m:List (Int×Int)) (k v:Int),(m.any fun p=>decide (p.1=k))=false->dh m k v=m++[(k,v)]
 |[],_,_,_=>rfl
 |p::m,k,v,h=>by
  rw[SS,Wf]at h;show(if p.1=k then(p.1,v)::m else p::dh m k v)=_;rw[if_neg (of_decide_eq_false h.1),xR m k v h.2];rfl
theorem Ct:∀(m:List (Int×Int)) (k v:Int),(m.map (·.1)).Nodup->(m.any fun p=>decide (p.1=k))=true->dh m k v=m.map fun p=>if p.1=k then(p.1,v)else p
 |[],_,_,_,h=>by cases h
 |p::m,k,v,nd,h=>by
  rw[Qd,Rh]at nd;show(if p.1=k then(p.1,v)::m else p::dh m k v)=(if p.1=k then(p.1,v)else p)::m.map _;by_cases e:p.1=k
  ·rw[if_pos e,if_pos e];congr 1;have:m.map (fun p=>if p.1=k then(p.1,v)else p)=m.map id:=Ru fun q hq=>by
    rw[if_neg (fun z=>nd.1 (by rw[e,←z];exact QZ hq))];rfl
   rw[this,UK]
  ·rw[if_neg e,if_neg e,Ct m k v nd.2 (by
    rw[SS,decide_eq_false e,UT]at h;exact h)]
theorem Gq(m:List (Int×Int))(k v:Int)(nd:(m.map (·.1)).Nodup):putK (dI m) (GV k:Key) (V.int v)=dI (dh m k v):=by
 unfold putK;rw[Ig];cases e:m.any fun p=>decide (p.1=k)with
 |false=>
  rw[xR m k v e];unfold dI;rw[xt];rfl
 |true=>
  rw[Ct m k v nd e];unfold dI;rw[Ri,if_pos rfl,Ri];apply Ru;intro p _;show(if(GV p.1:Key)=GV k then((GV p.1:Key),V.int v)else(GV p.1,V.int p.2))=((GV (if p.1=k then(p.1,v)else p).1:Key),V.int (if p.1=k then(p.1,v)else p).2);by_cases z:p.1=k
  ·rw[if_pos (congrArg _ z),if_pos z]
  ·rw[if_neg (fun q=>z (Sn q)),if_neg z]
theorem AO:∀{m:List (Int×Int)} {k v:Int},lkI m k=some v->(k,v)∈m
 |[],_,_,h=>by cases h
 |p::m,k,v,h=>by
  have h':(if p.1=k then some p.2 else lkI m k)=some v:=h;by_cases e:p.1=k
  ·rw[if_pos e]at h';have:p=(k,v):=by rw[←e,←Qj h']
   rw[this];exact xl
  ·rw[if_neg e]at h';exact xj _ (AO h')
theorem K7:∀{m:List (Int×Int)} {k v:Int},(m.map (·.1)).Nodup->(k,v)∈m->lkI m k=some v
 |[],_,_,_,h=>by cases h
 |p::m,k,v,nd,h=>by
  rw[Qd,Rh]at nd;show(if p.1=k then some p.2 else lkI m k)=some v;rcases uc.mp h with z|z
  ·rw[←z,if_pos rfl]
  ·rw[if_neg (fun e=>nd.1 (by rw[e];exact QZ (f:=(·.1)) z)),K7 nd.2 z]
theorem IJ(h:k∉m.map (·.1)):lkI m k=none:=by
 cases e:lkI m k with
 |none=>rfl
 |some v=>exact absurd (QZ (f:=(·.1)) (AO e)) h
theorem Kf(h:k∈m.map (·.1)):∃v,lkI m k=some v:=by
 cases e:lkI m k with
 |some v=>exact⟨v,rfl⟩
 |none=>
  exfalso
  induction m with
  |nil=>cases h
  |cons p m ih=>
   have e':(if p.1=k then some p.2 else lkI m k)=none:=e;by_cases z:p.1=k
   ·rw[if_pos z]at e';cases e'
   ·rw[if_neg z]at e';rw[Qd]at h;rcases uc.mp h with q|q
    ·exact z q.symm
    ·exact ih q e'
def ct(m:List (Int×Int))(k:Int):Int:=(lkI m k).getD 0
section
theorem rf{P:Qo}{w:Qu}:∀{m:List (Int×Int)} {vs:List (Key×cT)} {us:List cT},KV (dI m) vs->us.length=vs.length->(∀(j:Nat) v,us[j]?=some v->∃k x,vs[j]?=some (k,x)/\(aO P w).is k v=true)->IntsAre us (m.map (·.1))
 |[],_,us,r,hl,h=>by
  have r':KV [] _:=r;cases r';cases us with
  |nil=>exact .nil
  |cons _ _=>cases hl
 |p::m,vs,us,r,hl,h=>by
  have r':KV ((GV p.1,V.int p.2)::dI m) vs:=r;cases r' with
  |cons r1 r2=>
   rename_i q qs;cases us with
   |nil=>cases hl
   |cons u us=>
    obtain⟨k,x,e1,e2⟩:=h 0 u rfl;have e1':q=(k,x):=Qj e1;subst e1';have ek:(GV p.1:Key)=k:=r1.1;subst ek;rcases bG (show rU (GV p.1) u=true from e2)with⟨i,t,z1,z2⟩|⟨_,_,z,_⟩
    ·have z1':p.1=i:=Sn z1;rw[z2,←z1'];exact .cons _ t (rf (P:=P) (w:=w) r2 (Nat.succ.inj hl) fun j v e=>h (j+ 1) v e)
    ·cases z
theorem vO{A:QR}{E:cT->lr->Prop}{prog:Qo}{vs:List cT}{Q:cT->lr->Prop}(hi:IntsAre vs ns)(h64:vs.length<64)(hz:vs.length<=sizeLine)(h:∀h' out ns' e,(∀b o,s.heap.get? b=some o->h'.get? b=some o)->h'.get? s.heap.objs.size=some (seqObj "list" out e)->IntsAre out.toList ns'->ns'.Perm ns->ns'.Pairwise (·<=·)->Q (.ref s.heap.objs.size) {s with heap:=h'}):
  ni (model prog w) A (do let l←newList vs;let _←holding [l] (call (.builtin "list.sort") [l] []);ret l) (fun fin s'=>∃v,fin=.done (.ret v)/\Q v s') E s:=by
 refine wpAny_bind (wpAny_newList ?_ hz);have ho:(s.heap.push (seqObj "list" vs.toArray 0)).get? s.heap.objs.size=some (seqObj "list" vs.toArray 0):=rl _ rfl;refine wpAny_bind (wpAny_holding (wpAny_call_entry X9 ⟨_,ho,rfl⟩ XQ (list_sort_tree ho hi h64 fun out ns' a1 a2 a3=>⟨_,rfl,?_⟩) (args_list_sort _)));obtain⟨e,he⟩:=sortedHeap_at (out:=out) ho;refine wpAny_pure ⟨_,rfl,h _ out ns' e (fun b o q=>?_) he a1 a2 a3⟩;have l:=vc q;rw[sortedHeap_old (xy l) (by rw[size_push'];exact SD l)];exact gf _ q
theorem Inv.lay_ints{out:Array cT}{e tk:Nat}(I:Inv X pins σ H s)(k:∀b o,s.heap.get? b=some o->h'.get? b=some o)(he:h'.get? s.heap.objs.size=some (seqObj "list" out e))(hi:IntsAre out.toList ns)(hz:ns.length<=sizeLine):
  Inv X pins σ (upd H s.heap.objs.size (.lst (ns.map V.int))) {s with heap:=h',toks:=tk}:=
 I.laid k (oh _) ⟨by rw[gm];exact hz,out.toList,e,rj hi,he⟩
theorem xI(hc:X.calm=true):cE X (.builtin "sorted") (fun xs H Q=>∃(d:dk) (m:List (Int×Int)),xs=[.ref d]/\Rd H d (.dK (dI m))/\m.length<64/\∀(l:dk) (ns:List Int),H l=none->ns.Perm (m.map (·.1))->ns.Pairwise (·<=·)->Q (.ref l) (upd H l (.lst (ns.map V.int)))):=by
 intro pins s σ H xs us Q I r h;obtain⟨d,m,rfl,hd,hlen,q⟩:=h;obtain⟨u,rfl,rx⟩:=vals1 r;cases rx;obtain⟨z,hS,vs,rel,dd⟩:=jm I.hok hd;obtain⟨ep,hat⟩:=dd.dictAt;have hl:vs.length=m.length:=by rw[←rel.length,vv]
 refine GX.qW (args_sorted1 _) (PySem.W.kdu_collect (A:=X.A.in1) (Vo (knd:=aO X.prog X.w) (kvs:=vs) (ep:=ep) hS) (I.ok.hd hc) hat (by rw[hl];exact QG (aD (by omega))) fun h' tk acc hk hacc=>?_);have hi:IntsAre acc.toList (m.map (·.1)):=rf (P:=X.prog) (w:=X.w) rel (by rw[QI];exact hacc.1) fun j v e=>hacc.2 j v (by rw[←QV];exact e);have ha:acc.toList.length=m.length:=by rw[hi.length,gm]
 have I1:Inv X pins σ H {s with heap:=h',toks:=tk}:=I.kept hk;refine vO hi (by rw[ha];exact hlen) (by rw[ha];exact QG (aD (by omega))) fun h2 out ns' e k2 he a1 a2 a3=>?_;have ln:ns'.length<=sizeLine:=by rw[a2.length_eq,gm];exact QG (aD (by omega))
 exact⟨.ref h'.objs.size,_,I1.lay_ints (tk:=tk) k2 he a1 ln,rfl,q _ ns' (I1.hok.fresh (oh _)) a2 a3⟩
theorem Cj:cE X (.type "dict") (fun xs H Q=>∃(d:dk) (kvs:List (Key×V)),xs=[.ref d]/\Rd H d (.dK kvs)/\∀p,H p=none->Q (.ref p) (upd H p (.dK kvs))):=by
 intro pins s σ H xs us Q I r h;obtain⟨d,kvs,rfl,hd,q⟩:=h;obtain⟨u,rfl,rx⟩:=vals1 r;cases rx;exact FF I hd fun p s' hp I'=>⟨.ref p,_,I',rfl,q p hp⟩
theorem uQ:cE X (.builtin "len") (fun xs H Q=>∃(a:dk) (kvs:List (Key×V)),xs=[V.ref a]/\Rd H a (.dK kvs)/\Q (.int kvs.length) H):=by
 intro pins s σ H xs us Q I r h;obtain⟨a,kvs,rfl,ha,q⟩:=h;obtain⟨u,rfl,ru⟩:=vals1 r;cases ru;exact Ou I ha fun t s' I'=>⟨.int kvs.length,H,I',⟨_,rfl⟩,q⟩
def Pr(H:Hp)(x:V)(p:Int×Int):Prop:=∃a,x=.ref a/\H a=some (.tup [.int p.1,.int p.2])
abbrev Prs(H:Hp):List V->List (Int×Int)->Prop:=Paired (Pr H)
theorem Prs.mono{H':Hp}(h:∀a xs,H a=some (.tup xs)->H' a=some (.tup xs))(r:Prs H xs ps):Prs H' xs ps:=Paired.mapP r fun _ _ ⟨a,e1,e2⟩=>⟨a,e1,h a _ e2⟩
theorem Prs.snoc{H:Hp}{x:V}{p:Int×Int}:∀{xs:List V} {ps:List (Int×Int)},Prs H xs ps->Pr H x p->Prs H (xs++[x]) (ps++[p])
 |_,_,.nil,h=>.cons h .nil
 |_,_,.cons r t,h=>.cons r (Prs.snoc t h)
theorem Prs.get{H:Hp}:∀{xs:List V} {ps:List (Int×Int)} {i:Nat} {x:V},Prs H xs ps->xs[i]?=some x->∃p,ps[i]?=some p/\Pr H x p
 |_,_,_,_,.nil,e=>by simp at e
 |_,_,0,_,.cons r _,e=>by simp at e;subst e;exact⟨_,rfl,r⟩
 |_,_,i+ 1,x,.cons _ t,e=>by
  obtain⟨p,h1,h2⟩:=Prs.get (i:=i) (x:=x) t (by simpa using e);exact⟨p,by simpa using h1,h2⟩
theorem Prs.len(r:Prs H xs ps):xs.length=ps.length:=Qk r
end
section
theorem Ae:∀(ps acc:List (Int×Int)),((acc++ps).map (·.1)).Nodup->qU (dI acc) (dI ps)=dI (acc++ps)
 |[],acc,_=>by rw[Q2];rfl
 |p::ps,acc,h=>by
  show qU (putK (dI acc) (GV p.1) (V.int p.2)) (dI ps)=_;have h1:(acc.map (·.1)).Nodup:=by
   rw[xt]at h;exact(RU.mp h).1
  have h2:(acc.any fun q=>decide (q.1=p.1))=false:=by
   rw[U0];intro q hq z;have z':=of_decide_eq_true z;rw[xt,Qd]at h;exact(RU.mp h).2.2 q.1 (QZ (f:=(·.1)) hq) p.1 xl z'
  rw[Gq acc p.1 p.2 h1,xR acc p.1 p.2 h2,Ae ps (acc++[(p.1,p.2)]) (by rw[RV];exact h),RV];rfl
theorem AH{pins:List (dk×QM)}{σ:St}{H:Hp}{s:lr}(I:Inv X pins σ H s):∀{xs:List V} {us:List cT} {ps:List (Int×Int)},Prs H xs ps->Vals xs us->
  ∃kx:List (Key×cT),KV (dI ps) kx/\kx.length=us.length/\∀(i:Nat) v,us[i]?=some v->∃a key k x o c,v=.ref a/\kx[i]?=some (k,x)/\(aO X.prog X.w).is k key=true/\s.heap.get? a=some o/\o.cls=.type "tuple"/\o.data=.seq #[key,x] c
 |_,_,_,.nil,.nil=>⟨[],.nil,rfl,fun i v e=>by simp at e⟩
 |x::xs,u::us,p::ps,.cons h t,.cons r q=>by
  obtain⟨kx,k1,k2,k3⟩:=AH I t q;obtain⟨a,rfl,ha⟩:=h;obtain rfl:u=zt a:=r;obtain⟨_,its,rv,o,ho,hc,n,hd,_⟩:[V.int p.1,V.int p.2].length<=sizeLine/\∃its:List cT,Vals [V.int p.1,V.int p.2] its/\IsTpl s.heap a its.toArray:=I.hok a _ ha;obtain⟨u1,u2,rfl,r1,r2⟩:=vals2 rv;obtain⟨t1,rfl⟩:=r1;refine⟨(GV p.1,u2)::kx,.cons ⟨rfl,r2⟩ k1,congrArg (·+ 1) k2,fun i v e=>?_⟩;cases i with
  |zero=>
   have e':zt a=v:=Qj e;subst e';exact⟨a,_,_,u2,o,n,rfl,rfl,lO X.prog X.w p.1 t1,ho,hc,hd⟩
  |succ i=>exact k3 i v e
theorem Bf(hc:X.calm=true):cE X (.type "dict") (fun xs H Q=>∃(a:dk) (ys:List V) (ps:List (Int×Int)),xs=[.ref a]/\H a=some (.lst ys)/\Prs H ys ps/\(ps.map (·.1)).Nodup/\ps.length<=1000/\∀p,H p=none->Q (.ref p) (upd H p (.dK (dI ps)))):=by
 intro pins s σ H xs us Q I r h;obtain⟨a,ys,ps,rfl,ha,hp,nd,hl,q⟩:=h;obtain⟨u,rfl,rx⟩:=vals1 r;cases rx;obtain⟨z,its,n,rv,hlen,e⟩:=I.lstM ha;obtain⟨kx,k1,k2,k3⟩:=AH I hp rv;refine GX.pL (knd:=aO X.prog X.w) (I.ok.hd hc) e (by rw[←hlen];exact z) k2 k3 fun h' tk kp dd=>?_;have rel:KV (dI ps) (merged [] kx):=by
  have:=KV.merge k1 (show KV (dI []) []from .nil);rw[Ae ps [] (by simpa using nd)]at this;exact this
 refine⟨.ref s.heap.objs.size,_,I.laid (t':=tk) kp (oh _) (yh ?_ (beq_eq_false_iff_ne.mpr (QH (xy I.big))) rel dd),rfl,q _ (I.hok.fresh (oh _))⟩;rw[vv];exact QG (aD hl)
def Mh(K:cw)(tl:TE):TI:=fun σ H R=>tl σ H fun x H1=>∃a,x=.ref a/\(((∃xs,SqL K H1 a xs)/\R (Itl K a) H1)∨((∃xs,SqT K H1 a xs)/\R (Itt K a) H1))
theorem Nw{tg l:QC}{tl:TE}(hl:PE X l tl):PI X tg l (Mh X.K tl):=by
 intro pins s σ H R I h;refine thn (hl pins s σ H _ I h) fun v s1 zz=>?_;obtain⟨x,H1,I1,r1,q1⟩:=zz;obtain⟨a,e,q1⟩:=q1;subst e;cases r1;have fp:∀b∈[s1.heap.objs.size],kE X pins H1 b:=fun b hb=>by
  have e:b=s1.heap.objs.size:=by simpa using hb
  subst e;exact I1.fpOk (oh _) (I1.hok.fresh (oh _))
 rcases q1 with⟨⟨xs,hq⟩,q⟩|⟨⟨xs,hq⟩,q⟩
 ·obtain⟨its,rv,p,hz⟩:=I1.list hq;refine wpAny_pyIter_list p.isList ?_;exact⟨s1.heap.objs.size,[s1.heap.objs.size],_,_,H1,rfl,I1.kept (t':=s1.toks) fun b o e=>gf _ e,vW a _,⟨_,rl _ rfl,rfl,rfl⟩,fp,q⟩
 ·obtain⟨its,rv,p,hz⟩:=I1.tuple hq;refine wpAny_pyIter_tuple (show s1.heap.IsTuple a its.toArray from p) ?_;exact⟨s1.heap.objs.size,[s1.heap.objs.size],_,_,H1,rfl,I1.kept (t':=s1.toks) fun b o e=>gf _ e,AM a _,⟨_,rl _ rfl,rfl,rfl⟩,fp,q⟩
end
theorem Gf{K:cw}{g:TG}{tt:TT}{te:TE}{D:dk}{Qe:Hp->Prop}(Pv:Nat->St->Hp->Prop)(h0:Pv 0 σ H)(hl:∀i σ H,i<=xs.length->Pv i σ H->SqT K H a xs)(hs:∀i x σ H,xs[i]?=some x->Pv i σ H->eR g tt te D (Pv (i+ 1)) x σ H)(hd:∀σ H,Pv xs.length σ H->Qe H):
  ∃W:Nat->Nat->St->Hp->Prop,(∃m,W 0 m σ H)/\∀i m σ' H',W i m σ' H'->((Itt K a).stop i H'/\Qe H')∨((Itt K a).go i H'/\∃N:St->Hp->Prop,(∀σ2 H2,N σ2 H2->∃m',m'<m/\W (i+ 1) m' σ2 H2)/\
   ∀x H'',(Itt K a).yld i H' x H''->eR g tt te D N x σ' H''):=by
 refine⟨fun i m σ H=>m=xs.length-i/\i<=xs.length/\Pv i σ H,⟨xs.length,by simp,Qt _,h0⟩,?_⟩;rintro i m σ H ⟨rfl,hi,p⟩;have q:=hl i σ H hi p;by_cases hlt:i<xs.length
 ·refine .inr ⟨⟨xs,xs[i],q,by simp[hlt]⟩,Pv (i+ 1),fun σ' H' p'=>⟨xs.length-(i+ 1),by omega,rfl,hlt,p'⟩,fun x H' y=>?_⟩;obtain⟨e,y⟩:=y;subst e;exact hs i x σ _ (y xs q) p
 ·have e:i=xs.length:=by omega
  subst e;exact .inl ⟨⟨xs,q,oh _⟩,hd σ H p⟩
theorem IS{k:Key}{u:cT}(h:(aO P w).is k u=true):RelV (kV k) u:=by
 rcases bG (show rU k u=true from h)with⟨i,t,rfl,rfl⟩|⟨x,t,rfl,rfl⟩
 ·exact⟨t,rfl⟩
 ·exact⟨t,rfl⟩
theorem KV.get{kvs:List (Key×V)}{vs:List (Key×cT)}:∀{i:Nat} {k:Key} {v:V},KV kvs vs->kvs[i]?=some (k,v)->∃u,vs[i]?=some (k,u)/\RelV v u:=by
 intro i k v r
 induction r generalizing i with
 |nil=>intro e;simp at e
 |cons r1 r2 ih=>
  rename_i p q _ _;intro e;cases i with
  |zero=>
   have e':p=(k,v):=Qj e;subst e';obtain⟨k',u⟩:=q;have ek:k=k':=r1.1;subst ek;exact⟨u,rfl,r1.2⟩
  |succ i=>exact ih e
theorem Inv.turnLay{it:dk}{o:HO}(I:Inv X pins σ H s)(k:∀b o,b≠it->s.heap.get? b=some o->h'.get? b=some o)(hf:kE X pins H it)(hio:∃o,h'.get? it=some o)(ha:s.heap.objs.size<=a)(hai:a≠it)(new:ObjOk X.prog X.w (upd H a o) h' a o):Inv X pins σ (upd H a o) {s with heap:=h'}:=by
 obtain⟨f0,f1,f2,f3,f4,f5⟩:=hf;have hn:H a=none:=I.hok.fresh ha;have nea:∀b ob,s.heap.get? b=some ob->b≠a:=fun b ob e z=>by
  have:=vc e;rw[z]at this;exact absurd (Qr this ha) (QD _)
 have nit:∀b u,H b=some u->b≠it:=fun b u e z=>by rw[z,f0]at e;cases e
 refine I.step (g':=s.gens) (d':=s.drawn) (t':=s.toks) (ch:=[it]) (fun b hb=>?_) (fun b o _ _ hc e _=>k b o (fun z=>hc (by simp[z])) e) (fun b o _ _ hc e _=>⟨o.slots,k b o (fun z=>hc (by simp[z])) e⟩) (fun b ob _ e n=>by rw[aj (nea b ob e)];exact n)
  (fun b o hc e=>⟨o,k b o (fun z=>hc (by simp[z])) e⟩) (fun b xs e=>by rw[aj (ai e hn)];exact e) (fun b o u e=>by rw[aj (ai e hn)];exact e) (fun b ps e=>⟨#[],by rw[aj (ai e hn),e];simp⟩) (fun m hm=>?_) (fun b u e=>?_) I.bare
 ·have e:b=it:=by simpa using hb
  subst e;exact⟨f3,f1,f4,f5⟩
 ·obtain⟨ob,es,ep,ho,r⟩:=hm;exact⟨ob,es,ep,k _ ob (QH f1) ho,r⟩
 ·by_cases hb:b=a
  ·subst hb;rw[af]at e;cases e;exact new
  ·rw[aj hb]at e;refine(I.hok b u e).stay (fun c v hc q=>k c v ?_ q) (fun c q=>by rw[aj (ai q hn)];exact q) fun c xs q=>by rw[aj (ai q hn)];exact q
   rcases hc with z|z
   ·rw[z];exact nit b u e
   ·exact nit c _ z
section
end
end L2
namespace GX
open PySem PyProof.Rows
variable{xs:Array Nat}{i j sl p n ep c:Nat}{t t':UE}{h:Qg}{b:Bool}{x first:cT}{prog:Qo}{w:Qu}{A:QR}{E Q1:cT->lr->Prop}{s:lr}{a I tp:dk}{S:Int->Bool}{es es':Array (Int×cT)}{Q:Option cT->lr->Prop}{k:Int}{R:S3->lr->Prop}{ns:List Int}{M:Yt}{o:QM}{ps:List Nat}
def Ris(xs:Array Nat):Prop:=xs.toList.Pairwise (·<·)
theorem Ris.at(h:Ris xs)(hi:i<j)(hj:j<xs.size):xs.getD i 0<xs.getD j 0:=by
 have:=Rq.mp h i j (by simp;omega) (by simpa using hj) hi;simp only[Tc]at this;rw[Qh,Qh,KW (by omega),KW hj];exact this
theorem yW(h:i<xs.size)(a b:Nat):xs.getD i a=xs.getD i b:=by
 rw[Qh,Qh,KW h];rfl
theorem tJ{xs:Array Nat}(hr:Ris xs)(j:Nat):∀(fuel lo hi:Nat),lo<=hi->hi<=xs.size->hi-lo<=fuel->(∀i,i<lo->xs.getD i 0<j)->(∀i,hi<=i->i<xs.size->j<=xs.getD i 0)->
  Si xs j fuel lo hi<=xs.size/\(∀i,i<Si xs j fuel lo hi->xs.getD i 0<j)/\(∀i,Si xs j fuel lo hi<=i->i<xs.size->j<=xs.getD i 0)
 |0,lo,hi,h1,h2,h3,h4,h5=>by
  have e:lo=hi:=by omega
  subst e;unfold Si;exact⟨h2,h4,h5⟩
 |fuel+ 1,lo,hi,h1,h2,h3,h4,h5=>by
  unfold Si;by_cases h:lo<hi
  ·rw[if_pos h];have hm:(lo+ hi) / 2<xs.size:=by omega
   show(if xs.getD ((lo+ hi) / 2) j<j then Si xs j fuel ((lo+ hi) / 2+ 1) hi else Si xs j fuel lo ((lo+ hi) / 2))<=_/\_;by_cases hc:xs.getD ((lo+ hi) / 2) j<j
   ·simp only[if_pos hc];rw[yW hm j 0]at hc;refine tJ hr j fuel _ hi (by omega) h2 (by omega) (fun i hi'=>?_) h5;rcases TB i ((lo+ hi) / 2)with z|z
    ·have:=hr.at z hm;omega
    ·have:i=(lo+ hi) / 2:=by omega
     rw[this];exact hc
   ·simp only[if_neg hc];rw[yW hm j 0]at hc;refine tJ hr j fuel lo _ (by omega) (by omega) (by omega) h4 (fun i hi' hs=>?_);rcases TB ((lo+ hi) / 2) i with z|z
    ·have:=hr.at z hs;omega
    ·have:i=(lo+ hi) / 2:=by omega
     rw[this];omega
  ·rw[if_neg h];have e:lo=hi:=by omega
   subst e;exact⟨h2,h4,h5⟩
theorem qe(hr:Ris xs)(j:Nat):QN xs j<=xs.size/\(∀i,i<QN xs j->xs.getD i 0<j)/\(∀i,QN xs j<=i->i<xs.size->j<=xs.getD i 0):=by
 unfold QN;exact tJ hr j _ 0 _ (Qt _) (oh _) (by omega) (fun i h=>by omega) (fun i h1 h2=>by omega)
theorem Cf(hr:Ris xs)(hi:i<xs.size):QN xs (xs.getD i 0+ 1)=i+ 1:=by
 obtain⟨h1,h2,h3⟩:=qe hr (xs.getD i 0+ 1);rcases Xa (QN xs (xs.getD i 0+ 1)) (i+ 1)with z|z|z
 ·have:=h3 i (by omega) hi;omega
 ·exact z
 ·have q:=h2 (i+ 1) z;have:=hr.at (i:=i) (j:=i+ 1) (by omega) (by omega);omega
theorem Be(hr:Ris xs):QN xs 0=0:=by
 obtain⟨h1,h2,h3⟩:=qe hr 0;rcases Nat.eq_zero_or_pos (QN xs 0)with z|z
 ·exact z
 ·have:=h2 0 z;omega
def Off(xs:Array Nat)(d:Nat):Prop:=xs[QN xs d]?≠some d
theorem Off.no(hr:Ris xs){d:Nat}(h:Off xs d):∀i,i<xs.size->xs.getD i 0≠d:=by
 intro i hi e;obtain⟨h1,h2,h3⟩:=qe hr d;have b1:QN xs d<=i:=by
  rcases TB i (QN xs d)with z|z
  ·have:=h2 i z;omega
  ·exact z
 have b2:QN xs d=i:=by
  rcases TB (QN xs d) i with z|z
  ·have:=hr.at z hi;have:=h3 (QN xs d) (oh _) (by omega);omega
  ·omega
 apply h;rw[b2,KW hi];rw[Qh,KW hi]at e;exact congrArg some e
theorem zZ(h:∀i,t.slot j≠.live i):Off t.place j:=by
 intro z;apply h (QN t.place j);unfold SetTable.slot;simp only[z,beq_self_eq_true,if_true]
theorem wq(t:UE)(p:Ya):(t.advance p).dummy=p.dummy:=by
 unfold SetTable.advance;split<;>rfl
theorem q5{t:UE}{f:Nat->Int}{h:Int}:∀(fuel:Nat) (p:Ya) (j:Nat) (dm:Option Nat),(∀d,p.dummy=some d->Off t.place d)->TX t f h fuel p=some (.empty j dm)->Off t.place j/\∀d,dm=some d->Off t.place d
 |0,p,j,dm,hp,e=>by
  unfold TX at e;cases e
 |fuel+ 1,p,j,dm,hp,e=>by
  unfold TX at e;cases hs:t.slot p.j with
  |empty=>
   rw[hs]at e;dsimp only at e;cases e;exact⟨zZ (fun i z=>by rw[hs]at z;cases z),hp⟩
  |dummy=>
   rw[hs]at e;dsimp only at e;refine q5 fuel _ j dm (fun d hd=>?_) e;rw[wq]at hd;cases hd;exact zZ (fun i z=>by rw[hs]at z;cases z)
  |live i=>
   rw[hs]at e;dsimp only at e;split at e
   ·cases e
   ·exact q5 fuel _ j dm (fun d hd=>hp d (by rw[wq]at hd;exact hd)) e
theorem Fy{h:Int}(e:t.freeSlot h=some (sl,b)):Off t.place sl:=by
 unfold SetTable.freeSlot SetTable.probe at e;generalize hg:TX t (fun _=>h+ 1) h (10*SetTable.turns t.mask) (t.probeStart h)=g at e;cases g with
 |none=>cases e
 |some m=>
  cases m with
  |candidate j i n=>cases e
  |empty j dm=>
   obtain⟨h1,h2⟩:=q5 _ _ j dm (fun d hd=>by cases hd) hg;dsimp only at e;have e':=Qj e;cases dm with
   |none=>
    have:j=sl:=congrArg Prod.fst e';rw[←this];exact h1
   |some d=>
    have:d=sl:=congrArg Prod.fst e';rw[←this];exact h2 d rfl
theorem mem_getD{x:Nat}(h:x∈xs.toList.take p):∃i,i<p/\i<xs.size/\xs.getD i 0=x:=by
 obtain⟨i,hi,e⟩:=SO h;rw[Q9,QI]at hi;refine⟨i,by omega,by omega,?_⟩;rw[List.getElem_take,Tc]at e;rw[Qh,KW (by omega)];exact e
theorem wO{x:Nat}(h:x∈xs.toList.drop p):∃i,p<=i/\i<xs.size/\xs.getD i 0=x:=by
 obtain⟨i,hi,e⟩:=SO h;rw[Vi,QI]at hi;refine⟨p+ i,by omega,by omega,?_⟩;rw[List.getElem_drop,Tc]at e;rw[Qh,KW (by omega)];exact e
theorem Jt(hr:Ris t.place)(ho:Off t.place sl):Ris (t.put sl).1.place:=by
 obtain⟨h1,h2,h3⟩:=qe hr sl;show(SetTable.insertAt t.place (QN t.place sl) sl).toList.Pairwise (·<·);rw[SetTable.toList_insertAt,Ut];refine⟨hr.sublist (U4 _ _),?_,?_⟩
 ·rw[UO];refine⟨fun x hx=>?_,hr.sublist (List.drop_sublist _ _)⟩;obtain⟨i,a,b,c⟩:=wO hx;have q1:=h3 i a b;have q2:=ho.no hr i b;omega
 ·intro x hx y hy;obtain⟨i,a,b,c⟩:=mem_getD hx;have q1:=h2 i a;rcases uc.mp hy with z|z
  ·omega
  ·obtain⟨i',a',b',c'⟩:=wO z;have q2:=h3 i' a' b';omega
theorem mZ(t:UE)(n:Nat):Ris (t.standIn n).place:=by
 show(Array.range n).toList.Pairwise (·<·);rw[Array.toList_range];exact S0
def Tb(b:Bool)(t:UE):Prop:=Ris t.place/\t.led=b
theorem LK(h:Tb b t)(es:Array (Int×cT))(k:Int)(x:cT):Tb b (layNew t es k x).2.1:=by
 unfold layNew;split
 ·rename_i sl wd e;dsimp only;unfold SetTable.orStandIn;split
  ·exact⟨Jt h.1 (Fy e),h.2⟩
  ·exact⟨mZ _ _,h.2⟩
 ·exact⟨mZ _ _,h.2⟩
theorem Ez{hs:Array Int}{o:Array Nat}(h:Tb b t)(e:t.relaid hs n=some (t',o)):Tb b t':=by
 unfold SetTable.relaid SetTable.laid at e;cases hc:SetTable.layClean (SetTable.sizeAbove n-1) hs with
 |none=>rw[hc]at e;cases e
 |some ow=>
  rw[hc]at e;have e':=Qj e;have e1:=congrArg Prod.fst e';dsimp only at e1;rw[←e1];refine⟨?_,h.2⟩;show List.Pairwise _ (WG (Sd _));rw[List.toList_toArray,List.map_filterMap];refine List.Pairwise.filterMap (R:=(·<·)) _ (fun x y hxy a ha c hc=>?_) S0;simp only[Yb,Option.mem_def,VN]at ha hc;obtain⟨_,_,rfl⟩:=ha;obtain⟨_,_,rfl⟩:=hc;exact hxy
theorem G8(h:Tb b t)(es:Array (Int×cT))(n:Nat):Tb b (relayAll t es n).2.1:=by
 unfold relayAll;split
 ·rename_i t' o e;dsimp only;split
  ·exact Ez h e
  ·exact⟨mZ _ _,h.2⟩
 ·exact⟨mZ _ _,h.2⟩
abbrev byT(w:Qu):Bool:=w.params.followText "set-order"
section
def SetI(prog:Qo)(w:Qu)(h:Qg)(a:dk)(S:Int->Bool)(n:Nat):Prop:=
 ∃o es ep t,h.get? a=some o/\o.ExactSet/\o.data=.set es ep t/\ElemsOf (intKind prog w) es.toList/\(∀k,S k=true↔∃e∈es.toList,(intKind prog w).is k e.2=true)/\es.size<S9/\t.fits es.size=true/\es.size=n/\Tb (!byT w) t
theorem SetI.at{h':Qg}(x:SetI prog w h a S n)(k:∀o,h.get? a=some o->h'.get? a=some o):SetI prog w h' a S n:=by
 obtain⟨o,es,ep,t,ho,r⟩:=x;exact⟨o,es,ep,t,k o ho,r⟩
theorem SetI.congr{S':Int->Bool}{n':Nat}(x:SetI prog w h a S n)(e:∀k,S k=S' k)(en:n=n'):SetI prog w h a S' n':=by
 have z:S=S':=funext e;rw[←z,←en];exact x
def GoodS(prog:Qo)(w:Qu)(es:Array (Int×cT))(t:UE)(S:Int->Bool)(n:Nat):Prop:=
 ElemsOf (intKind prog w) es.toList/\(∀k,S k=true↔∃e∈es.toList,(intKind prog w).is k e.2=true)/\es.size<S9/\t.fits es.size=true/\es.size=n/\Tb (!byT w) t
def RawS(h:Qg)(a:dk)(es:Array (Int×cT))(t:UE):Prop:=∃o ep,h.get? a=some o/\o.ExactSet/\o.data=.set es ep t
theorem RawS.good(r:RawS h a es t)(g:GoodS prog w es t S n):SetI prog w h a S n:=by
 obtain⟨o,ep,r1,r2,r3⟩:=r;exact⟨o,es,ep,t,r1,r2,r3,g⟩
theorem RawS.put{Q:Unit->lr->Prop}(r:RawS s.heap a es t)(hz:es'.size<S9)(h:∀h',Rf a s.heap h'->RawS h' a es' t'->Q () {s with heap:=h'}):
  ni (model prog w) A (storeSet a es' t') Q E s:=by
 obtain⟨⟨c,d,b,sl⟩,ep,ho,hx,hd⟩:=r;cases hd;exact wpAny_storeSet_of ho rfl (h _ (Q0 ..) ⟨_,ep+ 1,Q7 _ ho rfl,hx,rfl⟩) (fits_of_scanBound hz)
theorem GoodS.mix(g:GoodS prog w es t S n)(p:WL es'.toList es.toList)(f:t'.fits es'.size=true)(b:Tb (!byT w) t'):GoodS prog w es' t' S n:=by
 obtain⟨g1,g2,g3,_,g5,_⟩:=g;have z:es'.size=es.size:=by simpa using p.length_eq
 exact⟨g1.perm p,fun k=>(g2 k).trans ⟨fun⟨e,u,v⟩=>⟨e,p.mem_iff.mpr u,v⟩,fun⟨e,u,v⟩=>⟨e,p.mem_iff.mp u,v⟩⟩,z▸g3,f,z.trans g5,b⟩
theorem GoodS.relaid(g:GoodS prog w es t S n)(m:Nat):GoodS prog w (relayAll t es m).1 (relayAll t es m).2.1 S n:=
 g.mix (relayAll_perm t es m) (relayAll_fits t es m) (G8 g.2.2.2.2.2 es m)
theorem GoodS.more(g:GoodS prog w es t S n)(hk:(intKind prog w).is k x=true)(hx:x.scannable=true)(room:n+ 1<S9):
  GoodS prog w (layNew t es ((intKind prog w).hash k) x).1 (layNew t es ((intKind prog w).hash k) x).2.1 (fun k'=>S k'||decide (k'=k)) (n+ 1):=by
 obtain⟨g1,g2,g3,_,g5,g6⟩:=g;have p:WL _ (es.push ((intKind prog w).hash k,x)).toList:=layNew_perm t es ((intKind prog w).hash k) x;rw[Xb]at p;have z:(layNew t es ((intKind prog w).hash k) x).1.size=n+ 1:=by simpa [g5]using p.length_eq
 exact⟨(g1.push hk hx).perm p,mem_push_iff hk g2 p,z▸room,layNew_fits t es _ x,z,LK g6 es _ x⟩
theorem yI{Q:Unit->lr->Prop}(q:Q () s):ni (model prog w) A (match b with|true=>rule "set.scan.the-table-gave-way"|false=>pure ()) Q E s:=by
 cases b
 ·exact wpAny_pure q
 ·exact wpAny_rule q
theorem KI{u:TQ}{Q:Bool->lr->Prop}(x:SetI prog w s.heap a S n)(room:n+ 1<S9)(h:∀h' b,Rf a s.heap h'->SetI prog w h' a (fun k'=>S k'||decide (k'=k)) (if S k then n else n+ 1)->Q b {s with heap:=h'}):
  ni (model prog w) A (setAddHashed a (.int k u) ((intKind prog w).hash k)) Q E s:=by
 obtain⟨o,es,ep,t,ho,hx,hd,g⟩:=x;have g0:GoodS prog w es t S n:=g;obtain⟨he,hm,hb,hf,hn,tb⟩:=g;have hk:(intKind prog w).is k (.int k u)=true:=intKind_is _ _ _ _;rw[setAddHashed,setAddHashedIn];apply wpAny_holding;apply wpAny_bind;apply wpAny_setState_of ho hd hf;dsimp only;rw[byScan_of rfl hb he,if_pos rfl]
 wp_walk using wpAny_setScan_of hk ho hd hf he
 cases hr:List.findIdx? (fun e=>(intKind prog w).is k e.2) es.toList with
 |some j=>
  obtain⟨lt,is,_⟩:=List.findIdx?_eq_some_iff_getElem.mp hr;have sk:S k=true:=(hm k).mpr ⟨_,RB lt,is⟩
  wp_walk
  refine h s.heap false (.refl a _) (RawS.good ⟨o,ep,ho,hx,hd⟩ ?_);rw[if_pos sk,show(fun k'=>S k'||decide (k'=k))=S from funext fun k'=>?_]
  ·exact g0
  ·by_cases e:k'=k
   ·rw[e,sk];rfl
   ·rw[decide_eq_false e,Wt]
 |none=>
  have sk:¬ S k=true:=fun z=>by
   obtain⟨e,u,v⟩:=(hm k).mp z;exact absurd v (by simpa using List.findIdx?_eq_none_iff.mp hr e u)
  have g1:=g0.more hk rfl room;rw[if_neg sk]at h;dsimp only;generalize layNew t es ((intKind prog w).hash k) (.int k u)=L at g1⊢;obtain⟨es1,t1,wd,gv⟩:=L;refine wpAny_bind (yI ?_);dsimp only;rw[hashByValue_scannable 8 (x:=.int k u) rfl];split
  all_goals
   refine wpAny_bind (wpAny_pure ?_);rw[if_pos (by rfl)];refine wpAny_bind (RawS.put ⟨o,ep,ho,hx,hd⟩ g1.2.2.1 fun h1 s1 r1=>?_);split
   ·have g2:=g1.relaid (SetTable.grown es1.size);refine wpAny_bind (yI (wpAny_bind (RawS.put (s:={s with heap:=h1}) r1 g2.2.2.1 fun h2 s2 r2=>?_)))
    wp_walk
    exact h h2 true (s1.trans s2) (r2.good g2)
   ·wp_walk
    exact h h1 true s1 (r1.good g1)
theorem zW(S I:dk):MeetsIn prog w (QU.«set.update.loop» ⟨[.ref S,.ref I],[]⟩) fun A R s=>ni (model prog w) A.in1 (pyNext (.ref I)) (fun r s=>match r with
  |none=>R (.ok (.ret .none)) s
  |some v=>ni (model prog w) A.in1 (setAdd S v) (fun _ s=>QW (model prog w) A (.builtin "set.update.loop" ⟨[.ref S,.ref I],[]⟩) R s) (fun _ _=>False) s) (fun _ _=>False) s:=by
 intro A R s nx;show ni _ _ (pyNext (.ref I) >>= _) _ _ s;apply wpAny_bind;refine wpAny_mono nx (fun r s1 h=>?_) fun _ _ z=>z.elim;rcases r with _|v
 ·wp_walk
  exact h
 ·wp_walk using wpAny_mono h
  ·exact fun _ _ e=>wpAny_pure ⟨plainId_quiet Sr _,e⟩
  ·exact fun _ _ z=>z.elim
theorem FY{S:dk}{fp wr:List dk}{P:Nat->cT->Prop}{St:Nat->Qg->Prop}(W:VH prog w A.in1 I fp wr n P St)(nS:S∉fp)(val:Nat->Int)(hv:∀i v,P i v->∃t,v=.int (val i) t)(hb:n+ 1<S9):
  ∀(k i:Nat) (s:lr),n=i+ k->St i s.heap->SetI prog w s.heap S (fun k'=>(firstMet val i).any (·==k')) (firstMet val i).length->
   (∀h' tk,(∀b o,b∉wr->b≠S->s.heap.get? b=some o->h'.get? b=some o)->SetI prog w h' S (fun k'=>(firstMet val n).any (·==k')) (firstMet val n).length->R (.ok (.ret .none)) {s with heap:=h',toks:=tk})->
   QW (model prog w) A (.builtin "set.update.loop" ⟨[.ref S,.ref I],[]⟩) R s:=by
 have nW:S∉wr:=fun z=>nS (W.sub _ z);intro k
 induction k with
 |zero=>
  intro i s en st x fin;obtain rfl:n=i:=en;exact enter TC Sr (zW S I) (W.done s _ _ st fun h tk kp=>fin h tk (fun b o nb _ e=>kp b o nb e) (x.at fun o e=>kp S o nW e))
 |succ k ih=>
  intro i s en st x fin;refine enter TC Sr (zW S I) (W.item i s _ _ (by omega) st fun v h tk pv st1 kp=>?_);obtain⟨t,rfl⟩:=hv i v pv;have len:=firstMet_length_le val i;show ni _ _ (setAdd S (.int (val i) t)) _ _ _;unfold setAdd;refine wpAny_holding (wpAny_bind ((intKind prog w).pyHash (k:=val i) (intKind_is _ _ _ _) (KI (s:={s with heap:=h,toks:=tk+ 1}) (x.at fun o e=>kp S o nW e) (by omega) fun h2 b sb x2=>?_)));refine ih (i+ 1) {s with heap:=h2,toks:=tk+ 1} (by omega) (W.frame _ _ _ st1 fun b hb o e=>(sb.2 b fun z=>nS (z▸hb)).trans e) (x2.congr (fun k'=>?_) ?_) fun h3 tk3 k3 x3=>fin h3 tk3 (fun b o nb nb' e=>k3 b o nb nb' ((sb.2 b nb').trans (kp b o nb e))) x3
  ·rw[Wv,step_any]
  ·rw[Wv,step_length]
theorem KJ(a:cT)(h:Q1 (.ref s.heap.objs.size) {s with heap:=s.heap.push {cls:=.type "set",dict:=none,data:=.set #[] 0 (.fresh 0 0 (!byT w))}}):
  QW (model prog w) A (.call (.builtin "set.__new__") ⟨[.type "set",a],[]⟩) (wants Q1 E) s:=by
 refine codeAny_call_builtin PySem.F.plain_set_new PySem.F.entry_set_new (wpAny_of_eq (PySem.F.newCall_set_1 a) ?_);have sub:=sub_set_self;obtain⟨hp,g,d,tk,os⟩:=s
 wp_walk using wpAny_askSetting
 exact h
theorem AG{T newId initId:String}{args:List cT}{Q:cT->lr->Prop}(ft:TypeCalled T newId initId)(ct:checkTypeCall T ⟨args,[]⟩=pure ())(new:QW (model prog w) A.in1 (.call (.builtin newId) ⟨.type T::args,[]⟩) (wants Q1 E) s)(init:∀v s1,Q1 v s1->s1.TypeIs v T/\QW (model prog w) A.in1 (.call (.builtin initId) ⟨v::args,[]⟩) (wants (fun r s2=>r=.none/\Q v s2) E) s1):ni (model prog w) A (call (.type T) args) Q E s:=by
 obtain⟨_,_,_⟩:=ft.mro;have:=ft.notType;have:=ft.canCreate;have:=ft.made;have:=ft.sub;refine U8 (codeAny_of_tree (wpAny_pure ⟨UP _ (by decide +kernel),codeAny_builtin PySem.F.entry_type_call ?_⟩));rw[Around.under_plain (weight_type_call_type T args []) rfl]
 repeat' first|assumption|wp_step
 refine codeAny_mono new fun r s1 h=>?_
 match r,h with
 | .error _,h=>exact h
 | .ok (.ret v),h=>
  obtain⟨ty,c⟩:=init v s1 h;have:=ft.init.lookup;have:=ft.init.bind v
  repeat' first|assumption|wp_step
  refine codeAny_mono c fun r s2 h=>?_
  match r,h with
  | .error _,h=>exact h
  | .ok (.ret _),h=>
   obtain⟨rfl,_⟩:=h
   repeat' first|assumption|wp_step
end
theorem sl_sit_next:Yx "set_iterator" "__next__" "set_iterator.__next__":=
 .of (owner:="set_iterator") (n:="__next__") (by rw[XR,V3];kernel_rfl) (by decide +kernel) (by decide +kernel) (by decide +kernel) (by first|exact .inl (by decide +kernel)|exact .inr (by decide +kernel)) (by rw[TM];kernel_rfl)
theorem iQ:SY UJ "set_iterator.__next__"=some QU.«set_iterator.__next__»:=Xq (by kernel_rfl)
theorem iw(a:cT):argsOk "set_iterator.__next__" ⟨[a],[]⟩:=by unfold argsOk;kernel_rfl
theorem sg:Yx "set_iterator" "__iter__" "set_iterator.__iter__":=
 .of (owner:="set_iterator") (n:="__iter__") (by rw[XR,V3];kernel_rfl) (by decide +kernel) (by decide +kernel) (by decide +kernel) (by first|exact .inl (by decide +kernel)|exact .inr (by decide +kernel)) (by rw[TM];kernel_rfl)
theorem yV:SY UJ "set_iterator.__iter__"=some QU.«dict_keyiterator.__iter__»:=Yc (id':="dict_keyiterator.__iter__") (by kernel_rfl) rfl (by decide +kernel) (by kernel_rfl)
theorem yR(a:cT):argsOk "set_iterator.__iter__" ⟨[a],[]⟩:=by unfold argsOk;kernel_rfl
theorem yJ:SY UJ "set.__iter__"=some QU.«frozenset.__iter__»:=Yc (id':="frozenset.__iter__") (by kernel_rfl) rfl (by decide +kernel) (by kernel_rfl)
abbrev newS(w:Qu)(h:Qg):Qg:=h.push {cls:=.type "set",dict:=none,data:=.set #[] 0 (.fresh 0 0 (!byT w))}
section
theorem Ab{l:dk}{items:Array cT}{Q:cT->lr->Prop}(hh:A.handled=none)(hl:s.heap.IsList l items)(hi:IntsAre items.toList ns)(hb:items.size+ 1<S9)(h:∀h' tk,SetI prog w h' s.heap.objs.size (fun k'=>(firstMet (fun i=>ns.getD i 0) items.size).any (·==k')) (firstMet (fun i=>ns.getD i 0) items.size).length->(∀b o,s.heap.get? b=some o->h'.get? b=some o)->Q (.ref s.heap.objs.size) {s with heap:=h',toks:=tk}):
  ni (model prog w) A (call (.type "set") [.ref l]) Q E s:=by
 obtain⟨⟨oc,od,odt,osl⟩,hol,hcl,nl,hdl⟩:=id hl;cases hcl;cases hdl;have lS:l<s.heap.objs.size:=vc hol;refine AG WM (PySem.F.typeCall_set_1 _) (KJ (.ref l) (Q1:=fun v s1=>v=.ref s.heap.objs.size/\s1={s with heap:=newS w s.heap}) ⟨rfl,rfl⟩) ?_;rintro _ _ ⟨rfl,rfl⟩;have new:(newS w s.heap).get? s.heap.objs.size=some {cls:=.type "set",dict:=none,data:=.set #[] 0 (.fresh 0 0 (!byT w))}:=rl _ rfl;have old:(newS w s.heap).get? l=some {cls:=.type "list",dict:=od,data:=.seq items nl,slots:=osl}:=gf _ hol;have size:(newS w s.heap).objs.size=s.heap.objs.size+ 1:=Rl ..;have ty:QX {s with heap:=newS w s.heap} (.ref s.heap.objs.size) "set":=⟨_,new,rfl⟩;refine⟨ty,codeAny_call_builtin WM.init.plain PySem.F.entry_set_init (check_set_init_1 ty ?_)⟩;have:=PySem.F.sub_list_set;have:=PySem.F.sub_list_frozenset;have nd:(RL "list"==RL "dict")=false:=by decide
 have grown:∀b o,s.heap.get? b=some o->(newS w s.heap).get? b=some o:=fun b o e=>gf _ e;generalize newS w s.heap=h1 at new old size ty grown⊢;have il:h1.IsList l items:=⟨_,old,rfl,nl,rfl⟩
 wp_walk using wpAny_pyIter_list il
 have nf:s.heap.objs.size∉[h1.objs.size,l]:=by
  rw[size];intro z;rcases uc.mp z with z|z
  ·exact absurd z (xy (SK _))
  ·exact RC lS (tw.mp z)
 refine FY (U9 (by simpa using hh) _ l (by rw[size];exact xy (SD lS)) items) nf (fun i=>ns.getD i 0) (fun i v hv=>IntsAre.int_at hi i v (by rw[QV];exact hv)) hb items.size 0 _ (by omega)
  ⟨⟨_,rl _ rfl,rfl,rfl⟩,il.push _⟩ ⟨_,#[],0,_,gf _ new,⟨rfl,rfl,rfl⟩,rfl,fun e he=>by simp at he,fun k=>by simp[firstMet_zero],by decide,by rfl,rfl,⟨List.Pairwise.nil,rfl⟩⟩ fun h2 tk kp x=>?_
 wp_walk
 refine⟨rfl,h h2 tk x fun b o e=>?_⟩;have lb:=vc e;refine kp b o (fun z=>?_) (xy lb) (gf _ (grown b o e));rw[tw.mp z,size]at lb;exact absurd lb (XT.mpr (RP _))
end
section
theorem oO{α:Type}:∀{xs:List α} {i:Nat} (h:i<xs.length),(xs[i]::xs.eraseIdx i).Perm xs
 |x::xs,0,_=>.refl _
 |x::xs,i+ 1,h=>(V4 x (xs[i]'(VQ h)) _).trans ((oO (xs:=xs) (i:=i) (VQ h)).cons x)
theorem DQ{src:Source}{Q:Nat->lr->Prop}(hn:n≠0)(h:∀i d,i<n->Q i {s with drawn:=d}):ni M A (choose src n) Q E s:=fun Γ p _=>by
 unfold choose;rw[Sem.wp_choose];exact⟨hn,h _ _ (YU _ (Nat.pos_of_ne_zero hn))⟩
theorem CQ{α:Type}{M:Yt}:∀(n:Nat) (xs:List α) (s:lr) (Q:List α->lr->Prop),xs.length=n->(∀ys d,ys.Perm xs->Q ys {s with drawn:=d})->ni M A (drawOrder n xs) Q E s
 |0,xs,s,Q,hl,h=>by
  have e:xs=[]:=Rr hl;subst e;unfold drawOrder;exact wpAny_pure (h [] s.drawn .nil)
 |n+ 1,[],s,Q,hl,h=>by cases hl
 |n+ 1,x::xs,s,Q,hl,h=>by
  unfold drawOrder;refine wpAny_bind (DQ (by simp) fun i d hi=>?_);rw[xi hi];dsimp only;refine wpAny_bind (CQ n _ _ _ (by rw[UW hi,hl];rfl) fun ys d' pm=>?_);exact wpAny_pure (h _ d' ((pm.cons _).trans (oO hi)))
theorem DG{α:Type}(f:Nat->Nat):∀(n k:Nat) (xs:List α) (out:Array α),xs.length=n->(pickOrder.go f n k xs out).toList.Perm (out.toList++xs)
 |0,k,xs,out,hl=>by
  have e:xs=[]:=Rr hl;subst e;unfold pickOrder.go;rw[Q2]
 |n+ 1,k,xs,out,hl=>by
  unfold pickOrder.go;have hi:f k%xs.length<xs.length:=YU _ (by omega);rw[xi hi];dsimp only;refine(DG f n (k+ 1) _ _ (by rw[UW hi,hl];rfl)).trans ?_;rw[Xb,RV];exact YO _ (oO hi)
theorem Er{α:Type}(f:Nat->Nat)(xs:Array α):(pickOrder f xs).toList.Perm xs.toList:=by
 have:=DG f xs.size 0 xs.toList #[] (by simp);simpa [pickOrder]using this
end
section
def sJ(first:cT)(i:Nat)(a:dk)(n ep:Nat):QM:={cls:=.type "set_iterator",dict:=none,data:=.fields #[first,.int i 0,.ref a,.int n 0,.int ep 0],slots:=#[]}
theorem oS(h:Qg)(hI:h.get? I=some (sJ first i a n ep))(k:Nat)(x:cT):(h.update I (T7 (·.setIfInBounds k x))).get? I=some {cls:=.type "set_iterator",dict:=none,data:=.fields ((#[first,.int i 0,.ref a,.int n 0,.int ep 0]:Array cT).setIfInBounds k x),slots:=#[]}:=
 Q7 _ hI rfl
theorem dB(hI:s.heap.get? I=some (sJ first i a es.size ep)):s.TypeIs (.ref I) "set_iterator":=⟨_,hI,rfl⟩
theorem pZ{sl:Int}{nx:Nat}(hI:s.heap.get? I=some (sJ (.int sl 0) i a es.size ep))(ho:s.heap.get? a=some o)(hd:o.data=.set es ep t)(hf:t.fits es.size=true)(hn:∀(A:QR) (E:cT->lr->Prop) (Q':Option (cT×Nat)->lr->Prop),Q' (some (x,nx)) s->ni (model prog w) A (setNext a sl.toNat i ep) Q' E s)(h:∀h',h'.get? I=some (sJ (.int nx 0) (i+ 1) a es.size ep)->Rf I s.heap h'->Q (some x) {s with heap:=h'}):ni (model prog w) A (pyNext (.ref I)) Q E s:=by
 unfold pyNext;refine wpAny_bind (wpAny_attempt (Rc (name:=QO "__next__") (dB hI) sl_sit_next (wpAny_call_entry sl_sit_next (dB hI) iQ ?_ (iw _))));unfold QU.«set_iterator.__next__»;refine wpAny_bind (wpAny_pure (wpAny_bind (wpAny_fieldsOf hI rfl ?_)));show ni _ _ (setEntries a >>= _) _ _ _;refine wpAny_bind (wpAny_setEntries_of ho hd hf ?_);show ni _ _ (if(((es.size:Nat):Int) !=((es.size:Nat):Int))=true then _ else _) _ _ _;rw[if_neg (by simp)];show ni _ _ (setNext a sl.toNat ((i:Int)).toNat ((ep:Int)).toNat >>= _) _ _ _;rw[Qp,Qp];refine wpAny_bind (hn _ _ _ ?_);show ni _ _ (setField (.ref I) 0 (rawInt nx) >>= _) _ _ _;refine wpAny_bind (wpAny_setField hI rfl (by simp) ?_);have h1:=oS s.heap hI 0 (rawInt nx);refine wpAny_bind (wpAny_setField (s:={s with heap:=s.heap.update I (T7 (·.setIfInBounds 0 (rawInt nx)))}) h1 rfl (by simp) ?_);refine wpAny_pure ⟨_,rfl,wpAny_pure (h _ ?_ ((Q0 ..).trans (Q0 ..)))⟩;exact Q7 _ h1 rfl
theorem Af{Q:U5->lr->Prop}(hh:A.handled=none)(h:∀h' e,(∀b o,s.heap.get? b=some o->h'.get? b=some o)->(∃o,h'.get? e=some o/\o.cls=.type "StopIteration")->E (.ref e) {s with heap:=h'}):
  ni M A (newExc (.type "StopIteration") [] >>= fun e=>Wg e) Q E s:=by
 refine wpAny_bind ?_;simp only[newExc,Yy];refine wpAny_bind (wpAny_newObj_type ?_ (by size_fits));refine wpAny_bind (m:=UG _ _) (wpAny_of_eq (a:=Q4) (by first|rfl|(simp only[UG];rfl)) ?_);refine wpAny_newObj_type ?_ (by size_fits);refine wpAny_raiseNew_none hh (h _ _ (fun b o e=>gf _ (gf _ e)) ⟨_,rl _ rfl,rfl⟩)
theorem pM{sl:Int}(hh:A.handled=none)(hI:s.heap.get? I=some (sJ (.int sl 0) i a es.size ep))(ho:s.heap.get? a=some o)(hd:o.data=.set es ep t)(hf:t.fits es.size=true)(hn:∀(A:QR) (E:cT->lr->Prop) (Q':Option (cT×Nat)->lr->Prop),Q' none s->ni (model prog w) A (setNext a sl.toNat i ep) Q' E s)(h:∀h',(∀b o,b≠I->s.heap.get? b=some o->h'.get? b=some o)->Q none {s with heap:=h'}):ni (model prog w) A (pyNext (.ref I)) Q E s:=by
 unfold pyNext;refine wpAny_bind (wpAny_attempt (Rc (name:=QO "__next__") (dB hI) sl_sit_next (wpAny_call_entry sl_sit_next (dB hI) iQ ?_ (iw _))));unfold QU.«set_iterator.__next__»;refine wpAny_bind (wpAny_pure (wpAny_bind (wpAny_fieldsOf hI rfl ?_)));show ni _ _ (setEntries a >>= _) _ _ _;refine wpAny_bind (wpAny_setEntries_of ho hd hf ?_);show ni _ _ (if(((es.size:Nat):Int) !=((es.size:Nat):Int))=true then _ else _) _ _ _;rw[if_neg (by simp)];show ni _ _ (setNext a sl.toNat ((i:Int)).toNat ((ep:Int)).toNat >>= _) _ _ _;rw[Qp,Qp];refine wpAny_bind (hn _ _ _ ?_);show ni _ _ (setField (.ref I) 2 .none >>= _) _ _ _;refine wpAny_bind (wpAny_setField hI rfl (by simp) ?_);refine Af (A:=A.in1) hh fun h' e kp zz=>?_;obtain⟨oe,q1,q2⟩:=zz;refine wpAny_bind (wpAny_isInstance (T:="StopIteration") (b:=true) ⟨oe,q1,q2⟩ V5 ?_);exact wpAny_pure (h h' fun b ob nb e=>kp b ob ((QP _ _ (QH nb)).trans e))
theorem yf{k:Nat}{hk:Int}(hI:s.heap.get? I=some (sJ (.ref tp) i a es.size ep))(ho:s.heap.get? a=some o)(hd:o.data=.set es ep t)(hf:t.fits es.size=true)(ht:s.heap.get? tp=some {cls:=.type "tuple",dict:=none,data:=.seq (ps.map fun(i:Nat)=>rawInt i).toArray c,slots:=#[]})(hp:ps[i]?=some k)(hx:es[k]?=some (hk,x))(h:∀h',h'.get? I=some (sJ (.ref tp) (i+ 1) a es.size ep)->Rf I s.heap h'->Q (some x) {s with heap:=h'}):ni (model prog w) A (pyNext (.ref I)) Q E s:=by
 unfold pyNext;refine wpAny_bind (wpAny_attempt (Rc (name:=QO "__next__") (dB hI) sl_sit_next (wpAny_call_entry sl_sit_next (dB hI) iQ ?_ (iw _))));unfold QU.«set_iterator.__next__»;refine wpAny_bind (wpAny_pure (wpAny_bind (wpAny_fieldsOf hI rfl ?_)));show ni _ _ (setEntries a >>= _) _ _ _;refine wpAny_bind (wpAny_setEntries_of ho hd hf ?_);show ni _ _ (if(((es.size:Nat):Int) !=((es.size:Nat):Int))=true then _ else _) _ _ _;rw[if_neg (by simp)];show ni _ _ (VF (.ref tp) >>= _) _ _ _;refine wpAny_bind (wpAny_seqItems ht rfl ?_);have e1:((ps.map fun(i:Nat)=>rawInt i).toArray)[((i:Nat):Int).toNat]?=some (.int k 0):=by
  rw[Qp,V6,CA,hp];rfl
 dsimp only;rw[e1];show ni _ _ (setNextDrawn a ((k:Nat):Int).toNat ((ep:Nat):Int).toNat >>= _) _ _ _;rw[Qp,Qp];unfold setNextDrawn;refine wpAny_bind (wpAny_bind (wpAny_setState_of ho hd hf ?_));show ni _ _ (if(ep !=ep)=true then _ else _) _ _ _;rw[if_neg (by simp)];refine wpAny_bind (wpAny_pure ?_);rw[hx];refine wpAny_pure ?_;show ni _ _ (setField (.ref I) 1 (rawInt ((i:Int)+ 1)) >>= _) _ _ _;refine wpAny_bind (wpAny_setField hI rfl (by simp) (wpAny_pure ⟨_,rfl,wpAny_pure (h _ ?_ (Q0 ..))⟩));exact oS s.heap hI 1 (rawInt ((i:Int)+ 1))
theorem xD(hh:A.handled=none)(hI:s.heap.get? I=some (sJ (.ref tp) i a es.size ep))(ho:s.heap.get? a=some o)(hd:o.data=.set es ep t)(hf:t.fits es.size=true)(ht:s.heap.get? tp=some {cls:=.type "tuple",dict:=none,data:=.seq (ps.map fun(i:Nat)=>rawInt i).toArray c,slots:=#[]})(hp:ps[i]?=none)(h:∀h',(∀b o,b≠I->s.heap.get? b=some o->h'.get? b=some o)->Q none {s with heap:=h'}):ni (model prog w) A (pyNext (.ref I)) Q E s:=by
 unfold pyNext;refine wpAny_bind (wpAny_attempt (Rc (name:=QO "__next__") (dB hI) sl_sit_next (wpAny_call_entry sl_sit_next (dB hI) iQ ?_ (iw _))));unfold QU.«set_iterator.__next__»;refine wpAny_bind (wpAny_pure (wpAny_bind (wpAny_fieldsOf hI rfl ?_)));show ni _ _ (setEntries a >>= _) _ _ _;refine wpAny_bind (wpAny_setEntries_of ho hd hf ?_);show ni _ _ (if(((es.size:Nat):Int) !=((es.size:Nat):Int))=true then _ else _) _ _ _;rw[if_neg (by simp)];show ni _ _ (VF (.ref tp) >>= _) _ _ _;refine wpAny_bind (wpAny_seqItems ht rfl ?_);have e1:((ps.map fun(i:Nat)=>rawInt i).toArray)[((i:Nat):Int).toNat]?=none:=by
  rw[Qp,V6,CA,hp];rfl
 dsimp only;rw[e1];show ni _ _ (setField (.ref I) 0 (rawInt 0) >>= _) _ _ _;refine wpAny_bind (wpAny_setField hI rfl (by simp) ?_);have h1:=oS s.heap hI 0 (rawInt 0);refine wpAny_bind (wpAny_setField (s:={s with heap:=s.heap.update I (T7 (·.setIfInBounds 0 (rawInt 0)))}) h1 rfl (by simp) ?_);refine Af (A:=A.in1) hh fun h' e kp zz=>?_;obtain⟨oe,q1,q2⟩:=zz;refine wpAny_bind (wpAny_isInstance (T:="StopIteration") (b:=true) ⟨oe,q1,q2⟩ V5 ?_);exact wpAny_pure (h h' fun b ob nb e=>kp b ob ((QP _ _ (QH nb)).trans ((QP _ _ (QH nb)).trans e)))
theorem wb{Q:Option (cT×Nat)->lr->Prop}(b:byT w=true)(ho:s.heap.get? a=some o)(hd:o.data=.set es ep t)(hf:t.fits es.size=true)(h:Q (((pickOrder (w.params.setOrder a ep) es)[i]?).map fun e=>(e.2,sl)) s):ni (model prog w) A (setNext a sl i ep) Q E s:=by
 have hb:w.params.followText "set-order"=true:=b;unfold setNext;refine wpAny_bind (wpAny_setState_of ho hd hf (wpAny_bind (wpAny_bind (wpAny_askSetting (wpAny_pure ?_)))));show ni _ _ (if w.params.followText "set-order"=true then _ else _) _ _ _;rw[hb,if_pos rfl];show ni _ _ (if(ep !=ep)=true then _ else _) _ _ _;rw[if_neg (by simp)];refine wpAny_bind ?_;unfold setWalk;refine wpAny_bind (wpAny_setState_of ho hd hf (wpAny_bind (wpAny_bind (wpAny_askSetting (wpAny_pure ?_)))));show ni _ _ (if w.params.followText "set-order"=true then _ else _) _ _ _;rw[hb,if_pos rfl];exact wpAny_bind (wpAny_askSetting (wpAny_pure (wpAny_pure h)))
theorem Ao{Q:Option (cT×Nat)->lr->Prop}(b:byT w=false)(d:(!t.plain&&decide (es.size>1))=false)(hl:t.led=true)(ho:s.heap.get? a=some o)(hd:o.data=.set es ep t)(hf:t.fits es.size=true)(h:Q (match es[QN t.place sl]?,t.place[QN t.place sl]? with|some (_,x),some j=>some (x,j+ 1)|_,_=>none) s):ni (model prog w) A (setNext a sl i ep) Q E s:=by
 have hb:w.params.followText "set-order"=false:=b;unfold setNext;refine wpAny_bind (wpAny_setState_of ho hd hf (wpAny_bind (wpAny_bind (wpAny_askSetting (wpAny_pure ?_)))));show ni _ _ (if w.params.followText "set-order"=true then _ else _) _ _ _;rw[hb,if_neg Qn];refine wpAny_bind (wpAny_pure ?_);show ni _ _ (if(!t.plain&&decide (es.size>1))=true then _ else _) _ _ _;rw[d,if_neg Qn];refine wpAny_bind ?_;show ni _ _ (if(!t.led&& !es.isEmpty)=true then _ else _) _ _ _;rw[hl];show ni _ _ (if(false&& !es.isEmpty)=true then _ else _) _ _ _;rw[SH,if_neg Qn];exact wpAny_pure (wpAny_pure h)
end
section
theorem tX{Q:cT->lr->Prop}(hI:s.heap.get? I=some (sJ first i a es.size ep))(h:Q (.ref I) s):ni (model prog w) A (pyIter (.ref I)) Q E s:=by
 refine TY (dB hI) sg (wpAny_call_entry sg (dB hI) yV ?_ (yR _));show ni _ _ (ret (.ref I)) _ _ s;exact wpAny_pure ⟨_,rfl,"set_iterator",_,dB hI,sl_sit_next.lookup,h⟩
theorem EA(hh:A.handled=none)(b:byT w=true)(hd:o.data=.set es ep t)(hf:t.fits es.size=true)(ne:a≠I):
  VH prog w A I [I,a] [I] ((pickOrder (w.params.setOrder a ep) es).toList.map (·.2)).length (fun i v=>((pickOrder (w.params.setOrder a ep) es).toList.map (·.2))[i]?=some v)
   (fun i h=>(∃sl:Nat,h.get? I=some (sJ (.int sl 0) i a es.size ep))/\h.get? a=some o) where
 sub:=fun b hb=>tw.mp hb▸xl
 frame:=fun i h h' st hk=>⟨let ⟨sl,e⟩:=st.1;⟨sl,hk I (by simp) _ e⟩,hk a (by simp) _ st.2⟩
 item:=fun i s _ _ hi st hQ=>by
  obtain⟨⟨sl,hI⟩,ho⟩:=st;have hi':i<(pickOrder (w.params.setOrder a ep) es).size:=by simpa using hi
  refine pZ (x:=((pickOrder (w.params.setOrder a ep) es)[i]).2) (nx:=sl) hI ho hd hf (fun A E Q' q=>wb b ho hd hf ?_) fun h' e sb=>hQ _ h' s.toks ?_ ⟨⟨sl,e⟩,(sb.2 a ne).trans ho⟩ fun c oc nc ec=>(sb.2 c (fun z=>nc (by simp[z]))).trans ec
  ·rw[KW hi'];exact q
  ·rw[CA,QV,KW hi'];rfl
 done:=fun s Q E st hQ=>by
  obtain⟨⟨sl,hI⟩,ho⟩:=st;refine pM hh hI ho hd hf (fun A E Q' q=>wb b ho hd hf ?_) fun h' kp=>hQ h' s.toks fun c oc nc ec=>kp c oc (fun z=>nc (by simp[z])) ec;rw[RF (by simp)];exact q
 self:=fun i s Q E st hQ=>let ⟨⟨_,hI⟩,_⟩:=st;tX hI hQ
theorem FG(hh:A.handled=none)(b:byT w=false)(d:(!t.plain&&decide (es.size>1))=false)(tb:Tb (!byT w) t)(hd:o.data=.set es ep t)(hf:t.fits es.size=true)(ne:a≠I):
  VH prog w A I [I,a] [I] (es.toList.map (·.2)).length (fun i v=>(es.toList.map (·.2))[i]?=some v)
   (fun i h=>(∃sl:Nat,QN t.place sl=i/\h.get? I=some (sJ (.int sl 0) i a es.size ep))/\h.get? a=some o) where
 sub:=fun b hb=>tw.mp hb▸xl
 frame:=fun i h h' st hk=>⟨let ⟨sl,e1,e⟩:=st.1;⟨sl,e1,hk I (by simp) _ e⟩,hk a (by simp) _ st.2⟩
 item:=fun i s _ _ hi st hQ=>by
  obtain⟨⟨sl,e1,hI⟩,ho⟩:=st;have hi':i<es.size:=by simpa using hi
  have hl:t.led=true:=by rw[tb.2,b];rfl
  have hp:t.place.size=es.size:=by
   simp only[SetTable.fits,Ub,beq_iff_eq,decide_eq_true_eq]at hf;exact hf.1
  have hip:i<t.place.size:=by omega
  refine pZ (x:=(es[i]).2) (nx:=t.place.getD i 0+ 1) hI ho hd hf (fun A E Q' q=>Ao b d hl ho hd hf ?_) fun h' e sb=>hQ _ h' s.toks ?_ ⟨⟨t.place.getD i 0+ 1,Cf tb.1 hip,e⟩,(sb.2 a ne).trans ho⟩ fun c oc nc ec=>(sb.2 c (fun z=>nc (by simp[z]))).trans ec
  ·rw[Qp,e1,KW hi',KW hip];rw[Qh,KW hip]at q;exact q
  ·rw[CA,QV,KW hi'];rfl
 done:=fun s Q E st hQ=>by
  obtain⟨⟨sl,e1,hI⟩,ho⟩:=st;have hl:t.led=true:=by rw[tb.2,b];rfl
  refine pM hh hI ho hd hf (fun A E Q' q=>Ao b d hl ho hd hf ?_) fun h' kp=>hQ h' s.toks fun c oc nc ec=>kp c oc (fun z=>nc (by simp[z])) ec;rw[Qp,e1,RF (by simp)];exact q
 self:=fun i s Q E st hQ=>let ⟨⟨_,_,hI⟩,_⟩:=st;tX hI hQ
theorem AN(hh:A.handled=none)(pm:ps.Perm (QF es.size))(hd:o.data=.set es ep t)(hf:t.fits es.size=true)(ne:a≠I)(nt:tp≠I):
  VH prog w A I [I,a,tp] [I] (ps.map fun i=>(es.getD i (0,.none)).2).length (fun i v=>(ps.map fun i=>(es.getD i (0,.none)).2)[i]?=some v)
   (fun i h=>h.get? I=some (sJ (.ref tp) i a es.size ep)/\h.get? a=some o/\h.get? tp=some {cls:=.type "tuple",dict:=none,data:=.seq (ps.map fun(i:Nat)=>rawInt i).toArray c,slots:=#[]}) where
 sub:=fun b hb=>tw.mp hb▸xl
 frame:=fun i h h' st hk=>⟨hk I (by simp) _ st.1,hk a (by simp) _ st.2.1,hk tp (by simp) _ st.2.2⟩
 item:=fun i s _ _ hi st hQ=>by
  obtain⟨hI,ho,ht⟩:=st;rw[gm]at hi;have hm:ps[i]<es.size:=RD.mp (pm.mem_iff.mp (RB hi));refine yf (x:=(es[ps[i]]).2) (hk:=(es[ps[i]]).1) hI ho hd hf ht (xi hi) (KW hm) fun h' e sb=>hQ _ h' s.toks ?_ ⟨e,(sb.2 a ne).trans ho,(sb.2 tp nt).trans ht⟩ fun c oc nc ec=>(sb.2 c (fun z=>nc (by simp[z]))).trans ec;rw[CA,xi hi,Sw,Qh,KW hm];rfl
 done:=fun s Q E st hQ=>by
  obtain⟨hI,ho,ht⟩:=st;exact xD hh hI ho hd hf ht (Sx (by rw[gm];exact oh _)) fun h' kp=>hQ h' s.toks fun c oc nc ec=>kp c oc (fun z=>nc (by simp[z])) ec
 self:=fun i s Q E st hQ=>tX st.1 hQ
theorem BF(es:Array (Int×cT)):(QF es.size).map (fun i=>(es.getD i (0,Q4)).2)=es.toList.map (·.2):=by
 apply Xc;intro i;rw[CA,CA,QV (xs:=es)];by_cases h:i<es.size
 ·rw[xi (by rw[RI];exact h),List.getElem_range,Sw,Qh,KW h];rfl
 ·rw[Sx (by rw[RI];omega),RF (by omega)];rfl
theorem Im(hh:A.handled=none)(ho:s.heap.get? a=some o)(hx:o.ExactSet)(hd:o.data=.set es ep t)(hf:t.fits es.size=true)(hb:es.size<S9)(tb:Tb (!byT w) t){Q:cT->lr->Prop}
  (h:∀(h':Qg) (d':Ys) (I:dk) (fp:List dk) (vs:List cT) (St:Nat->Qg->Prop),(∀b o,s.heap.get? b=some o->h'.get? b=some o)->s.heap.objs.size<=I->(∀b∈fp,b=a∨s.heap.objs.size<=b)->vs.Perm (es.toList.map (·.2))->
   (∀A:QR,A.handled=none->VH prog w A I fp [I] vs.length (fun i v=>vs[i]?=some v) St)->St 0 h'->Q (.ref I) {s with heap:=h',drawn:=d'}):ni (model prog w) A (pyIter (.ref a)) Q E s:=by
 have hT:s.TypeIs (.ref a) "set":=⟨o,ho,hx.1⟩;have la:=vc ho;refine TY hT V7 (wpAny_call_entry V7 hT yJ ?_ (PySem.F.args_set_iter_1 _));unfold QU.«frozenset.__iter__» Builtin.Frozenset.slot0 Builtin.Frozenset.addrOf Builtin.Frozenset.sizeOf;refine wpAny_bind (wpAny_bind (wpAny_pure (wpAny_pure (wpAny_bind (wpAny_bind (wpAny_setEntries_of ho hd hf (wpAny_pure ?_)))))));refine wpAny_bind ?_;unfold setDrawn;refine wpAny_bind (wpAny_setState_of ho hd hf (wpAny_bind (wpAny_bind (wpAny_askSetting (wpAny_pure (wpAny_pure ?_))))));show ni _ _ (if(!byT w&&(!t.plain&&decide (es.size>1)))=true then _ else _) _ _ _;cases hc:(!byT w&&(!t.plain&&decide (es.size>1)))with
 |false=>
  rw[if_neg Qn];refine wpAny_bind (wpAny_pure (wpAny_bind ?_));unfold setEpoch;refine wpAny_bind (wpAny_setState_of ho hd hf (wpAny_pure ?_));refine wpAny_bind (wpAny_newObj_type (wpAny_pure ⟨_,rfl,"set_iterator",_,⟨_,rl _ rfl,rfl⟩,sl_sit_next.lookup,?_⟩));have nI:a≠s.heap.objs.size:=xy la;have fpok:∀b∈[s.heap.objs.size,a],b=a∨s.heap.objs.size<=b:=fun b hb=>by
   simp only[uc,Qy,or_false]at hb;rcases hb with z|z
   ·exact .inr (Tu z.symm)
   ·exact .inl z
  cases hT:byT w with
  |true=>
   refine h _ s.drawn s.heap.objs.size [s.heap.objs.size,a] _ _ (fun b o e=>gf _ e) (oh _) fpok ((Er (w.params.setOrder a ep) es).map _) (fun A hA=>EA hA hT hd hf nI) ⟨⟨0,rl _ rfl⟩,gf _ ho⟩
  |false=>
   have hc':(!t.plain&&decide (es.size>1))=false:=by rw[hT]at hc;exact hc
   refine h _ s.drawn s.heap.objs.size [s.heap.objs.size,a] _ _ (fun b o e=>gf _ e) (oh _) fpok (.refl _) (fun A hA=>FG hA hT hc' tb hd hf nI) ⟨⟨0,Be tb.1,rl _ rfl⟩,gf _ ho⟩
 |true=>
  rw[if_pos rfl];refine wpAny_bind (CQ es.size (QF es.size) s _ (by rw[RI]) fun ps d' pm=>wpAny_bind ?_);refine wpAny_newTuple (wpAny_bind ?_) ?_
  ·unfold setEpoch;have ho':(s.heap.push {cls:=.type "tuple",data:=.seq (ps.map fun(i:Nat)=>rawInt i).toArray}).get? a=some o:=gf _ ho;refine wpAny_bind (wpAny_setState_of ho' hd hf (wpAny_pure ?_));refine wpAny_bind (wpAny_newObj_type (wpAny_pure ⟨_,rfl,"set_iterator",_,⟨_,rl _ rfl,rfl⟩,sl_sit_next.lookup,?_⟩));have sz:(s.heap.push {cls:=.type "tuple",data:=.seq (ps.map fun(i:Nat)=>rawInt i).toArray}).objs.size=s.heap.objs.size+ 1:=Rl ..;refine h _ d' (s.heap.push {cls:=.type "tuple",data:=.seq (ps.map fun(i:Nat)=>rawInt i).toArray}).objs.size [(s.heap.push {cls:=.type "tuple",data:=.seq (ps.map fun(i:Nat)=>rawInt i).toArray}).objs.size,a,s.heap.objs.size] (ps.map fun i=>(es.getD i (0,.none)).2) _
    (fun b o e=>gf _ (gf _ e)) (by rw[sz];exact RP _) (fun b hb=>?_) ?_ (fun A hA=>AN (c:=0) hA pm hd hf (by rw[sz];exact xy (SD la)) (by rw[sz];exact xy (SK _)))
    ⟨rl _ rfl,gf _ ho',gf _ (rl _ rfl)⟩
   ·simp only[uc,Qy,or_false]at hb;rcases hb with z|z|z
    ·exact .inr (by rw[z,sz];exact RP _)
    ·exact .inl z
    ·exact .inr (Tu z.symm)
   ·exact(pm.map _).trans (by rw[BF])
  ·rw[gm,pm.length_eq,RI];exact fits_of_scanBound hb
end
theorem uw{α:Type}[DecidableEq α]:∀{l m:List α},l.Nodup->(∀x∈l,x∈m)->m.length<=l.length->m.Perm l
 |[],m,_,_,h=>by
  have e:m=[]:=Rr (Nat.le_zero.mp h);rw[e]
 |x::l,m,nd,sub,h=>by
  rw[Rh]at nd;have hx:=sub x xl;have pm:=Wh hx;refine pm.trans (YW x (uw nd.2 (fun y hy=>?_) ?_))
  ·have hy':=sub y (xj _ hy);exact(Wi (show y≠x from fun z=>nd.1 (z▸hy))).mpr hy'
  ·have:=pm.length_eq;rw[QL]at this h;omega
theorem rJ(val:Nat->Int):∀i,(firstMet val i).Nodup
 |0=>VZ
 |i+ 1=>by
  rw[Wv];unfold step_dedup;have ih:=rJ val i;by_cases h:List.any (firstMet val i) (·==val i)
  ·rw[if_pos h];exact ih
  ·rw[if_neg h,RU];refine⟨ih,by simp,fun x hx y hy e=>h ?_⟩;rw[Te];refine⟨x,hx,?_⟩;have e2:=tw.mp hy;rw[e,e2,beq_self_eq_true]
theorem xP(val:Nat->Int)(i:Nat)(k:Int):k∈firstMet val i↔∃j,j<i/\val j=k:=by
 have h:=firstMet_any val i k;rw[Su,Te,Te]at h;constructor
 ·intro z;obtain⟨x,hx,e⟩:=h.mp ⟨k,z,by simp⟩;obtain⟨j,hj,ej⟩:=QE.mp hx;exact⟨j,RD.mp hj,by rw[ej];simpa using e⟩
 ·rintro⟨j,hj,e⟩;obtain⟨x,hx,e2⟩:=h.mpr ⟨val j,QE.mpr ⟨j,RD.mpr hj,rfl⟩,by simp[e]⟩;have:x=k:=by simpa using e2
  rw[←this];exact hx
section
theorem uu:∀{l:List (Int×cT)},ElemsOf (intKind prog w) l->∃ns,IntsAre (l.map (·.2)) ns/\∀k,k∈ns↔∃e∈l,(intKind prog w).is k e.2=true
 |[],_=>⟨[],.nil,fun k=>by simp⟩
 |e::l,h=>by
  obtain⟨ns,h1,h2⟩:=uu h.tail;obtain⟨⟨k,hk,_⟩,_⟩:=h.head;obtain⟨t,et⟩:=WY (k:=k) (v:=e.2) hk;refine⟨k::ns,?_,fun j=>?_⟩
  ·rw[Qd,et];exact .cons k t h1
  ·rw[uc,h2 j];constructor
   ·rintro(z|⟨e',he,q⟩)
    ·exact⟨e,xl,by rw[z];exact hk⟩
    ·exact⟨e',xj _ he,q⟩
   ·rintro⟨e',he,q⟩;rcases uc.mp he with z|z
    ·rw[z]at q;exact .inl ((intKind prog w).inj e.2 j k q hk)
    ·exact .inr ⟨e',z,q⟩
theorem Ej{vs us:List cT}(pm:vs.Perm us)(h:IntsAre us ns):∃ms,IntsAre vs ms/\ms.Perm ns:=by
 induction pm generalizing ns with
 |nil=>exact⟨ns,h,.refl _⟩
 |cons x p ih=>
  cases h with
  |cons n t hr=>
   obtain⟨ms,h1,h2⟩:=ih hr;exact⟨n::ms,.cons n t h1,h2.cons n⟩
 |swap x y l=>
  cases h with
  |cons n t hr=>
   cases hr with
   |cons m u hr=>exact⟨_,.cons m u (.cons n t hr),V4 ..⟩
 |trans p q ih1 ih2=>
  obtain⟨ms,h1,h2⟩:=ih2 h;obtain⟨ks,h3,h4⟩:=ih1 h1;exact⟨ks,h3,h4.trans h2⟩
theorem GY{Q:Bool->lr->Prop}(hT:s.TypeIs (.ref a) "set")(h:Q false s):ni (model prog w) A (Yj (.ref a)) Q E s:=by
 show ni _ _ (specialOf (.ref a) "__len__" >>= _) _ _ s;refine wpAny_bind (wpAny_specialOf hT PySem.F.slot_set_len.lookup ?_);generalize hid:("set.__len__":String)=id0
 wp_delta
 rw[show splitId id0=some ("set","__len__")from by subst hid;decide +kernel];subst hid;refine wpAny_bind (wpAny_isInstance (T:="set") (b:=true) hT (by rw[TM];kernel_rfl) ?_);refine VI (fun z=>absurd z (by decide)) (fun _=>?_);refine VI (fun _=>?_) (fun z=>absurd (by decide +kernel) z);exact wpAny_bind (wpAny_typeOf hT (wpAny_pure h))
theorem enters{id:String}{B:QU}{args:Args}(he:SY UJ id=some B)(hp:V2 id=true)(h:ni (model prog w) A.in1 (B args) (fun f s1=>match f with| .done f=>R (.ok f) s1| .again c=>c.quiet=true/\QW (model prog w) A c R s1) (fun e s1=>R (.error e) s1) s):QW (model prog w) A (.builtin id args) R s:=
 codeAny_builtin he (by rw[Around.under_plainId hp];exact h)
theorem zH{R:List cT->lr->Prop}(hh:A.handled=none)(x:SetI prog w s.heap a S n)(h:∀(h':Qg) (d':Ys) (tk:Nat) (vs:List cT) (ns:List Int),(∀b o,s.heap.get? b=some o->h'.get? b=some o)->IntsAre vs ns->ns.length=n->(∀k,k∈ns↔S k=true)->R vs {s with heap:=h',drawn:=d',toks:=tk}):
  ni (model prog w) A (collect (.ref a)) R E s:=by
 obtain⟨o,es,ep,t,ho,hx,hd,he,hm,hb,hf,hn,tb⟩:=x;have la:=vc ho;unfold collect;refine wpAny_bind (wpAny_runValue (enters entry_proto_collect' PySem.F.plain_proto_collect (wpAny_bind (wpAny_newObj_type (wpAny_pure ⟨plainId_quiet Vv _,enters entry_list_iadd' Vv ?_⟩)))));have hS1:(s.heap.push {cls:=.type "list",data:=.seq ([]:List cT).toArray}).get? s.heap.objs.size=some {cls:=.type "list",data:=.seq #[]}:=rl _ rfl;have ho1:(s.heap.push {cls:=.type "list",data:=.seq ([]:List cT).toArray}).get? a=some o:=gf _ ho;have sz1:(s.heap.push {cls:=.type "list",data:=.seq ([]:List cT).toArray}).objs.size=s.heap.objs.size+ 1:=Rl ..;have kp1:∀b ob,s.heap.get? b=some ob->(s.heap.push {cls:=.type "list",data:=.seq ([]:List cT).toArray}).get? b=some ob:=fun b ob e=>gf _ e;show ni _ A.in1 (Yk (.ref s.heap.objs.size) (.ref a) (.ref s.heap.objs.size)) _ _ _;generalize s.heap.push {cls:=.type "list",data:=.seq ([]:List cT).toArray}=H1 at hS1 ho1 sz1 kp1⊢;show ni _ _ (typeOf (.ref a) >>= _) _ _ _;refine wpAny_bind (wpAny_typeOf (T:="set") ⟨o,ho1,hx.1⟩ ?_);have n1:Vp (.ref s.heap.objs.size) (.ref a)=false:=by simp[Vp,RC la]
 have n2:(RL "set"==RL "list")=false:=by decide
 have n3:(RL "set"==RL "tuple")=false:=by decide
 simp only[n1,n2,n3,Wt,Tz,if_false];refine wpAny_bind (Im (s:={s with heap:=H1}) (A:=A.in1) hh ho1 hx hd hf hb tb fun h2 d2 I fp vs St k2 lI fpk pm W st=>?_);refine wpAny_bind (wpAny_holding (GY (s:={s with heap:=h2,drawn:=d2}) ⟨o,k2 _ _ ho1,hx.1⟩ ?_));have hS2:=k2 _ _ hS1;have nf:s.heap.objs.size∉fp:=fun z=>by
  rcases fpk _ z with q|q
  ·exact absurd la (by rw[←q];exact QD _)
  ·rw[sz1]at q;exact absurd q (Nat.not_succ_le_self _)
 have hlen:vs.length=n:=by rw[pm.length_eq,gm,QI,hn]
 have nz:vs.length<=sizeLine:=by rw[hlen,←hn];exact fits_of_scanBound hb
 refine VI (fun _=>?_) (fun z=>absurd (by decide) z);refine wpAny_bind (wpAny_rule (wpAny_bind ?_));show ni _ _ (updateSeq s.heap.objs.size (·.push .none) >>= fun _=>updateSeq s.heap.objs.size (·.pop)) _ _ _;refine wpAny_bind (wpAny_updateSeq hS2 rfl ?_);have hS3:=Q7 (Rv (·.push Q4)) hS2 rfl;refine wpAny_updateSeq (hz:=by seq_fits) hS3 rfl ?_;have hS4:=Q7 (Rv (·.pop)) hS3 rfl;have oth:∀b ob,b≠s.heap.objs.size->h2.get? b=some ob->((h2.update s.heap.objs.size (Rv (·.push Q4))).update s.heap.objs.size (Rv (·.pop))).get? b=some ob:=fun b ob nb e=>(QP _ _ (QH nb)).trans ((QP _ _ (QH nb)).trans e);refine wpAny_pure ⟨plainId_quiet PySem.F.plain_extend_loop _,codeAny_extend_loopS (W A.in1 hh).toS nz _ nf _ vs.length 0 _ #[] _ rfl (Qt _) ((W A.in1 hh).frame 0 _ _ st fun b hb ob e=>oth b ob (fun z=>nf (z▸hb)) e) hS4 (ItemsOf.nil _) fun s' acc c' hmv hS' hacc=>?_⟩;apply wpAny_bind (wpAny_load hS' _);have ea:acc.toList=vs:=by
  apply Xc;intro j;rw[QV];by_cases hj:j<acc.size
  ·rw[KW hj];exact(hacc.2 j _ (KW hj)).symm
  ·rw[RF (by omega),Sx (by rw[←hacc.1];omega)]
 obtain⟨ns0,q1,q2⟩:=uu he;obtain⟨ns,q3,q4⟩:=Ej pm q1;have ln:ns.length=n:=by rw[←q3.length,hlen]
 have:=h s'.heap s'.drawn s'.toks vs ns (fun b ob e=>hmv.heap b ob (fun z=>?_) (oth b ob (xy (vc e)) (k2 b ob (kp1 b ob e)))) q3 ln (fun k=>by rw[q4.mem_iff,q2 k,hm k])
 ·obtain⟨h',g',d',t',os'⟩:=s';have eg:g'=s.gens:=hmv.gens;have eo:os'=s.os:=hmv.os;subst eg eo;show ni _ A (pure acc.toList) _ _ _;rw[ea];exact wpAny_pure this
 ·have l1:=vc e;rcases uc.mp z with z|z
  ·rw[z]at l1;exact QD _ l1
  ·rw[tw.mp z]at l1;have q:H1.objs.size<=I:=lI;rw[sz1]at q;exact absurd l1 (XT.mpr (QT (RP _) q))
end
end GX
namespace L2
open PySem PySem.Spec PyProof.Rows
def Ia(P:Qo)(w:Qu)(a:dk)(ks:List Int):HO:=.ext fun h=>GX.SetI P w h a (fun k=>ks.any (·==k)) ks.length
section
variable{X:Cx}
theorem Inv.draw{pins:List (dk×QM)}{σ:St}{H:Hp}{s:lr}(I:Inv X pins σ H s)(d:Ys):Inv X pins σ H {s with drawn:=d}:=⟨I.ok,I.os,I.bare,I.base,I.loc,I.cell,I.free,I.freeC,I.pin,I.hok,I.len⟩
theorem wH(hc:X.calm=true):cE X (.type "set") (fun xs H Q=>∃(p:dk) (ns:List Int),xs=[.ref p]/\SqL X.K H p (ns.map V.int)/\ns.length<=1000/\∀(q:dk) (ks:List Int),H q=none->ks.Nodup->(∀k,k∈ks↔k∈ns)->Q (.ref q) (upd H q (Ia X.prog X.w q ks))):=by
 intro pins s σ H xs us Q I r h;obtain⟨p,ns,rfl,hq,hz,q⟩:=h;obtain⟨u,rfl,rx⟩:=vals1 r;cases rx;obtain⟨its,rv,pl,hzz⟩:=I.list hq;have hi:IntsAre its ns:=intsAre_of rv;have hl:its.length=ns.length:=hi.length;refine GX.Ab (items:=its.toArray) (ns:=ns) (I.ok.hd hc) pl.isList (by simpa using hi) (by rw[xu,hl];unfold S9;omega) fun h' tk x kp=>?_;have sz:its.toArray.size=ns.length:=by rw[xu,hl]
 rw[sz]at x;have new:ObjOk X.prog X.w (upd H s.heap.objs.size (Ia X.prog X.w s.heap.objs.size (firstMet (fun i=>ns.getD i 0) ns.length))) h' s.heap.objs.size (Ia X.prog X.w s.heap.objs.size (firstMet (fun i=>ns.getD i 0) ns.length)):=by
  refine⟨x,?_,fun h1 h2 y k=>y.at k⟩;obtain⟨o,_,_,_,ho,_⟩:=x;exact⟨o,ho⟩
 refine⟨.ref s.heap.objs.size,_,I.laid (t':=tk) kp (oh _) new,rfl,q _ _ (I.hok.fresh (oh _)) (GX.rJ _ _) fun k=>?_⟩;rw[GX.xP];constructor
 ·rintro⟨j,hj,e⟩;rw[Qs,xi hj]at e;have e':ns[j]=k:=e;rw[←e'];exact RB hj
 ·intro hk;obtain⟨j,hj,e⟩:=SO hk;refine⟨j,hj,?_⟩;rw[Qs,xi hj];exact e
theorem qw(hc:X.calm=true):cE X (.builtin "sorted") (fun xs H Q=>∃(a:dk) (ks:List Int),xs=[.ref a]/\H a=some (Ia X.prog X.w a ks)/\ks.Nodup/\ks.length<64/\∀(l:dk) (ns:List Int),H l=none->ns.Perm ks->ns.Pairwise (·<=·)->Q (.ref l) (upd H l (.lst (ns.map V.int)))):=by
 intro pins s σ H xs us Q I r h;obtain⟨a,ks,rfl,ha,nd,hlen,q⟩:=h;obtain⟨u,rfl,rx⟩:=vals1 r;cases rx;have x:GX.SetI X.prog X.w s.heap a (fun k=>ks.any (·==k)) ks.length:=(I.hok a _ ha).1;refine GX.qW (args_sorted1 _) (GX.zH (A:=X.A.in1) (I.ok.hd hc) x fun h' d' tk vs ns hk hi hl hm=>?_);have pm:ns.Perm ks:=GX.uw nd (fun k hk=>(hm k).mpr (Te.mpr ⟨k,hk,by simp⟩)) (Tu hl);have hv:vs.length=ks.length:=by rw[hi.length,hl]
 have I1:Inv X pins σ H {s with heap:=h',drawn:=d',toks:=tk}:=(I.draw d').kept (t':=tk) hk;refine vO (s:={s with heap:=h',drawn:=d',toks:=tk}) hi (by rw[hv];exact hlen) (by rw[hv];exact QG (aD (by omega))) fun h2 out ns' e k2 he a1 a2 a3=>?_;have ln:ns'.length<=sizeLine:=by rw[a2.length_eq,hl];exact QG (aD (by omega))
 exact⟨.ref h'.objs.size,_,I1.lay_ints (tk:=tk) k2 he a1 ln,rfl,q _ ns' (I1.hok.fresh (oh _)) (a2.trans pm) a3⟩
theorem Bq(hc:X.calm=true):cE X (.type "list") (fun xs H Q=>∃(d:dk) (m:List (Int×Int)),xs=[.ref d]/\Rd H d (.dK (dI m))/\m.length<=1000/\∀(l:dk),H l=none->Q (.ref l) (upd H l (.lst ((m.map (·.1)).map V.int)))):=by
 intro pins s σ H xs us Q I r h;obtain⟨d,m,rfl,hd,hlen,q⟩:=h;obtain⟨u,rfl,rx⟩:=vals1 r;cases rx;obtain⟨z,hS,vs,rel,dd⟩:=jm I.hok hd;obtain⟨ep,hat⟩:=dd.dictAt;have hl:vs.length=m.length:=by rw[←rel.length,vv]
 refine Uc (A:=X.A) (Vo (knd:=aO X.prog X.w) (kvs:=vs) (ep:=ep) hS) (I.ok.hd hc) hat (by rw[hl];exact QG (aD (by omega))) fun h' tk acc c hk he hacc=>?_;have hi:IntsAre acc.toList (m.map (·.1)):=rf (P:=X.prog) (w:=X.w) rel (by rw[QI];exact hacc.1) fun j v e=>hacc.2 j v (by rw[←QV];exact e);exact⟨.ref s.heap.objs.size,_,I.lay_ints (tk:=tk) (e:=c) hk he hi (by rw[gm];exact QG (aD (by omega))),rfl,q _ (I.hok.fresh (oh _))⟩
end
end L2
namespace GX
open PySem PyProof.Rows
section
variable{prog:Qo}{w:Qu}{A:QR}{E:cT->lr->Prop}{s:lr}{I:dk}{fp wr:List dk}{N:Nat}{P:Nat->cT->Prop}{St:Nat->Qg->Prop}
end
end GX
namespace L2
open PySem PySem.Spec PyProof.Rows
variable{X:Cx}{H:Hp}
section
theorem vw:∀{vs:List cT} {ns:List Int},IntsAre vs ns->∃ps:List (Int×TQ),vs=ps.map (fun p=>Ts p.1 p.2)/\ps.map (·.1)=ns
 |_,_,.nil=>⟨[],rfl,rfl⟩
 |_,_,.cons n t h=>by
  obtain⟨ps,e1,e2⟩:=vw h;exact⟨(n,t)::ps,by rw[Qd,←e1],by rw[Qd,e2]⟩
theorem IH{ps:List (Int×TQ)}{ns:List Int}(en:ps.map (·.1)=ns){j:Nat}(hj:j<ps.length):numAt ps.toArray j∈ns/\∀z∈ns,∃i,i<=ps.length-1/\numAt ps.toArray i=z:=by
 have na:∀i (hi:i<ps.length),numAt ps.toArray i=(ps[i]).1:=fun i hi=>by simp[numAt,hi]
 constructor
 ·rw[na j hj,←en];exact QZ (RB hj)
 ·intro z hz;rw[←en]at hz;obtain⟨p,hp,e⟩:=QE.mp hz;obtain⟨i,hi,e2⟩:=SO hp;exact⟨i,by omega,by rw[na i hi,e2,e]⟩
theorem Fj(hc:X.calm=true):cE X (.builtin "min") (fun xs H Q=>∃(p:dk) (ns:List Int),xs=[.ref p]/\SqL X.K H p (ns.map V.int)/\ns≠[]/\∀b,b∈ns->(∀z∈ns,b<=z)->Q (.int b) H):=by
 intro pins s σ H xs us Q I r h;obtain⟨p,ns,rfl,hq,hne,q⟩:=h;obtain⟨u,rfl,rx⟩:=vals1 r;cases rx;obtain⟨its,rv,pl,hz⟩:=I.list hq;obtain⟨ps,e1,e2⟩:=vw (intsAre_of rv);have ei:intItems ps.toArray=its.toArray:=by rw[e1];simp[intItems]
 have lp:0<ps.length:=by
  cases ps with
  |nil=>exact absurd e2.symm hne
  |cons _ _=>exact Nat.succ_pos _
 refine min_intList (xs:=ps.toArray) (I.ok.hd hc) (by rw[ei];exact pl.isList) (by rw[xu];exact lp) fun v h' tk hv kp=>?_;obtain⟨b1,b2⟩:=argBest_lt (numAt ps.toArray) (ps.toArray.size-1);rw[xu]at b1 b2 hv;obtain⟨t,et⟩:=intItems_at hv;obtain⟨m1,m2⟩:=IH e2 (show argBest (fun i j=>decide (numAt ps.toArray i<numAt ps.toArray j)) (ps.length-1)<ps.length by omega);refine⟨.int _,H,I.kept (t':=tk) kp,⟨t,et⟩,q _ m1 fun z hz=>?_⟩;obtain⟨i,hi,e⟩:=m2 z hz;rw[←e];exact b2 i hi
abbrev Dcs(H:Hp):List V->List (List (Int×Int))->Prop:=Paired fun x m=>∃d,x=.ref d/\Rd H d (.dK (dI m))
theorem Dcs.get{H:Hp}:∀{xs:List V} {ms:List (List (Int×Int))} {i:Nat} {x:V},Dcs H xs ms->xs[i]?=some x->∃m,ms[i]?=some m/\∃d,x=.ref d/\Rd H d (.dK (dI m))
 |_,_,_,_,.nil,e=>by simp at e
 |_,_,0,_,.cons r _,e=>by simp at e;subst e;exact⟨_,rfl,r⟩
 |_,_,i+ 1,x,.cons _ t,e=>by
  obtain⟨p,h1,h2⟩:=Dcs.get (i:=i) (x:=x) t (by simpa using e);exact⟨p,by simpa using h1,h2⟩
end
section
theorem Inv.thaw{pins:List (dk×QM)}{σ:St}{s:lr}{a:dk}{o:QM}{kvs:List (Key×V)}(I:Inv X pins σ H s)(h:H a=some (.frz o (.dK kvs)))(n1:∀xs,X.H₀ a≠some (.tup xs))(n2:∀o u,X.H₀ a≠some (.frz o u))(n3:∀ps,X.H₀ a≠some (.tbl ps)):Inv X pins σ (upd H a (.dK kvs)) s:=by
 have ne:∀b,H b=none->b≠a:=fun b q z=>by rw[z,h]at q;cases q
 have b:=I.base;refine⟨I.ok,I.os,I.bare,⟨b.keep,b.slot,fun c oc e n x=>?_,b.there,fun c xs e=>?_,fun c oc u e=>?_,fun c ps e=>?_⟩,I.loc,I.cell,by rw[aj (ne _ I.free)];exact I.free,fun x c z=>by rw[aj (ne _ (I.freeC x c z))];exact I.freeC x c z,
  fun p hp=>let ⟨p1,p2,p3⟩:=I.pin p hp;⟨p1,by rw[aj (ne _ p2)];exact p2,p3⟩,fun c u e=>?_,I.len⟩
 ·have q:=b.free c oc e n x;rw[aj (ne _ q)];exact q
 ·have nc:c≠a:=fun z=>n1 _ (z▸e);rw[aj nc];exact b.tups c xs e
 ·have nc:c≠a:=fun z=>n2 _ _ (z▸e);rw[aj nc];exact b.frzs c oc u e
 ·have nc:c≠a:=fun z=>n3 _ (z▸e);rw[aj nc];exact b.tbls c ps e
 ·by_cases hc:c=a
  ·subst hc;rw[af]at e;cases e;exact(I.hok c _ h).2
  ·rw[aj hc]at e;refine(I.hok c u e).stay (fun _ _ _ q=>q) (fun d q=>?_) fun d xs q=>?_
   ·rw[aj (fun z=>by rw[z,h]at q;cases q)];exact q
   ·rw[aj (fun z=>by rw[z,h]at q;cases q)];exact q
def Lg(t:TS):TS:=fun D σ H=>∃a kvs,H a=some (.dK kvs)/\t {D with nx:=fun σ' H'=>(∃o,H' a=some (.frz o (.dK kvs)))/\D.nx σ' (upd H' a (.dK kvs)),rt:=fun v H'=>(∃o,H' a=some (.frz o (.dK kvs)))/\D.rt v (upd H' a (.dK kvs))} σ H
theorem Jc{st:QB}{t:TS}(h:PS X st t):PS X st (Lg t):=by
 intro pins s σ H D I hw;obtain⟨a,kvs,ha,ht⟩:=hw;have n1:∀xs,X.H₀ a≠some (.tup xs):=fun xs e=>by have:=I.base.tups a xs e;rw[ha]at this;cases this
 have n2:∀o u,X.H₀ a≠some (.frz o u):=fun o u e=>by have:=I.base.frzs a o u e;rw[ha]at this;cases this
 have n3:∀ps,X.H₀ a≠some (.tbl ps):=fun ps e=>by obtain⟨m,q⟩:=I.base.tbls a ps e;rw[ha]at q;cases q
 refine thn (h pins s σ H _ I ht) fun f s1 q=>?_;cases f with
 |next=>
  obtain⟨σ',H',I',⟨o,e⟩,n⟩:=q;exact⟨σ',_,I'.thaw e n1 n2 n3,n⟩
 |brk=>exact q
 |cont=>exact q
 |ret u=>
  obtain⟨v,σ',H',I',r,⟨o,e⟩,n⟩:=q;exact⟨v,σ',_,I'.thaw e n1 n2 n3,r,n⟩
end
mutual
inductive Dp (K:cw) (H:Hp):V->Rp->Prop
 |none:Dp K H .non .none
 |bool (b:Bool):Dp K H (.bl b) (.bool b)
 |int (i:Int):Dp K H (.int i) (.int i)
 |str (x:pe):Dp K H (.str x) (.str x)
 |tup {a:dk} {xs:List V} {ds:List Rp}:SqT K H a xs->Dps K H xs ds->Dp K H (.ref a) (.tuple ds)
inductive Dps (K:cw) (H:Hp):List V->List Rp->Prop
 |nil:Dps K H [] []
 |cons {x:V} {xs:List V} {d:Rp} {ds:List Rp}:Dp K H x d->Dps K H xs ds->Dps K H (x::xs) (d::ds)
end
def SmT(K:cw)(H H':Hp):Prop:=∀a xs,SqT K H a xs->SqT K H' a xs
theorem SmT.same{K:cw}{H H':Hp}(e:Same H H'):SmT K H H':=by
 rintro a xs ((h|⟨o,h⟩)|h)
 ·exact .inl (.inl (e _ _ h))
 ·exact .inl (.inr ⟨o,e _ _ h⟩)
 ·exact .inr h
section
variable{X:Cx}{pins:List (dk×QM)}{σ:St}{H:Hp}{s:lr}
mutual
theorem Dp.reads(I:Inv X pins σ H s):∀{x:V} {d:Rp} {u:cT},Dp X.K H x d->RelV x u->∃as,Reads s.heap u d as
 |_,_,_,.none,r=>by cases r;exact⟨_,.none⟩
 |_,_,_,.bool b,r=>by cases r;exact⟨_,.bool b⟩
 |_,_,_,.int i,r=>by obtain⟨t,rfl⟩:=r;exact⟨_,.int i t⟩
 |_,_,_,.str z,r=>by obtain⟨t,rfl⟩:=r;exact⟨_,.str z t⟩
 |_,_,_,.tup h t,r=>by
  cases r;obtain⟨its,rv,⟨o,e,c,n,dd⟩,_⟩:=I.tuple h;obtain⟨as,q⟩:=Dps.reads I t rv;exact⟨_,.tuple e c dd (by simpa using q)⟩
theorem Dps.reads(I:Inv X pins σ H s):∀{xs:List V} {ds:List Rp} {us:List cT},Dps X.K H xs ds->Vals xs us->∃as,ReadsAll s.heap us ds as
 |_,_,_,.nil,r=>by cases r;exact⟨_,.nil⟩
 |_,_,_,.cons h t,r=>by
  cases r with
  |cons r1 r2=>
   obtain⟨as,q⟩:=Dp.reads I h r1;obtain⟨bs,q2⟩:=Dps.reads I t r2;exact⟨_,.cons q q2⟩
end
def Dl(K:cw)(H:Hp)(x:V)(d:Rp):Prop:=Dp K H x d∨∃a xs ds,x=.ref a/\d=.list ds/\SqL K H a xs/\Dps K H xs ds
theorem Dl.reads(I:Inv X pins σ H s){x:V}{d:Rp}{u:cT}(h:Dl X.K H x d)(r:RelV x u):∃as,Reads s.heap u d as:=by
 rcases h with h|⟨a,xs,ds,rfl,rfl,h,t⟩
 ·exact Dp.reads I h r
 ·cases r;obtain⟨its,rv,⟨o,n,e,c,_,dd⟩,_⟩:=I.list h;obtain⟨as,q⟩:=Dps.reads I t rv;exact⟨_,.list e c dd (by simpa using q)⟩
def LA(K:cw):R2:=fun x y H Q=>∃d e,Dl K H x d/\Dl K H y e/\d.canLay0=true/\e.canLay0=true/\min d.depth e.depth<=60/\Q (.bl (d.eqv e)) H
theorem IG(hu:X.A.units+ 64<RM):OpR X (compareOp .Eq) (LA X.K):=by
 intro pins s σ H x y v u Q I rx ry h;obtain⟨d,e,h1,h2,c1,c2,dp,q⟩:=h;obtain⟨as,r1⟩:=h1.reads I rx;obtain⟨bs,r2⟩:=h2.reads I ry;exact SeqAt.compareEq_reads r1 r2 c1 c2 (by omega) ⟨.bl _,H,I,rfl,q⟩
def JR(K:cw)(neg:Bool):R2:=fun x y H Q=>∃a xs ds d,y=.ref a/\(SqL K H a xs∨SqT K H a xs)/\Dps K H xs ds/\Dp K H x d/\PyData.canLayAll0 ds=true/\d.canLay0=true/\d.depth<=60/\Q (.bl (if neg then !(ds.any fun z=>z.eqv d)else ds.any fun z=>z.eqv d)) H
theorem PH(hu:X.A.units+ 64<RM):OpR X (compareOp .In) (JR X.K false):=by
 intro pins s σ H x y v u Q I rx ry h;obtain⟨a,xs,ds,d,rfl,hs,hd,hx,c1,c2,dp,q⟩:=h;obtain⟨bs,r2⟩:=hx.reads I rx;cases ry;rcases hs with hs|hs
 ·obtain⟨as,r1⟩:=Dl.reads I (x:=.ref a) (u:=.ref a) (.inr ⟨a,xs,ds,rfl,rfl,hs,hd⟩) rfl;exact SeqAt.in_list_reads r1 r2 c1 c2 (by omega) ⟨.bl _,H,I,rfl,q⟩
 ·obtain⟨as,r1⟩:=Dp.reads I (x:=.ref a) (u:=.ref a) (.tup hs hd) rfl;exact SeqAt.in_tuple_reads r1 r2 c1 c2 (by omega) ⟨.bl _,H,I,rfl,q⟩
theorem Eo(hu:X.A.units+ 64<RM):OpR X (compareOp .NotIn) (JR X.K true):=by
 intro pins s σ H x y v u Q I rx ry h;obtain⟨a,xs,ds,d,rfl,hs,hd,hx,c1,c2,dp,q⟩:=h;obtain⟨bs,r2⟩:=hx.reads I rx;cases ry;rcases hs with hs|hs
 ·obtain⟨as,r1⟩:=Dl.reads I (x:=.ref a) (u:=.ref a) (.inr ⟨a,xs,ds,rfl,rfl,hs,hd⟩) rfl;exact SeqAt.notIn_list_reads r1 r2 c1 c2 (by omega) ⟨.bl _,H,I,rfl,q⟩
 ·obtain⟨as,r1⟩:=Dp.reads I (x:=.ref a) (u:=.ref a) (.tup hs hd) rfl;exact SeqAt.notIn_tuple_reads r1 r2 c1 c2 (by omega) ⟨.bl _,H,I,rfl,q⟩
end
theorem vY{K:cw}{x y:V}{H:Hp}{Q:VK}{d:Rp}(h1:Dl K H x d)(h2:Dl K H y d)(c:d.canLay0=true)(dp:d.depth<=60)(q:Q (.bl true) H):LA K x y H Q:=
 ⟨d,d,h1,h2,c,c,by omega,by rw[SeqAt.eqv_refl d c];exact q⟩
theorem aB{H:Hp}{l:dk}{o:HO}(h:H l=none):Same H (upd H l o):=fun b u e=>by rw[aj (ai e h)];exact e
def But(d:dk)(H H':Hp):Prop:=∀b,b≠d->H' b=H b
theorem But.upd{d:dk}{H:Hp}{o:HO}:But d H (L2.upd H d o):=fun b h=>aj h
theorem But.same{d:dk}{B H H':Hp}(e:But d H H')(s:Same B H)(h:B d=none):Same B H':=fun b o hb=>by rw[e b (ai hb h)];exact s b o hb
theorem But.at{d b:dk}{H H':Hp}{o:Option HO}(e:But d H H')(n:b≠d)(h:H b=o):H' b=o:=by rw[e b n];exact h
theorem But.of{d b:dk}{H H':Hp}{o u:HO}(e:But d H H')(hd:H d=some u)(h:H b=some o)(n:o≠u):H' b=some o:=e.at (cR h hd n) h
def nwT(xs:List V)(H:Hp)(Q:VK):Prop:=xs.length<=sizeLine/\∀p,H p=none->Q (.ref p) (upd H p (.tup xs))
def nwL(xs:List V)(H:Hp)(Q:VK):Prop:=xs.length<=sizeLine/\∀p,H p=none->Q (.ref p) (upd H p (.lst xs))
section
variable{D:Ends}{σ:St}{H:Hp}{Q:VK}{K:cw}
theorem qq{t u:TS}(h:t {D with nx:=u D} σ H):kO t u D σ H:=h
theorem Mo{te:TE}{g:TG}{u:TS}(h:te σ H fun x H1=>g x σ H1 (u D)):kO (J1 te g) u D σ H:=h
theorem Mt{te:TE}{u:TS}(h:te σ H fun _ H1=>u D σ H1):kO (HB te) u D σ H:=h
theorem Nb{td ty tv:TE}{u:TS}(h:Co td ty tv {D with nx:=u D} σ H):kO (Co td ty tv) u D σ H:=h
theorem Ng{wi:TI}{g:TG}{tb u:TS}(h:Kb wi g tb {D with nx:=u D} σ H):kO (Kb wi g tb) u D σ H:=h
theorem MF{c:TT}{tb u:TS}(h:Bh c tb {D with nx:=u D} σ H):kO (Bh c tb) u D σ H:=h
theorem Ny{ta tv:TE}{f:pe}{u:TS}(h:HG K ta tv f {D with nx:=u D} σ H):kO (HG K ta tv f) u D σ H:=h
theorem Mw{c:TT}{te:TE}{u:TS}(h:c σ H fun b H1=>if b=true then te σ H1 D.rt else u D σ H1):kO (JZ c (ML te) Cr) u D σ H:=h
theorem Dc(I:St->Hp->Prop){t u:TS}(h2:∀σ' H',I σ' H'->u D σ' H')(h:∀N:St->Hp->Prop,(∀σ' H',I σ' H'->N σ' H')->t {D with nx:=N} σ H):kO t u D σ H:=h _ h2
theorem NF(h:D.nx σ H):Cr D σ H:=h
theorem Og{te:TE}(h:te σ H D.rt):ML te D σ H:=h
theorem LY{te:TE}(h:te σ H fun _ H1=>D.nx σ H1):HB te D σ H:=h
theorem OL{te:TE}{g:TG}(h:te σ H fun x H1=>g x σ H1 D.nx):J1 te g D σ H:=h
theorem Pl{c:TT}{t u:TS}(h:c σ H fun b H1=>if b=true then t D σ H1 else u D σ H1):JZ c t u D σ H:=h
theorem ON(h:D.bk σ H):F4 D σ H:=h
theorem MK{i:Nat}{v:V}{R:St->Hp->Prop}(h:R (σ.set i (some v)) H):uv i v σ H R:=h
theorem Mz{R:St->Hp->Prop}(h:R σ H):MS [] σ H R:=⟨rfl,h⟩
theorem Kl{t:TG}{u:TGs}{v:V}{r:List V}{R:St->Hp->Prop}(h:t v σ H fun σ' H'=>u r σ' H' R):Dz t u (v::r) σ H R:=⟨v,r,rfl,h⟩
theorem LJ{n:Nat}{t:TGs}{a:dk}{xs:List V}{R:St->Hp->Prop}(h1:SqT K H a xs)(h2:xs.length=n)(h:t xs σ H R):Jg K n t (.ref a) σ H R:=⟨a,xs,rfl,h1,h2,h⟩
theorem OP{i:Nat}{v:V}(h1:σ[i]?=some (some v))(h:Q v H):DY i σ H Q:=⟨v,h1,h⟩
theorem x_c{v:V}(h:Q v H):tC v σ H Q:=h
theorem PL{r:R2}{ta tb:TE}(h:ta σ H fun x H1=>tb σ H1 fun y H2=>r x y H2 Q):tOp r ta tb σ H Q:=h
theorem PQ{g:Int->Int->V}{i j:Int}(h:Q (g i j) H):rI0 g (.int i) (.int j) H Q:=⟨i,j,rfl,rfl,h⟩
theorem x_I{C:Int->Int->Prop}{g:Int->Int->V}{i j:Int}(hc:C i j)(h:Q (g i j) H):rI C g (.int i) (.int j) H Q:=⟨i,j,rfl,rfl,hc,h⟩
theorem O1(i j:Int):decide (V.int i=V.int j)=decide (i=j):=by
 by_cases h:i=j
 ·subst h;rw[decide_eq_true rfl,decide_eq_true rfl]
 ·rw[decide_eq_false h,decide_eq_false (fun e=>h (V.int.inj e))]
theorem Oq(i j:pe):decide (V.str i=V.str j)=decide (i=j):=by
 by_cases h:i=j
 ·subst h;rw[decide_eq_true rfl,decide_eq_true rfl]
 ·rw[decide_eq_false h,decide_eq_false (fun e=>h (V.str.inj e))]
theorem NP{i j:Int}(h:Q (.bl (decide (i=j))) H):rEq (.int i) (.int j) H Q:=⟨rfl,by rw[O1];exact h⟩
theorem OY{i j:Int}(h:Q (.bl (!decide (i=j))) H):rNe (.int i) (.int j) H Q:=⟨rfl,by rw[O1];exact h⟩
theorem Ph{i j:pe}(h:Q (.bl (decide (i=j))) H):rEq (.str i) (.str j) H Q:=⟨rfl,by rw[Oq];exact h⟩
theorem OF{i j:pe}(h:Q (.bl (!decide (i=j))) H):rNe (.str i) (.str j) H Q:=⟨rfl,by rw[Oq];exact h⟩
theorem PD(i j:Bool):decide (V.bl i=V.bl j)=(i==j):=by cases i<;>cases j<;>rfl
theorem Oe{i j:Bool}(h:Q (.bl (!(i==j))) H):rNe (.bl i) (.bl j) H Q:=⟨rfl,by rw[PD];exact h⟩
theorem M5{t:TE}{R:Bool->Hp->Prop}(h:t σ H fun x H'=>∃k,x=.bl k/\R k H'):FU t σ H R:=h
theorem NS{t:TE}{R:Bool->Hp->Prop}(h:t σ H fun x H'=>∃k,Iv K x H' k/\R k H'):Po K t σ H R:=h
theorem x_b{t:TE}{R:Bool->Hp->Prop}(h:t σ H fun x H'=>∃k,x=.bl k/\R k H'):tB t σ H R:=h
theorem MB{c:Bool}{P:Bool->Prop}(h:P c):∃k,V.bl c=.bl k/\P k:=⟨c,rfl,h⟩
theorem JN{c:Bool}{P:Bool->Prop}(h:P c):∃k,Iv K (.bl c) H k/\P k:=⟨c,rfl,h⟩
theorem NV{t u:TT}{R:Bool->Hp->Prop}(h:t σ H fun c H1=>if c=true then u σ H1 R else R false H1):OW t u σ H R:=h
theorem PF{t u:TT}{R:Bool->Hp->Prop}(h:t σ H fun c H1=>if c=true then R true H1 else u σ H1 R):tOr t u σ H R:=h
theorem OV{t:TT}{R:Bool->Hp->Prop}(h:t σ H fun c H1=>R (!c) H1):O5 t σ H R:=h
theorem Nf{ta tb:TE}(h:ta σ H fun x H1=>∃c,x=.bl c/\if c=true then tb σ H1 Q else Q (.bl false) H1):Lm ta tb σ H Q:=h
theorem OX{ta tb:TE}(h:ta σ H fun x H1=>∃c,x=.bl c/\if c=true then Q (.bl true) H1 else tb σ H1 Q):OU ta tb σ H Q:=h
theorem NL{ta:TE}(h:ta σ H fun x H1=>∃c,x=.bl c/\Q (.bl (!c)) H1):KZ ta σ H Q:=h
theorem Pj{t:TT}{ta tb:TE}(h:t σ H fun c H1=>if c=true then ta σ H1 Q else tb σ H1 Q):tIf t ta tb σ H Q:=h
theorem OZ{R:List V->Hp->Prop}(h:R [] H):AD σ H R:=h
theorem MR{ta:TE}{tr:TA}{R:List V->Hp->Prop}(h:ta σ H fun x H1=>tr σ H1 fun xs H2=>R (x::xs) H2):um ta tr σ H R:=h
theorem OS{t:TA}(h:t σ H fun xs H1=>nwT xs H1 Q):LL t σ H Q:=h
theorem NX{t:TA}(h:t σ H fun xs H1=>nwL xs H1 Q):N7 t σ H Q:=h
theorem Oa{xs:List V}(hl:xs.length<=sizeLine)(h:∀p H',H p=none->Same H H'->H' p=some (.tup xs)->Q (.ref p) H'):nwT xs H Q:=⟨hl,fun p hp=>h p _ hp (aB hp) af⟩
theorem Om{xs:List V}(hl:xs.length<=sizeLine)(h:∀p H',H p=none->Same H H'->H' p=some (.lst xs)->Q (.ref p) H'):nwL xs H Q:=⟨hl,fun p hp=>h p _ hp (aB hp) af⟩
theorem Nl(h:∀p H',H p=none->Same H H'->H' p=some (.dK (dI []))->Q (.ref p) H'):Ii σ H Q:=fun p hp=>h p _ hp (aB hp) af
theorem x_call{sp:Sp}{dvs:List V}{E:XK}{t:TA}(h:t σ H fun vs H1=>sp (vs++dvs) H1 Q E):DA sp dvs E t σ H Q:=h
theorem PJ{r:List V->Hp->VK->Prop}{t:TA}(h:t σ H fun vs H1=>r vs H1 Q):tCB r t σ H Q:=h
theorem Qb{r:V->Option Int->Option Int->Hp->VK->Prop}{te:TE}{tl th:TO}(h:te σ H fun x H1=>tl σ H1 fun l H2=>th σ H2 fun u H3=>r x l u H3 Q):tSl r te tl th σ H Q:=h
theorem Gv{R:Option Int->Hp->Prop}(h:R none H):CN σ H R:=h
theorem Lu{t:TE}{R:Option Int->Hp->Prop}(h:t σ H fun x H1=>∃i,x=.int i/\R (some i) H1):K9 t σ H R:=h
theorem Ky{c:Int}{P:Int->Prop}(h:P c):∃k,V.int c=.int k/\P k:=⟨c,rfl,h⟩
theorem Lr{a:dk}{xs:List V}{lo hi:Option Int}(h1:SqL K H a xs)(h:∀p H',H p=none->Same H H'->H' p=some (.lst (su xs lo hi))->Q (.ref p) H'):LW K (.ref a) lo hi H Q:=⟨a,xs,rfl,h1,fun p hp=>h p _ hp (aB hp) af⟩
theorem Pb{a:dk}{xs:List V}{i:Int}{v:V}(h1:SqL K H a xs)(h2:atI xs i=some v)(h:Q v H):KG K (.ref a) (.int i) H Q:=⟨a,xs,i,v,rfl,rfl,h1,h2,h⟩
theorem NR{a:dk}{xs:List V}{i:Int}{v:V}(h1:SqT K H a xs)(h2:atI xs i=some v)(h:Q v H):Jb K (.ref a) (.int i) H Q:=⟨a,xs,i,v,rfl,rfl,h1,h2,h⟩
theorem Ni{td ty:TE}(h:td σ H fun x H1=>ty σ H1 fun y H2=>∃a v,x=.ref a/\DGet H2 a y (some v)/\Q v H2):K4 td ty σ H Q:=h
theorem N1{td ty:TE}(h:ty σ H fun y H1=>td σ H1 fun x H2=>∃a o,x=.ref a/\DGet H2 a y o/\Q (.bl o.isSome) H2):O8 ty td σ H Q:=h
theorem L9{td ty tv:TE}(h:tv σ H fun v H1=>td σ H1 fun x H2=>ty σ H2 fun y H3=>∃a H4,x=.ref a/\DPut H3 a y v H4/\D.nx σ H4):Co td ty tv D σ H:=h
theorem G4{d:dk}{m:List (Int×Int)}{k n:Int}{P:Hp->Prop}(hd:H d=some (.dK (dI m)))(nd:(m.map (·.1)).Nodup)(hl:m.length<sizeLine)(h:∀H2,But d H H2->H2 d=some (.dK (dI (dh m k n)))->P H2):∃a H4,V.ref d=.ref a/\DPut H a (.int k) (.int n) H4/\P H4:=
 ⟨d,_,rfl,.inl ⟨_,GV k,hd,rfl,by rw[vv];exact hl,rfl⟩,h _ .upd (by rw[af,Gq m k n nd])⟩
theorem Pe{wi:TI}{g:TG}{tb:TS}(h:wi σ H fun J H1=>∃W:Nat->Nat->St->Hp->Prop,(∃m,W 0 m σ H1)/\∀i m σ H,W i m σ H->
 (J.stop i H/\D.nx σ H)∨(J.go i H/\∃N:St->Hp->Prop,(∀σ' H',N σ' H'->∃m',m'<m/\W (i+ 1) m' σ' H')/\∀x H',J.yld i H x H'->g x σ H' fun σ2 H2=>tb {D with nx:=N,ct:=N,bk:=D.nx} σ2 H2)):Kb wi g tb D σ H:=h
theorem Kn{tl:TE}{R:It->Hp->Prop}(h:tl σ H fun x H1=>∃a,x=.ref a/\(∃xs,SqL K H1 a xs)/\R (Itl K a) H1):FJ K tl σ H R:=h
theorem NA{a:dk}{xs:List V}{P:dk->Prop}(hd:SqL K H a xs)(h:P a):∃b,V.ref a=.ref b/\(∃xs,SqL K H b xs)/\P b:=⟨a,rfl,⟨xs,hd⟩,h⟩
theorem P7{T:String}{r:V->List V->Hp->VK->Prop}{to:TE}{t:TA}(h:to σ H fun x H1=>tyV K T x H1/\t σ H1 fun xs H2=>r x xs H2 Q):tBM K T r to t σ H Q:=h
theorem N3{T:String}{r:V->List V->Hp->VK->Prop}{to:TE}(h:to σ H fun x H1=>tyV K T x H1/\r x [] H1 Q):OH K T r to σ H Q:=h
theorem OT{a:dk}{xs:List V}{P:Prop}(hd:H a=some (.lst xs))(h:P):tyV K "list" (.ref a) H/\P:=⟨.inl ⟨rfl,_,SqL.of hd⟩,h⟩
theorem Ft{a:dk}{xs:List V}{y:V}(hd:H a=some (.lst xs))(hl:xs.length<sizeLine)(h:∀H2,But a H H2->H2 a=some (.lst (xs++[y]))->Q .non H2):tq (.ref a) [y] H Q:=⟨a,xs,y,rfl,rfl,hd,hl,h _ .upd af⟩
theorem Mc{src:List (Option Nat)}{wi:TI}{g:TG}{tt:TT}{te:TE}(h:wi σ H fun J H1=>∀D,H1 D=none->∃W:Nat->Nat->St->Hp->Prop,(∃m,W 0 m (yQ src σ) (upd H1 D (.lst [])))/\
 ∀i m σ' H',W i m σ' H'->(J.stop i H'/\Q (.ref D) H')∨(J.go i H'/\∃N:St->Hp->Prop,(∀σ2 H2,N σ2 H2->∃m',m'<m/\W (i+ 1) m' σ2 H2)/\
  ∀x H'',J.yld i H' x H''->eR g tt te D N x σ' H'')):Gx src wi g tt te σ H Q:=h
theorem Mq{a:dk}{kvs:List (Key×V)}{P:List (Key×V)->Prop}(hd:Rd H a (.dK kvs))(h:P kvs):∃p ys,[V.ref a]=[.ref p]/\Rd H p (.dK ys)/\P ys:=⟨a,kvs,rfl,hd,h⟩
end
theorem Pn{A B:Prop}(h:B):if(!true)=true then A else B:=h
theorem O3{A B:Prop}(h:A):if(!false)=true then A else B:=h
theorem HF:(0:Int)<(10:Int)^(60:Int).toNat:=Int.pow_pos (by decide)
section
variable{X:Cx}{K:cw}
theorem dX(hK:X.K=K):IxR X (Jb K):=by subst hK;exact ix_tup
theorem zX(hK:X.K=K):IxR X (KG K):=by subst hK;exact ix_list
theorem uM(hK:X.K=K):SlR X (LW K):=by subst hK;exact Kv
theorem sY(hK:X.K=K):SlR X (JO K):=by subst hK;exact LV
theorem Ba(hK:X.K=K)(hu:X.A.units+ 64<RM):OpR X (compareOp .Eq) (LA K):=by subst hK;exact IG hu
theorem JY(hK:X.K=K)(hu:X.A.units+ 64<RM):OpR X (compareOp .NotIn) (JR K true):=by subst hK;exact Eo hu
def Pp(K:cw):List V->Hp->VK->Prop:=fun xs H Q=>∃p ys,xs=[.ref p]/\(SqL K H p ys∨SqT K H p ys)/\Q (.int ys.length) H
theorem dD(hK:X.K=K):cE X (.builtin "len") (Pp K):=by subst hK;exact xx
def Cz(K:cw):List V->Hp->VK->Prop:=fun xs H Q=>∃p ys,xs=[.ref p]/\(SqL K H p ys∨SqT K H p ys)/\∀l,H l=none->Q (.ref l) (upd H l (.lst ys))
theorem uC(hK:X.K=K):cE X (.type "list") (Cz K):=by subst hK;exact xf
def F9(K:cw):List V->Hp->VK->Prop:=fun xs H Q=>∃p ys,xs=[.ref p]/\((SqL K H p ys/\∀l,H l=none->Q (.ref l) (upd H l (.tup ys)))∨(SqT K H p ys/\Q (.ref p) H))
theorem zV(hK:X.K=K):cE X (.type "tuple") (F9 K):=by subst hK;exact vJ
def PY(K:cw):List V->Hp->VK->Prop:=fun xs H Q=>∃(x:V) (t:cT) (T:String) (b:Bool),xs=[x,.ty T]/\TyOf K H x t/\VX K t (.type T)=some b/\Q (.bl b) H
theorem bZ(hK:X.K=K):cE X (.builtin "isinstance") (PY K):=by subst hK;exact yE
def FK:List V->Hp->VK->Prop:=fun xs H Q=>∃(d:dk) (kvs:List (Key×V)),xs=[.ref d]/\Rd H d (.dK kvs)/\∀p,H p=none->Q (.ref p) (upd H p (.dK kvs))
theorem ES:cE X (.type "dict") FK:=Cj
theorem wZ{es:List QC}{k:Nat}{t:TGs}{n:Nat}{pos:Sz}(hK:X.K=K)(hc:X.calm=true)(h:PGs X es t)(hn:(assignEach es X.env).length=n:=by rfl)(hst:(assignEach es X.env).findIdx? (·.1)=none:=by rfl):PG X (.Tuple es k pos) (Jg K n t):=by subst hK;exact ND hc h hn hst
theorem bx{tg l:QC}{tl:TE}(hK:X.K=K)(hl:PE X l tl):PI X tg l (FJ K tl):=by subst hK;exact Jm hl
theorem Di{tg l:QC}{tl:TE}(hK:X.K=K)(hl:PE X l tl):PI X tg l (Mh K tl):=by subst hK;exact Nw hl
theorem dw{o e:QC}{to:TE}{t:TA}{apos cpos:Sz}(hK:X.K=K)(h:PE X (.Call (.Attribute o "append" apos) [e] [] cpos) (tBM X.K "list" tq to t)):PE X (.Call (.Attribute o "append" apos) [e] [] cpos) (tBM K "list" tq to t):=by subst hK;exact h
end
section
variable{σ:St}{H:Hp}{Q:VK}{K:cw}
theorem G0{a:dk}{xs:List V}(hd:SqL K H a xs)(h:∀p H',H p=none->Same H H'->H' p=some (.lst xs)->Q (.ref p) H'):Cz K [.ref a] H Q:=⟨a,xs,rfl,.inl hd,fun p hp=>h p _ hp (aB hp) af⟩
end
theorem bT{H H':Hp}{a:dk}{u:HO}(s:Same H H')(h:Rd H a u):Rd H' a u:=by
 rcases h with h|⟨o,h⟩
 ·exact .inl (s _ _ h)
 ·exact .inr ⟨o,s _ _ h⟩
theorem aP{α:Type}{ls:List α}{i:Nat}{n:α}(h:ls[i]?=some n):ls.take (i+ 1)=ls.take i++[n]:=by
 rw[Yd,h];rfl
theorem iP{ms:List Int}{i:Nat}{x:V}(h:(ms.map V.int)[i]?=some x):∃n:Int,ms[i]?=some n/\x=.int n:=by
 rw[CA]at h;cases e:ms[i]? with
 |none=>rw[e]at h;cases h
 |some n=>rw[e]at h;exact⟨n,rfl,(Qj h).symm⟩
theorem CO{α:Type}{xs:List α}{i:Int}{v:α}(h0:0<=i)(h:xs[i.toNat]?=some v):atI xs i=some v:=by
 obtain⟨n,rfl⟩:=Int.eq_ofNat_of_zero_le h0;exact eD h
abbrev Nm:=Int×Int×Int
def nmD(p:Nm):Rp:=.tuple [.int p.1,.int p.2.1,.int p.2.2]
def NmAt(H:Hp)(x:V)(p:Nm):Prop:=∃a,x=.ref a/\H a=some (.tup [.int p.1,.int p.2.1,.int p.2.2])
abbrev Nms(H:Hp):List V->List Nm->Prop:=Paired (NmAt H)
def SmH(H H':Hp):Prop:=∀a xs,H a=some (.tup xs)->H' a=some (.tup xs)
theorem SmH.trans{H1 H2 H3:Hp}(a:SmH H1 H2)(b:SmH H2 H3):SmH H1 H3:=fun _ _ h=>b _ _ (a _ _ h)
theorem SmH.same{H H':Hp}(e:Same H H'):SmH H H':=fun _ _ h=>e _ _ h
theorem SmH.upd{H:Hp}{l:dk}{o:HO}(h1:∀xs,H l≠some (.tup xs)):SmH H (upd H l o):=fun a xs h=>by
 have:a≠l:=fun e=>h1 xs (e▸h);rw[aj this];exact h
theorem SmH.lst{H:Hp}{l:dk}{o:HO}{ys:List V}(h:H l=some (.lst ys)):SmH H (L2.upd H l o):=.upd (fun _ z=>by rw[h]at z;cases z)
theorem NmAt.up{H H':Hp}(m:SmH H H'){x:V}{p:Nm}(h:NmAt H x p):NmAt H' x p:=by
 obtain⟨a,e,h⟩:=h;exact⟨a,e,m _ _ h⟩
theorem Nms.up{H H':Hp}(m:SmH H H'):∀{xs:List V} {ns:List Nm},Nms H xs ns->Nms H' xs ns
 |_,_,.nil=>.nil
 |_,_,.cons r t=>.cons (r.up m) (Nms.up m t)
theorem Nms.get{H:Hp}:∀{xs:List V} {ns:List Nm} {i:Nat} {x:V},Nms H xs ns->xs[i]?=some x->∃p,ns[i]?=some p/\NmAt H x p
 |_,_,_,_,.nil,e=>by simp at e
 |_,_,0,_,.cons r _,e=>by simp at e;subst e;exact⟨_,rfl,r⟩
 |_,_,i+ 1,x,.cons _ t,e=>by
  obtain⟨p,h1,h2⟩:=Nms.get (i:=i) (x:=x) t (by simpa using e);exact⟨p,by simpa using h1,h2⟩
theorem Nms.len{H:Hp}{xs:List V}{ns:List Nm}(h:Nms H xs ns):xs.length=ns.length:=Qk h
theorem Nms.at{H:Hp}{xs:List V}{ns:List Nm}{i:Nat}(h:Nms H xs ns)(hi:i<ns.length):∃x,xs[i]?=some x/\NmAt H x ns[i]:=by
 have hx:i<xs.length:=by rw[h.len];exact hi
 obtain⟨p,e,r⟩:=h.get (xi hx);rw[xi hi]at e;cases e;exact⟨_,xi hx,r⟩
theorem Nms.snoc{H:Hp}:∀{xs:List V} {ns:List Nm} {x:V} {p:Nm},Nms H xs ns->NmAt H x p->Nms H (xs++[x]) (ns++[p])
 |_,_,_,_,.nil,h=>.cons h .nil
 |_,_,_,_,.cons r t,h=>.cons r (Nms.snoc t h)
theorem NmAt.dp{K:cw}{H:Hp}{x:V}{p:Nm}(h:NmAt H x p):Dp K H x (nmD p):=by
 obtain⟨a,rfl,h⟩:=h;exact .tup (SqT.of h) (.cons (.int _) (.cons (.int _) (.cons (.int _) .nil)))
theorem FZ(p:Nm):(nmD p).canLay0=true:=rfl
section
variable{σ:St}{H:Hp}{Q:VK}{K:cw}{X:Cx}
theorem CZ(hK:X.K=K):IxR X (rIx K):=by subst hK;exact Nr
theorem Od{a:dk}{xs:List V}{i:Int}{v:V}(h1:SqL K H a xs∨SqT K H a xs)(h2:atI xs i=some v)(h:Q v H):rIx K (.ref a) (.int i) H Q:=by
 rcases h1 with h1|h1
 ·exact .inl ⟨a,xs,i,v,rfl,rfl,h1,h2,h⟩
 ·exact .inr (.inl ⟨a,xs,i,v,rfl,rfl,h1,h2,h⟩)
theorem JV{a:dk}{xs:List V}(hd:SqL K H a xs∨SqT K H a xs)(h:Q (.int xs.length) H):Pp K [.ref a] H Q:=⟨a,xs,rfl,hd,h⟩
end
theorem FO{P:Prop}(h:P):V.non=V.non/\P:=⟨rfl,h⟩
section
variable{X:Cx}{CX:CXT}{k:Nat}{f C:dk}{fd:xw}{ps:List pe}{sp:Sp}{dvs:List V}{ds:List cT}{E:XK}{x m:pe}{p pos apos:Sz}{e o:QC}{es:List QC}{ta:TE}{t:TA}
structure ClsFn(K:cw)(C:dk)(m:pe)(f:dk):Prop where
 ga:W2 K (.ref C) "__getattribute__"=some (some (.builtin "type.__getattribute__"))
 rd:PySem.W.readsIn K C (.type "type")=true
 at_:PySem.W.findCls K (.ref C) (.type "type") m=some (.val (.ref f))
 hd:Ve (.ref f)=true
 kp:R9 K (.ref f)=true
theorem HI{pl:Vd Bool}(hg:Gl X x)(hm:X.mg x=some (.ref C))(c:ClsFn X.K C m f)(F:FnOk X.prog X.w X.K X.mg X.base CX0 k f fd ps sp)(hb:Binds X.K fd ps [])(hr:Room k X.A)(ha:PA X (e::es) t)
  (hdb:(x==("__debug__":pe))=false:=by decide)
  (hst:starEach (e::es) X.env=(false,eval e X.env)::starEach es X.env:=by rfl) (hpl:(backTo pos (starEach es X.env)).any (·.1)=false:=by rfl)
  (ht:eval (.Call (.Attribute (.Name x p) m apos) (e::es) [] pos) X.env=(do
   let ov←eval (.Name x p) X.env
   Ug apos.atName
   let (f,first)←holding [ov] (getMethod ov m pl)
   callWith pos f first (backTo pos (starEach (e::es) X.env)) (backToKw pos (keywordEach [] X.env))):=by rfl):
  PE X (.Call (.Attribute (.Name x p) m apos) (e::es) [] pos) (DA sp [] E0 t):=by
 intro pins s σ H Q I h;refine R4 (pl:=pl) (thn (Cp (v:=.ref C) hg hm rfl hdb pins s σ H (fun v H1=>v=.ref C/\t σ H1 fun vs H2=>sp (vs++[]) H2 Q E0) I ⟨rfl,h⟩) fun u s1 zz=>?_) ht;obtain⟨x,H1,I1,rx,ex,q⟩:=zz;subst ex;obtain rfl:u=zt C:=rx;refine PySem.W.method_cls I1.kIn c.ga (PySem.W.cls_value I1.kIn c.rd c.at_ c.hd ?_);refine So (first:=[]) (h₀:=X.base) I.ok.mod.kin c.kp (thn (ha pos pins _ σ H1 _ (I1.tok _) q) fun us s2 ⟨vs,H2,I2,r,q2⟩=>⟨I2.kIn,?_⟩) hst hpl;exact lW (us:=us) (vs:=vs) F hr hb .nil nZ I2 r q2
def MOk(P:Qo)(w:Qu)(K:cw)(mg:pe->Option cT)(base:Qg)(k:Nat)(m:pe)(ms:List (dk×Sp)):Prop:=
 ∀cs∈ms,∃f fd ps,Cls K cs.1/\Meth K cs.1 m f/\FnOk P w K mg base CX0 k f fd ps cs.2/\Binds K fd ps []
theorem MOk.nil{P:Qo}{w:Qu}{K:cw}{mg:pe->Option cT}{base:Qg}:MOk P w K mg base k m []:=fun _ h=>nomatch h
theorem MOk.cons{P:Qo}{w:Qu}{K:cw}{mg:pe->Option cT}{base:Qg}{ms:List (dk×Sp)}(c:Cls K C)(hm:Meth K C m f)(F:FnOk P w K mg base CX0 k f fd ps sp)(hb:Binds K fd ps [])(r:MOk P w K mg base k m ms):MOk P w K mg base k m ((C,sp)::ms):=by
 intro cs h;rcases uc.mp h with rfl|h
 ·exact⟨f,fd,ps,c,hm,F,hb⟩
 ·exact r cs h
def mtS(ms:List (dk×Sp))(m:pe)(t:TA)(σ:St)(x:V)(H:Hp)(Q:VK):Prop:=
 ∃cs∈ms,∃a dx fs,x=.ref a/\H a=some (.ins cs.1 dx fs)/\fs.lookup m=none/\t σ H fun vs H2=>cs.2 (x::(vs++[])) H2 Q E0
def BQ(ms:List (dk×Sp))(m:pe)(ta:TE)(t:TA):TE:=fun σ H Q=>ta σ H fun x H1=>mtS ms m t σ x H1 Q
theorem dU{pl:Vd Bool}{ms:List (dk×Sp)}(M:MOk X.prog X.w X.K X.mg X.base k m ms)(he:PE X o ta)(hr:Room k X.A)(ha:PA X (e::es) t)
  (hst:starEach (e::es) X.env=(false,eval e X.env)::starEach es X.env:=by rfl) (hpl:(backTo pos (starEach es X.env)).any (·.1)=false:=by rfl)
  (ht:eval (.Call (.Attribute o m apos) (e::es) [] pos) X.env=(do
   let ov←eval o X.env
   Ug apos.atName
   let (f,first)←holding [ov] (getMethod ov m pl)
   callWith pos f first (backTo pos (starEach (e::es) X.env)) (backToKw pos (keywordEach [] X.env))):=by rfl):
  PE X (.Call (.Attribute o m apos) (e::es) [] pos) (BQ ms m ta t):=by
 intro pins s σ H Q I h;refine R4 (pl:=pl) (thn (he pins s σ H _ I h) fun u s1 zz=>?_) ht;obtain⟨x,H1,I1,rx,cs,hcs,a,dx,fs,ex,ea,l,q⟩:=zz;subst ex;obtain rfl:u=zt a:=rx;obtain⟨f,fd,ps,c,hm,F,hb⟩:=M cs hcs;refine hJ I1 ea c hm l ?_;refine So (first:=[.ref a]) (h₀:=X.base) I.ok.mod.kin hm.kp (thn (ha pos pins s1 σ H1 _ I1 q) fun us s2 ⟨vs,H2,I2,r,q2⟩=>⟨I2.kIn,?_⟩) hst hpl;exact lW (us:=.ref a::us) (vs:=.ref a::vs) F hr hb .nil nZ I2 (.cons rfl r) q2
theorem aX{pl:Vd Bool}{ms:List (dk×Sp)}(M:MOk X.prog X.w X.K X.mg X.base k m ms)(he:PE X o ta)(hr:Room k X.A)
  (ht:eval (.Call (.Attribute o m apos) [] [] pos) X.env=(do
   let ov←eval o X.env
   Ug apos.atName
   let (f,first)←holding [ov] (getMethod ov m pl)
   callWith pos f first (backTo pos (starEach [] X.env)) (backToKw pos (keywordEach [] X.env))):=by rfl):
  PE X (.Call (.Attribute o m apos) [] [] pos) (BQ ms m ta AD):=by
 intro pins s σ H Q I h;refine R4 (pl:=pl) (thn (he pins s σ H _ I h) fun u s1 zz=>?_) ht;obtain⟨x,H1,I1,rx,cs,hcs,a,dx,fs,ex,ea,l,q⟩:=zz;subst ex;obtain rfl:u=zt a:=rx;obtain⟨f,fd,ps,c,hm,F,hb⟩:=M cs hcs;refine hJ I1 ea c hm l ?_;exact Wy (first:=[.ref a]) I1.kIn hm.kp (lW (us:=[.ref a]) (vs:=[.ref a]) F hr hb .nil nZ I1 (.cons rfl .nil) q)
end
section
variable{X:Cx}{K:cw}
theorem aF{e:QC}{ta:TE}{f:pe}{pos:Sz}(hK:X.K=K)(he:PE X e ta)(hb:Sk e f X.env (eval e X.env)=eval e X.env):PE X (.Attribute e f pos) (LH K ta f):=by subst hK;exact MI he hb
theorem bL{o value:QC}{ta tv:TE}{f:pe}{pos pos':Sz}(hK:X.K=K)(ha:PE X o ta)(hv:PE X value tv)(hs:Ue value (some (.Attribute o f pos')) pos.line X.env=pure false):PS X (.Assign [.Attribute o f pos'] value pos) (HG K ta tv f):=by subst hK;exact MH ha hv hs
end
section
variable{D:Ends}{σ:St}{H:Hp}{Q:VK}{K:cw}
def Oy(K:cw)(f:pe)(x:V)(H:Hp)(Q:VK):Prop:=∃a C dx fs v,x=.ref a/\H a=some (.ins C dx fs)/\Cls K C/\NoAttr K C f/\fs.lookup f=some v/\Q v H
theorem Oo{ta:TE}{f:pe}(h:ta σ H fun x H1=>Oy K f x H1 Q):LH K ta f σ H Q:=h
theorem Nz{f:pe}{a C dx:dk}{fs:List (pe×V)}{v:V}(e:H a=some (.ins C dx fs))(c:Cls K C)(n:NoAttr K C f)(l:fs.lookup f=some v)(h:Q v H):Oy K f (.ref a) H Q:=⟨a,C,dx,fs,v,rfl,e,c,n,l,h⟩
def sfK(K:cw)(f:pe)(y x:V)(H:Hp)(R:Hp->Prop):Prop:=∃a C dx fs,x=.ref a/\H a=some (.ins C dx fs)/\Cls K C/\NoAttr K C f/\fs.length<1000/\R (upd H a (.ins C dx (cL f y fs)))
theorem LO{ta tv:TE}{f:pe}(h:tv σ H fun y H1=>ta σ H1 fun x H2=>sfK K f y x H2 fun H3=>D.nx σ H3):HG K ta tv f D σ H:=h
theorem Pd{f:pe}{y:V}{a C dx:dk}{fs:List (pe×V)}{R:Hp->Prop}(e:H a=some (.ins C dx fs))(c:Cls K C)(n:NoAttr K C f)(hl:fs.length<1000)(h:∀H2,But a H H2->H2 a=some (.ins C dx (cL f y fs))->R H2):sfK K f y (.ref a) H R:=⟨a,C,dx,fs,rfl,e,c,n,hl,h _ .upd af⟩
theorem IW{ms:List (dk×Sp)}{m:pe}{ta:TE}{t:TA}(h:ta σ H fun x H1=>mtS ms m t σ x H1 Q):BQ ms m ta t σ H Q:=h
theorem Bt{ms:List (dk×Sp)}{m:pe}{t:TA}{C a dx:dk}{sp:Sp}{fs:List (pe×V)}(e:H a=some (.ins C dx fs))(l:fs.lookup m=none)(h:t σ H fun vs H2=>sp (.ref a::(vs++[])) H2 Q E0):mtS ((C,sp)::ms) m t σ (.ref a) H Q:=
 ⟨(C,sp),xl,a,dx,fs,rfl,e,l,h⟩
theorem Cb{ms:List (dk×Sp)}{m:pe}{t:TA}{cs:dk×Sp}{x:V}(h:mtS ms m t σ x H Q):mtS (cs::ms) m t σ x H Q:=by
 obtain⟨c,h1,h2⟩:=h;exact⟨c,xj _ h1,h2⟩
def mkK(C:dk)(sp:Sp)(vs:List V)(H:Hp)(Q:VK):Prop:=∀x dx,H x=none->H dx=none->dx≠x->sp (.ref x::(vs++[])) (upd (upd H dx (.own x)) x (.ins C dx [])) (fun v H2=>v=.non/\Q (.ref x) H2) E0
theorem LI{C:dk}{sp:Sp}{t:TA}(h:t σ H fun vs H1=>mkK C sp vs H1 Q):Lk C sp [] E0 t σ H Q:=h
theorem PZ{C:dk}{sp:Sp}{vs:List V}(h:∀x dx H',H x=none->Same H H'->H' x=some (.ins C dx [])->sp (.ref x::(vs++[])) H' (fun v H2=>v=.non/\Q (.ref x) H2) E0):mkK C sp vs H Q:=by
 intro x dx nx ndx nex;refine h x dx _ nx (fun b o e=>?_) af;rw[aj (ai e nx),aj (ai e ndx)];exact e
end
theorem Qc{f b c:St->Hp->Prop}{r:VK}{σ:St}{H:Hp}(h:f σ H):Ends.nx ⟨f,r,b,c⟩ σ H:=h
theorem Oi{σ:St}{H:Hp}{R:Bool->Hp->Prop}(h:R true H):M3 σ H R:=h
theorem Ma{g:TG}{tt:TT}{te:TE}{D:dk}{N:St->Hp->Prop}{x:V}{σ:St}{H:Hp}(h:g x σ H fun σ2 H2=>tt σ2 H2 fun b H3=>if b=true then te σ2 H3 fun y H4=>∃ys,H4 D=some (.lst ys)/\ys.length<sizeLine/\N σ2 (upd H4 D (.lst (ys++[y])))else N σ2 H3):eR g tt te D N x σ H:=h
theorem Nc{D:Ends}{σ:St}{H:Hp}{c:TT}{u:TS}(h:c σ H fun b H1=>if b=true then False else u D σ H1):kO (JZ c G1 Cr) u D σ H:=h
theorem GR{H H':Hp}(s:Same H H'){xs:List V}{ps:List (Int×Int)}(r:Prs H xs ps):Prs H' xs ps:=r.mono fun a xs e=>s a _ e
theorem Fs{K:cw}{H H':Hp}{a:dk}{xs:List V}(e:Same H H')(h:SqT K H a xs):SqT K H' a xs:=by
 rcases h with(h|⟨o,h⟩)|h
 ·exact .inl (.inl (e _ _ h))
 ·exact .inl (.inr ⟨o,e _ _ h⟩)
 ·exact .inr h
theorem G2{H H':Hp}(s:Same H H'){xs:List V}{ms:List (List (Int×Int))}(r:Dcs H xs ms):Dcs H' xs ms:=Paired.mapP r fun _ _ ⟨d,e,q⟩=>⟨d,e,bT s q⟩
structure Ck(m:List (Int×Int)):Prop where
 nd:(m.map (·.1)).Nodup
 nn:∀p∈m,0<=p.2
 rg:∀p∈m,0<=p.1/\p.1<63
def KN:List Int:=(QF 63).map fun(h:Nat)=>(h:Int)
theorem mem_hs{k:Int}:k∈KN↔0<=k/\k<63:=by
 unfold KN;rw[QE];constructor
 ·rintro⟨n,hn,rfl⟩;have:=RD.mp hn;omega
 ·rintro⟨h0,h1⟩;exact⟨k.toNat,RD.mpr (by omega),by omega⟩
theorem HY{α:Type}[DecidableEq α]:∀{l m:List α},l.Nodup->(∀x∈l,x∈m)->l.length<=m.length
 |[],m,_,_=>Qt _
 |x::l,m,nd,sub=>by
  rw[Rh]at nd;have hx:=sub x xl;have pm:=Wh hx;have:=HY (l:=l) (m:=m.erase x) nd.2 fun y hy=>(Wi (show y≠x from fun z=>nd.1 (z▸hy))).mpr (sub y (xj _ hy));have q:=pm.length_eq;rw[QL]at q⊢;omega
theorem jF{l:List Int}(nd:l.Nodup)(h:∀k∈l,0<=k/\k<63):l.length<64:=by
 have:=HY nd (m:=KN) fun k hk=>mem_hs.mpr (h k hk);unfold KN at this;rw[gm,RI]at this;omega
theorem Ck.keys{m:List (Int×Int)}(c:Ck m):∀k∈m.map (·.1),0<=k/\k<63:=fun k hk=>by
 obtain⟨p,hp,e⟩:=QE.mp hk;rw[←e];exact c.rg p hp
theorem Ck.len{m:List (Int×Int)}(c:Ck m):m.length<64:=by
 have:=jF c.nd c.keys;rw[gm]at this;exact this
theorem Ck.nil:Ck []:=⟨VZ,(fun p hp=>nomatch hp),(fun p hp=>nomatch hp)⟩
theorem Ck.ct{m:List (Int×Int)}(c:Ck m)(k:Int):0<=ct m k:=by
 unfold L2.ct;cases e:lkI m k with
 |none=>exact R6 _
 |some v=>exact c.nn _ (AO e)
theorem oN{m:List (Int×Int)}{k:Int}(h:k∉m.map (·.1)):ct m k=0:=by
 unfold ct;rw[IJ h];rfl
theorem Pa{m:List (Int×Int)}{k:Int}(h:k∈m.map (·.1)):lkI m k=some (ct m k):=by
 obtain⟨v,e⟩:=Kf h;unfold ct;rw[e];rfl
theorem OE{m:List (Int×Int)}(nd:(m.map (·.1)).Nodup){p:Int×Int}(h:p∈m):ct m p.1=p.2:=by
 unfold ct;rw[K7 (k:=p.1) (v:=p.2) nd h];rfl
theorem Ck.put{m:List (Int×Int)}(c:Ck m){k v:Int}(h0:0<=k)(h1:k<63)(hv:0<=v):Ck (dh m k v):=
 ⟨Ht m k v c.nd,fun p hp=>by
  rcases pC m k v p hp with z|z
  ·rw[z];exact hv
  ·exact c.nn p z,fun p hp=>by
  rcases pC m k v p hp with z|z
  ·rw[z];exact⟨h0,h1⟩
  ·exact c.rg p z⟩
theorem qL(m:List (Int×Int))(k v j:Int):ct (dh m k v) j=if j=k then v else ct m j:=by
 unfold ct;rw[HK];split<;>rfl
structure Td(m:List (Int×Int)):Prop extends Ck m where
 ps:∀p∈m,0<p.2
theorem Td.nil:Td []:=⟨Ck.nil,(fun p hp=>nomatch hp)⟩
def Gh(ms:List (List (Int×Int)))(k b:Int):Prop:=(∃m∈ms,ct m k=b)/\∀m∈ms,ct m k<=b
def BN(ms:List (List (Int×Int)))(k b:Int):Prop:=(∃m∈ms,ct m k=b)/\∀m∈ms,b<=ct m k
def cov(m n:List (Int×Int)):Bool:=(QF 63).all fun(h:Nat)=>decide (ct n h<=ct m h)
theorem Jv{m n:List (Int×Int)}(cm:Ck m)(cn:Ck n):cov m n=true↔∀k,ct n k<=ct m k:=by
 unfold cov;rw[Vq];constructor
 ·intro h k;by_cases hk:0<=k/\k<63
  ·have:=of_decide_eq_true (h k.toNat (RD.mpr (by omega)));rw[show((k.toNat:Nat):Int)=k by omega]at this;exact this
  ·rw[oN (fun z=>hk (cn.keys k z))];exact cm.ct k
 ·intro h n _;exact decide_eq_true (h n)
def dJ(ps:List (Int×Int)):List (Int×Int):=ps.filter fun p=>decide (0<p.2)
theorem Kt{ps:List (Int×Int)}{p:Int×Int}(h:0<p.2):dJ (ps++[p])=dJ ps++[p]:=by
 unfold dJ;rw[Qm,Rb,decide_eq_true h];rfl
theorem Nd{ps:List (Int×Int)}{p:Int×Int}(h:¬ 0<p.2):dJ (ps++[p])=dJ ps:=by
 unfold dJ;rw[Qm,Rb,decide_eq_false h];exact Q2 _
theorem xv{ps:List (Int×Int)}(h:(ps.map (·.1)).Nodup):((dJ ps).map (·.1)).Nodup:=by
 unfold dJ;exact h.sublist ((Tn).map _)
theorem IE(ps:List (Int×Int)):(dJ ps).length<=ps.length:=Qf _ _
def prs(S:List Int)(f:Int->Int):List (Int×Int):=S.map fun k=>(k,f k)
theorem js(S:List Int)(f:Int->Int):(prs S f).map (·.1)=S:=by
 unfold prs;rw[Ri];exact UK _
theorem Fv{S:List Int}{f:Int->Int}(nd:S.Nodup)(rg:∀k∈S,0<=k/\k<63):Td (dJ (prs S f)):=by
 have mem:∀p∈dJ (prs S f),0<p.2/\p.1∈S:=fun p hp=>by
  have h:=QS.mp hp;refine⟨of_decide_eq_true h.2,?_⟩;have:=QZ (f:=(·.1)) h.1;rw[js]at this;exact this
 exact⟨⟨xv (by rw[js];exact nd),fun p hp=>Yz (mem p hp).1,fun p hp=>rg _ (mem p hp).2⟩,fun p hp=>(mem p hp).1⟩
theorem GP{S:List Int}{f:Int->Int}(nd:S.Nodup)(k:Int)(hk:k∈S)(h0:0<=f k):ct (dJ (prs S f)) k=f k:=by
 by_cases h:0<f k
 ·have hm:(k,f k)∈dJ (prs S f):=QS.mpr ⟨QZ (f:=fun k=>(k,f k)) hk,decide_eq_true h⟩;exact OE (p:=(k,f k)) (xv (by rw[js];exact nd)) hm
 ·have e:f k=0:=by omega
  rw[e];apply oN;intro z;obtain⟨p,hp,e2⟩:=QE.mp z;have q:=QS.mp hp;obtain⟨k',_,e3⟩:=QE.mp q.1;have:=of_decide_eq_true q.2;rw[←e3]at e2 this;have e2:k'=k:=e2;rw[e2]at this;exact h this
theorem CL{S:List Int}{f:Int->Int}{k:Int}(hk:k∉S):ct (dJ (prs S f)) k=0:=by
 apply oN;intro z;apply hk;have:k∈(prs S f).map (·.1):=((Tn).map _).subset z;rw[js]at this;exact this
theorem two{m n:List (Int×Int)}{k:Int}:(∃x∈[m,n],k∈x.map (·.1))↔k∈m.map (·.1)∨k∈n.map (·.1):=by simp
def PKm(m:List (Int×Int))(S:List Int):List (Int×Int):=(S.filter fun k=>decide (0<ct m k)).map fun k=>(k,ct m k)
theorem KR{m:List (Int×Int)}{S:List Int}{k:Int}(h:0<ct m k):PKm m (S++[k])=PKm m S++[(k,ct m k)]:=by
 unfold PKm;rw[Qm,xt,Rb,decide_eq_true h];rfl
theorem MN{m:List (Int×Int)}{S:List Int}{k:Int}(h:¬ 0<ct m k):PKm m (S++[k])=PKm m S:=by
 unfold PKm;rw[Qm,xt,Rb,decide_eq_false h];exact Q2 _
theorem Kz(m:List (Int×Int))(h:Int):((dP (dI m) (GV h:Key)).getD (.int 0))=V.int (ct m h):=by
 rw[Cn];unfold ct;cases lkI m h<;>rfl
def cfl(n c k w cs:V):List (pe×V):=[("number",n),("caller",c),("count",k),("word",w),("causes",cs)]
theorem Jn(n c k w cs:V):cL "causes" cs (cL "word" w (cL "count" k (cL "caller" c (cL "number" n []))))=cfl n c k w cs:=by
 have e:∀(a b:pe),decide (a=b)=false->a≠b:=fun a b h=>of_decide_eq_false h;simp only[cL,cfl,if_neg (e "number" "caller" (by decide +kernel)),if_neg (e "number" "count" (by decide +kernel)),if_neg (e "caller" "count" (by decide +kernel)),if_neg (e "number" "word" (by decide +kernel)),if_neg (e "caller" "word" (by decide +kernel)),if_neg (e "count" "word" (by decide +kernel)),if_neg (e "number" "causes" (by decide +kernel)),if_neg (e "caller" "causes" (by decide +kernel)),if_neg (e "count" "causes" (by decide +kernel)),if_neg (e "word" "causes" (by decide +kernel))]
theorem BS{n c k w cs:V}:(cfl n c k w cs).lookup ("number":pe)=some n:=by kernel_rfl
theorem AZ{n c k w cs:V}:(cfl n c k w cs).lookup ("caller":pe)=some c:=by kernel_rfl
theorem EB{n c k w cs:V}:(cfl n c k w cs).lookup ("count":pe)=some k:=by kernel_rfl
theorem Ic{n c k w cs:V}:(cfl n c k w cs).lookup ("word":pe)=some w:=by kernel_rfl
theorem Ca{n c k w cs:V}:(cfl n c k w cs).lookup ("causes":pe)=some cs:=by kernel_rfl
theorem GC{n c k w cs:V}:(cfl n c k w cs).lookup ("free":pe)=none:=by kernel_rfl
theorem zu{n c k w cs:V}:(cfl n c k w cs).lookup ("in_turn":pe)=none:=by kernel_rfl
theorem uP{n c k w cs:V}:(cfl n c k w cs).lookup ("asks_place":pe)=none:=by kernel_rfl
theorem Hr{n c k w cs:V}:(cfl n c k w cs).lookup ("kind":pe)=none:=by kernel_rfl
theorem G7{n c k w cs:V}:(cfl n c k w cs).lookup ("name":pe)=none:=by kernel_rfl
theorem HL{n c k w cs:V}:(cfl n c k w cs).lookup ("rank":pe)=none:=by kernel_rfl
theorem Hv{n c k w cs:V}:(cfl n c k w cs).lookup ("told":pe)=none:=by kernel_rfl
theorem KD{K:cw}{H:Hp}{Q:VK}{a:dk}{kd:pe}(h:kd="own"∨kd="heard"∨kd="one")(ha:SqT K H a [.str "own",.str "heard",.str "one"])(q:Q (.bl false) H):JR K true (.str kd) (.ref a) H Q:=by
 refine⟨a,_,_,_,rfl,.inr ha,.cons (.str _) (.cons (.str _) (.cons (.str _) .nil)),.str kd,by kernel_rfl,?_,by show 0<=60;decide,?_⟩
 ·rcases h with rfl|rfl|rfl<;>kernel_rfl
 ·have e:(([.str "own",.str "heard",.str "one"]:List Rp).any fun z=>z.eqv (.str kd))=true:=by rcases h with rfl|rfl|rfl<;>kernel_rfl
  show Q (.bl (!_)) H;rw[e];exact q
theorem Px:decide (("heard":pe)="own")=false:=by decide +kernel
theorem NY:decide (("one":pe)="own")=false:=by decide +kernel
theorem Ot:decide (("one":pe)="heard")=false:=by decide +kernel
theorem Ob:decide (("own":pe)="own")=true:=by decide +kernel
theorem NU:decide (("heard":pe)="heard")=true:=by decide +kernel
def prD(p:Int×Int):Rp:=.tuple [.int p.1,.int p.2]
theorem we{H:Hp}{Q:VK}{a b:dk}{xs zs:List V}(h1:H a=some (.lst xs))(h2:H b=some (.lst zs))(hl:xs.length+ zs.length<=1000)(h:∀p H',H p=none->Same H H'->H' p=some (.lst (xs++zs))->Q (.ref p) H'):N4 (.ref a) (.ref b) H Q:=⟨a,b,xs,zs,rfl,rfl,h1,h2,QG (aD hl),fun p hp=>h p _ hp (aB hp) af⟩
def SmB(d:dk)(B H:Hp):Prop:=∀b o,b≠d->B b=some o->H b=some o
theorem SmB.refl(d:dk)(B:Hp):SmB d B B:=fun _ _ _ h=>h
structure TCall(K:cw)(C:dk):Prop where
 cl:Cls K C
 n1:NoAttr K C "number"
 n2:NoAttr K C "caller"
 n3:NoAttr K C "count"
 n4:NoAttr K C "word"
 n5:NoAttr K C "causes"
def dG(m:List (Int×V)):List (Key×V):=m.map fun p=>(GV p.1,p.2)
theorem tL(m:List (Int×V)):(dG m).length=m.length:=gm ..
def lkG:List (Int×V)->Int->Option V
 |[],_=>none
 |p::m,k=>if p.1=k then some p.2 else lkG m k
theorem Bj:∀(m:List (Int×V)) (k:Int),dP (dG m) (GV k:Key)=lkG m k
 |[],_=>rfl
 |p::m,k=>by
  show dP ((GV p.1,p.2)::dG m) (GV k)=_;unfold lkG;by_cases e:p.1=k
  ·rw[if_pos e,cN (by rw[e])]
  ·rw[if_neg e,cP (fun z=>e (Sn z)),Bj m k]
def sN:List (Int×V)->Int->V->List (Int×V)
 |[],k,v=>[(k,v)]
 |p::m,k,v=>if p.1=k then(p.1,v)::m else p::sN m k v
theorem qI:∀(m:List (Int×V)) (k:Int) (v:V) (p:Int×V),p∈sN m k v->p=(k,v)∨p∈m
 |[],k,v,p,h=>.inl (by simpa [sN]using h)
 |q::m,k,v,p,h=>by
  have h':p∈(if q.1=k then(q.1,v)::m else q::sN m k v):=h;by_cases e:q.1=k
  ·rw[if_pos e]at h';rcases uc.mp h' with z|z
   ·exact .inl (by rw[z,e])
   ·exact .inr (xj _ z)
  ·rw[if_neg e]at h';rcases uc.mp h' with z|z
   ·exact .inr (by rw[z];exact xl)
   ·rcases qI m k v p z with z|z
    ·exact .inl z
    ·exact .inr (xj _ z)
theorem GQ(k:Int):∀m:List (Int×V),((dG m).any fun kv=>decide (kv.1=(GV k:Key)))=m.any fun p=>decide (p.1=k)
 |[]=>rfl
 |p::m=>by
  show(decide ((GV p.1:Key)=GV k)||(dG m).any _)=(decide (p.1=k)||m.any _);rw[GQ k m];congr 1;rw[decide_eq_decide];exact⟨fun h=>Sn h,fun h=>congrArg _ h⟩
theorem tW:∀(m:List (Int×V)) (k:Int) (v:V),(m.any fun p=>decide (p.1=k))=false->sN m k v=m++[(k,v)]
 |[],_,_,_=>rfl
 |p::m,k,v,h=>by
  rw[SS,Wf]at h;show(if p.1=k then(p.1,v)::m else p::sN m k v)=_;rw[if_neg (of_decide_eq_false h.1),tW m k v h.2];rfl
theorem zP:∀(m:List (Int×V)) (k:Int) (v:V),(m.map (·.1)).Nodup->(m.any fun p=>decide (p.1=k))=true->sN m k v=m.map fun p=>if p.1=k then(p.1,v)else p
 |[],_,_,_,h=>by cases h
 |p::m,k,v,nd,h=>by
  rw[Qd,Rh]at nd;show(if p.1=k then(p.1,v)::m else p::sN m k v)=(if p.1=k then(p.1,v)else p)::m.map _;by_cases e:p.1=k
  ·rw[if_pos e,if_pos e];congr 1;have:m.map (fun p=>if p.1=k then(p.1,v)else p)=m.map id:=Ru fun q hq=>by
    rw[if_neg (fun z=>nd.1 (by rw[e,←z];exact QZ hq))];rfl
   rw[this,UK]
  ·rw[if_neg e,if_neg e,zP m k v nd.2 (by
    rw[SS,decide_eq_false e,UT]at h;exact h)]
theorem Hx(m:List (Int×V))(k:Int)(v:V)(nd:(m.map (·.1)).Nodup):putK (dG m) (GV k:Key) (v)=dG (sN m k v):=by
 unfold putK;rw[GQ];cases e:m.any fun p=>decide (p.1=k)with
 |false=>
  rw[tW m k v e];unfold dG;rw[xt];rfl
 |true=>
  rw[zP m k v nd e];unfold dG;rw[Ri,if_pos rfl,Ri];apply Ru;intro p _;show(if(GV p.1:Key)=GV k then((GV p.1:Key),v)else(GV p.1,p.2))=((GV (if p.1=k then(p.1,v)else p).1:Key),(if p.1=k then(p.1,v)else p).2);by_cases z:p.1=k
  ·rw[if_pos (congrArg _ z),if_pos z]
  ·rw[if_neg (fun q=>z (Sn q)),if_neg z]
section
variable{X:Cx}
theorem oz{α β:Type}{R:α->β->Prop}:∀{xs:List α} {ys:List β},xs.length=ys.length->(∀(i:Nat) x y,xs[i]?=some x->ys[i]?=some y->R x y)->Paired R xs ys
 |[],[],_,_=>.nil
 |[],_::_,h,_=>by cases h
 |_::_,[],h,_=>by cases h
 |x::xs,y::ys,h,k=>.cons (k 0 x y rfl rfl) (oz (Nat.succ.inj h) fun i a b ha hb=>k (i+ 1) a b (by simpa using ha) (by simpa using hb))
abbrev yS(H:Hp):List V->List (Int×V)->Prop:=Paired fun x p=>∃a,x=.ref a/\H a=some (.tup [.int p.1,p.2])
theorem v7{pins:List (dk×QM)}{σ:St}{H:Hp}{s:lr}(I:Inv X pins σ H s):∀{xs:List V} {us:List cT} {ps:List (Int×V)},yS H xs ps->Vals xs us->
  ∃kx:List (Key×cT),KV (dG ps) kx/\kx.length=us.length/\∀(i:Nat) v,us[i]?=some v->∃a key k x o c,v=.ref a/\kx[i]?=some (k,x)/\(aO X.prog X.w).is k key=true/\s.heap.get? a=some o/\o.cls=.type "tuple"/\o.data=.seq #[key,x] c
 |_,_,_,.nil,.nil=>⟨[],.nil,rfl,fun i v e=>by simp at e⟩
 |x::xs,u::us,p::ps,.cons h t,.cons r q=>by
  obtain⟨kx,k1,k2,k3⟩:=v7 I t q;obtain⟨a,rfl,ha⟩:=h;obtain rfl:u=zt a:=r;obtain⟨_,its,rv,o,ho,hc,n,hd,_⟩:[V.int p.1,p.2].length<=sizeLine/\∃its:List cT,Vals [V.int p.1,p.2] its/\IsTpl s.heap a its.toArray:=I.hok a _ ha;obtain⟨u1,u2,rfl,r1,r2⟩:=vals2 rv;obtain⟨t1,rfl⟩:=r1;refine⟨(GV p.1,u2)::kx,.cons ⟨rfl,r2⟩ k1,congrArg (·+ 1) k2,fun i v e=>?_⟩;cases i with
  |zero=>
   have e':zt a=v:=Qj e;subst e';exact⟨a,_,_,u2,o,n,rfl,rfl,lO X.prog X.w p.1 t1,ho,hc,hd⟩
  |succ i=>exact k3 i v e
theorem wj:∀(ps acc:List (Int×V)),((acc++ps).map (·.1)).Nodup->qU (dG acc) (dG ps)=dG (acc++ps)
 |[],acc,_=>by rw[Q2];rfl
 |p::ps,acc,h=>by
  have e:qU (dG acc) (dG (p::ps))=qU (putK (dG acc) (GV p.1:Key) p.2) (dG ps):=rfl;have h1:(acc.map (·.1)).Nodup:=by rw[xt]at h;exact(RU.mp h).1
  have h2:p.1∉acc.map (·.1):=by
   rw[xt,Qd]at h;intro z;exact(RU.mp h).2.2 _ z _ xl rfl
  rw[e,Hx acc p.1 p.2 h1,tW acc p.1 p.2 (by
   rw[U0];intro q hq;exact fun z=>h2 (by rw[←of_decide_eq_true z];exact QZ hq)),wj ps (acc++[p]) (by rw[RV];exact h),RV]
  rfl
theorem BO(hc:X.calm=true):cE X (.type "dict") (fun xs H Q=>∃(a:dk) (ys:List V) (ps:List (Int×V)),xs=[.ref a]/\H a=some (.lst ys)/\yS H ys ps/\(ps.map (·.1)).Nodup/\ps.length<=1000/\∀p,H p=none->Q (.ref p) (upd H p (.dK (dG ps)))):=by
 intro pins s σ H xs us Q I r h;obtain⟨a,ys,ps,rfl,ha,hp,nd,hl,q⟩:=h;obtain⟨u,rfl,rx⟩:=vals1 r;cases rx;obtain⟨z,its,n,rv,hlen,e⟩:=I.lstM ha;obtain⟨kx,k1,k2,k3⟩:=v7 I hp rv;refine GX.pL (knd:=aO X.prog X.w) (I.ok.hd hc) e (by rw[←hlen];exact z) k2 k3 fun h' tk kp dd=>?_;have rel:KV (dG ps) (merged [] kx):=by
  have:=KV.merge k1 (show KV (dG []) []from .nil);rw[wj ps [] (by simpa using nd)]at this;exact this
 refine⟨.ref s.heap.objs.size,_,I.laid (t':=tk) kp (oh _) (yh ?_ (beq_eq_false_iff_ne.mpr (QH (xy I.big))) rel dd),rfl,q _ (I.hok.fresh (oh _))⟩;rw[tL];exact QG (aD hl)
end
section
variable{D:Ends}{σ:St}{H:Hp}{Q:VK}
theorem DW{d:dk}{H A:Hp}{u:HO}(s:SmB d H A)(h:H d=some u):Same H (upd A d u):=fun b o e=>by
 by_cases z:b=d
 ·subst z;rw[h]at e;cases e;exact af
 ·rw[aj z];exact s b o z e
theorem OO{d:dk}{m:List (Int×V)}{k:Int}{v:V}{P:V->Prop}(hd:Rd H d (.dK (dG m)))(hk:lkG m k=some v)(h:P v):∃a v,V.ref d=.ref a/\DGet H a (.int k) (some v)/\P v:=
 ⟨d,v,rfl,.inl ⟨_,GV k,hd,rfl,by rw[Bj,hk]⟩,h⟩
theorem Lz{d:dk}{m:List (Int×V)}{k:Int}{P:Option V->Prop}(hd:Rd H d (.dK (dG m)))(h:P (lkG m k)):∃a o,V.ref d=.ref a/\DGet H a (.int k) o/\P o:=⟨d,_,rfl,.inl ⟨_,GV k,hd,rfl,(Bj m k).symm⟩,h⟩
theorem Kp{d:dk}{m:List (Int×V)}{k:Int}{v:V}{P:Hp->Prop}(hd:H d=some (.dK (dG m)))(nd:(m.map (·.1)).Nodup)(hl:m.length<sizeLine)(h:∀H2,But d H H2->H2 d=some (.dK (dG (sN m k v)))->P H2):∃a H4,V.ref d=.ref a/\DPut H a (.int k) v H4/\P H4:=
 ⟨d,_,rfl,.inl ⟨_,GV k,hd,rfl,by rw[tL];exact hl,rfl⟩,h _ .upd (by rw[af,Hx m k v nd])⟩
end
theorem GI{n h:Int}(h0:0<=n)(h1:0<=h):(!decide (V.int (Builtin.bitAnd n (2^h.toNat))=V.int 0))=n.toNat.testBit h.toNat:=by
 have e1:(0:Int)<=2^h.toNat:=Ci _;have e2:((2:Int)^h.toNat).toNat=2^h.toNat:=by
  have:((2:Int)^h.toNat)=((2^h.toNat:Nat):Int):=by push_cast;rfl
  rw[this,Qp]
 rw[YI h0 e1,e2];cases q:n.toNat.testBit h.toNat with
 |false=>
  rw[(GB.Cq _ _).mpr q];rfl
 |true=>
  have z:¬ (n.toNat &&& 2^h.toNat=0):=fun z=>by rw[(GB.Cq _ _).mp z]at q;cases q
  have z':¬ V.int ((n.toNat &&& 2^h.toNat:Nat):Int)=V.int 0:=fun e=>z (by injection e with e;omega);rw[decide_eq_false z'];rfl
def tY(n:Int)(i:Nat):List Int:=((QF i).filter fun h=>n.toNat.testBit h).map (fun(h:Nat)=>(h:Int))
theorem G5(n:Int)(i:Nat):(tY n i).length<=i:=by
 unfold tY;rw[gm];have:=Qf (fun h=>n.toNat.testBit h) (QF i);rw[RI]at this;exact this
theorem FA{n:Int}{i:Nat}(h:n.toNat.testBit i=true):tY n (i+ 1)=tY n i++[(i:Int)]:=by
 unfold tY;rw[VG,Qm,xt,Rb,h];rfl
theorem Ks{n:Int}{i:Nat}(h:n.toNat.testBit i=false):tY n (i+ 1)=tY n i:=by
 unfold tY;rw[VG,Qm,xt,Rb,h];exact Q2 _
theorem El{n:Int}(h0:0<=n)(h1:n<9223372036854775808):Rt n<=63/\tY n (Rt n)=GB.hl n:=by
 have a:n.natAbs=n.toNat:=by omega
 have l:n.toNat<2^63:=by
  have:(2:Nat)^63=9223372036854775808:=by decide
  omega
 have b:Rt n<=63:=YB (by rw[a];exact l);refine⟨b,?_⟩;unfold tY GB.hl;rw[GB.IU b];unfold Rt;by_cases z:n=0
 ·subst z;decide
 ·have z':(n==0)=false:=by simpa using z
  rw[z',a];exact Nat.lt_log2_self
theorem oH:∀{l m:List Nat},l.Pairwise (·<·)->m.Pairwise (·<·)->(∀x,x∈l↔x∈m)->l=m
 |[],[],_,_,_=>rfl
 |[],y::m,_,_,h=>absurd ((h y).mpr xl) (by simp)
 |x::l,[],_,_,h=>absurd ((h x).mp xl) (by simp)
 |x::l,y::m,hl,hm,h=>by
  rw[UO]at hl hm;have e:x=y:=by
   rcases uc.mp ((h x).mp xl)with z|z
   ·exact z
   ·rcases uc.mp ((h y).mpr xl)with w|w
    ·exact w.symm
    ·have:=hm.1 x z;have:=hl.1 y w;omega
  subst e;rw[oH hl.2 hm.2 fun z=>?_];constructor
  ·intro hz;rcases uc.mp ((h z).mp (xj _ hz))with w|w
   ·subst w;exact absurd (hl.1 _ hz) (QD _)
   ·exact w
  ·intro hz;rcases uc.mp ((h z).mpr (xj _ hz))with w|w
   ·subst w;exact absurd (hm.1 _ hz) (QD _)
   ·exact w
theorem snoc_ind{α:Type}{P:List α->Prop}(h0:P [])(h1:∀l a,P l->P (l++[a]))(l:List α):P l:=by
 have key:∀r:List α,P r.reverse:=by
  intro r
  induction r with
  |nil=>exact h0
  |cons a r ih=>rw[Xd];exact h1 _ _ ih
 have:=key l.reverse;rw[List.reverse_reverse]at this;exact this
theorem M0:∀(l:List Nat) (b:Nat),l.Pairwise (·<·)->(∀x∈l,x<b)->(l.map fun h=>2^h).sum<2^b:=by
 refine snoc_ind ?_ ?_
 ·intro b _ _;exact Nat.two_pow_pos b
 ·intro l h ih b hp hb;rw[Ut]at hp;have h1:=ih h hp.1 fun x hx=>hp.2.2 x hx h (by simp);have h2:h<b:=hb h (by simp);rw[xt,XU];have h3:2^(h+ 1)<=2^b:=We (by decide) h2;rw[Nat.pow_succ]at h3;simp only[Qd,Tw,T8,WN];omega
theorem sum_set:∀(l:List Nat),l.Pairwise (·<·)->(l.map fun h=>2^h).sum=GB.Cg l:=by
 refine snoc_ind ?_ ?_
 ·intro _;rfl
 ·intro l h ih hp;rw[Ut]at hp;have h1:=M0 l h hp.1 fun x hx=>hp.2.2 x hx h (by simp);have e:=ih hp.1;rw[xt,XU];unfold GB.Cg at e⊢;rw[U6,←e];simp only[Qd,Tw,T8,WN,Sb,List.foldl_nil];have:=Nat.two_pow_add_eq_or_of_lt h1 1;rw[Nat.mul_one]at this;rw[Nat.add_zero,Nat.add_comm,this,Nat.or_comm]
structure Hs(hs:List Int):Prop where
 up:hs.Pairwise (·<·)
 rg:∀h∈hs,0<=h/\h<63
theorem Hs.nat{hs:List Int}(c:Hs hs):∃l:List Nat,hs=l.map (fun(h:Nat)=>(h:Int))/\l.Pairwise (·<·)/\∀x∈l,x<63:=by
 refine⟨hs.map WO,?_,?_,?_⟩
 ·rw[Ri]
  conv=>lhs;rw[←UK hs]
  refine Ru fun h hh=>?_;have:=(c.rg h hh).1;show h=((h.toNat:Nat):Int);omega
 ·rw[W9];refine c.up.imp_of_mem fun{a b} ha hb h=>?_;have:=(c.rg a ha).1;omega
 ·intro x hx;obtain⟨h,hh,rfl⟩:=QE.mp hx;have:=c.rg h hh;omega
theorem zL:∀l:List Nat,(l.map fun(h:Nat)=>(h:Int)).sum=((l.sum:Nat):Int)
 |[]=>rfl
 |x::l=>by rw[Qd,T8,T8,zL l];omega
theorem Hs.set{hs:List Int}(c:Hs hs):0<=(hs.map fun h=>1*(2:Int)^h.toNat).sum/\(hs.map fun h=>1*(2:Int)^h.toNat).sum<9223372036854775808/\GB.hl (hs.map fun h=>1*(2:Int)^h.toNat).sum=hs:=by
 obtain⟨l,rfl,up,rg⟩:=c.nat
 have e:((l.map fun(h:Nat)=>(h:Int)).map fun h=>1*(2:Int)^h.toNat).sum=((GB.Cg l:Nat):Int):=by
  rw[←sum_set l up,←zL,Ri,Ri];congr 1;refine Ru fun h _=>?_;show 1*(2:Int)^((h:Int)).toNat=((2^h:Nat):Int);rw[Qp,YJ]
  push_cast
  rfl
 have lt:GB.Cg l<2^63:=GB.Ju rg;have p63:(2:Nat)^63=9223372036854775808:=by decide
 rw[e];refine⟨by omega,by omega,?_⟩;unfold GB.hl;rw[Qp];congr 1;refine oH (GB.iN _) up fun x=>?_;rw[GB.AI,GB.zi];constructor
 ·rintro⟨_,h⟩;exact of_decide_eq_true h
 ·intro h;exact⟨rg x h,decide_eq_true h⟩
structure TKnown(K:cw)(C:dk):Prop where
 cl:Cls K C
 n1:NoAttr K C "learnt"
theorem D8{d:V}:([(("learnt":pe),d)]:List (pe×V)).lookup ("learnt":pe)=some d:=by kernel_rfl
theorem Ib{d:V}:([(("learnt":pe),d)]:List (pe×V)).lookup ("learn":pe)=none:=by kernel_rfl
theorem IB{d:V}:([(("learnt":pe),d)]:List (pe×V)).lookup ("floor":pe)=none:=by kernel_rfl
theorem Ir{d:V}:([(("learnt":pe),d)]:List (pe×V)).lookup ("reach":pe)=none:=by kernel_rfl
theorem Ja{d:V}:([(("learnt":pe),d)]:List (pe×V)).lookup ("sure":pe)=none:=by kernel_rfl
theorem HU{H:Hp}{Q:VK}{a:dk}{kvs:List (Key×V)}(hd:Rd H a (.dK kvs))(h:∀p H',H p=none->Same H H'->H' p=some (.dK kvs)->Q (.ref p) H'):FK [.ref a] H Q:=⟨a,_,rfl,hd,fun p hp=>h p _ hp (aB hp) af⟩
abbrev Rws(H:Hp):List (Int×V)->List (Int×List (Int×Int))->Prop:=Paired fun q e=>q.1=e.1/\∃r,q.2=.ref r/\H r=some (.dK (dI e.2))
structure KnAt(K:cw)(mg:pe->Option cT)(H:Hp)(p d:dk)(rs:List (Int×V))(tb:List (Int×List (Int×Int))):Prop where
 ob:∃C dx,mg "Known"=some (.ref C)/\H p=some (.ins C dx [("learnt",.ref d)])
 dc:H d=some (.dK (dG rs))
 rw:Rws H rs tb
 hs:Hs (tb.map (·.1))
 td:∀e∈tb,Td e.2
 ap:∀q∈rs,q.2≠V.ref d
theorem Rws.keys{H:Hp}:∀{rs:List (Int×V)} {tb:List (Int×List (Int×Int))},Rws H rs tb->rs.map (·.1)=tb.map (·.1)
 |_,_,.nil=>rfl
 |_,_,.cons h t=>by rw[Qd,Qd,h.1,Rws.keys t]
def tbl:List (Int×List (Int×Int))->Int->Option (List (Int×Int))
 |[],_=>none
 |e::tb,h=>if e.1=h then some e.2 else tbl tb h
theorem Rws.lk{H:Hp}:∀{rs:List (Int×V)} {tb:List (Int×List (Int×Int))} (h:Int),Rws H rs tb->(lkG rs h=none/\tbl tb h=none)∨∃r m,lkG rs h=some (.ref r)/\tbl tb h=some m/\H r=some (.dK (dI m))
 |_,_,h,.nil=>.inl ⟨rfl,rfl⟩
 |q::rs,e::tb,h,.cons ⟨e1,r,e2,e3⟩ t=>by
  unfold lkG tbl;by_cases z:e.1=h
  ·rw[if_pos (e1.trans z),if_pos z];exact .inr ⟨r,e.2,by rw[e2],rfl,e3⟩
  ·rw[if_neg (fun w=>z (e1.symm.trans w)),if_neg z];exact Rws.lk h t
theorem CK:∀{tb:List (Int×List (Int×Int))} {h:Int} {m:List (Int×Int)},tbl tb h=some m->(h,m)∈tb
 |e::tb,h,m,q=>by
  unfold tbl at q;by_cases z:e.1=h
  ·rw[if_pos z]at q;cases q;rw[←z];exact xl
  ·rw[if_neg z]at q;exact xj _ (CK q)
theorem tbl_key:∀{tb:List (Int×List (Int×Int))} {h:Int},(tbl tb h).isSome=true↔h∈tb.map (·.1)
 |[],h=>by simp[tbl]
 |e::tb,h=>by
  unfold tbl;rw[Qd,uc];by_cases z:e.1=h
  ·rw[if_pos z];exact⟨fun _=>.inl z.symm,fun _=>rfl⟩
  ·rw[if_neg z,tbl_key];exact⟨.inr,fun q=>q.resolve_left fun w=>z w.symm⟩
def vj(tb:List (Int×List (Int×Int)))(h:Int)(m:List (Int×Int)):List (Int×List (Int×Int)):=tb.map fun e=>if e.1=h then(e.1,m)else e
theorem vS(tb:List (Int×List (Int×Int)))(h:Int)(m:List (Int×Int)):(vj tb h m).map (·.1)=tb.map (·.1):=by
 unfold vj;rw[Ri];refine Ru fun e _=>?_;show(if e.1=h then(e.1,m)else e).1=e.1;split<;>rfl
def Itv(d:dk)(o:QM)(kvs:List (Key×V)):It:=
 ⟨fun i H=>i<kvs.length/\H d=some (.frz o (.dK kvs)),fun i H x H'=>H'=H/\∃k,kvs[i]?=some (k,x),fun i H=>kvs.length<=i/\H d=some (.frz o (.dK kvs))⟩
theorem EU{P:Qo}{w:Qu}{K:cw}{tg:QC}{d it:dk}{o:QM}{kvs:List (Key×V)}{vs:List (Key×cT)}{ep:Nat}(rel:KV kvs vs)(fz:∀h:Qg,h.get? d=some o->h.DictAt (aO P w) d vs ep):
  Turn P w K tg (Itv d o kvs) [it] it (fun i h=>h.IsValIter it d i vs.length ep) where
 mem:=by simp
 obj:=fun i h st b hb=>by
  have e:b=it:=by simpa using hb
  subst e;obtain⟨o,e,c,dd⟩:=st;exact⟨o,e,fun v z=>by rw[dd]at z;cases z⟩
 keep:=fun i h h' st k=>let ⟨o,e,c,dd⟩:=st;⟨o,k it (by simp) o e,c,dd⟩
 item:=by
  intro X hP hw hK hc i pins s σ H E I hf st hg;subst hP hw hK;obtain⟨hi,hd⟩:=hg;have hdo:s.heap.get? d=some o:=(show s.heap.get? d=some o/\_ from I.hok d _ hd).1;have hx:kvs[i]?=some kvs[i]:=xi hi;obtain⟨u,hu,ru⟩:=rel.get (k:=kvs[i].1) (v:=kvs[i].2) hx;obtain⟨f0,f1,f2,f3,f4,f5⟩:=hf it (by simp);refine wpAny_pyNext_values_item st (fz _ hdo) hu fun h' st' sb=>?_;have I1:Inv X pins σ H {s with heap:=h'}:=I.turned (t':=s.toks) (fun b o hb e=>(sb.2 b hb).trans e) f0 f1 f3 f4 f5;obtain⟨oo,e,c,dd⟩:=id st';exact⟨u,rfl,DB (s:={s with heap:=h'}) e c dd (by decide) ⟨kvs[i].2,H,I1,ru,⟨rfl,kvs[i].1,hx⟩,st',fun b hb=>(hf b hb).1⟩⟩
 done:=by
  intro X hP hw hK hc i pins s σ H E I hf st hg;subst hP hw hK;obtain⟨hi,hd⟩:=hg;have hdo:s.heap.get? d=some o:=(show s.heap.get? d=some o/\_ from I.hok d _ hd).1;obtain⟨f0,f1,f2,f3,f4,f5⟩:=hf it (by simp);have hlen:kvs.length=vs.length:=KV.length rel;exact wpAny_pyNext_values_end (I.ok.hd hc) st (fz _ hdo) (Sx (by omega)) fun h' eb=>⟨rfl,I.turned (t':=s.toks) (fun b o hb e=>eb b o hb e) f0 f1 f3 f4 f5⟩
 self:=fun _ _ _ _ _ st h=>Wj st h
section
variable{X:Cx}
def Ll(td:TE):TI:=fun σ H R=>td σ H fun x H1=>∃d kvs,x=.ref d/\H1 d=some (.dK kvs)/\∀o,R (Itv d o kvs) (upd H1 d (.frz o (.dK kvs)))
theorem KQ{tg e:QC}{apos cpos:Sz}{td:TE}(he:PE X e td)(hbase:Sk e "values" X.env (eval e X.env)=eval e X.env:=by rfl)(hline:(apos.endLine==cpos.line)=true:=by rfl):
  PI X tg (.Call (.Attribute e "values" apos) [] [] cpos) (Ll td):=by
 intro pins s σ H R I h;refine TR hbase hline (thn (he pins s σ H _ I h) fun v s1 zz=>?_);obtain⟨x,H1,I1,r1,d,kvs,ex,hd,q⟩:=zz;subst ex;obtain rfl:v=zt d:=r1;obtain⟨z,hS,vs,rel,dd⟩:=Dg I1.hok hd;obtain⟨h1,h2⟩:=qZ (T:="dict") I1 (x:=.ref d) rfl (.inr (.inr (.inl ⟨rfl,.inl ⟨kvs,hd⟩⟩)));refine⟨"dict","dict.values",Ry,RT,TF,h1,h2,RX rfl (UA ?_)⟩;refine S4 RT h1 TU (TH _) (meets_dict_values (aO X.prog X.w) d hS) ⟨⟨vs,dd⟩,?_⟩;have dd':(s1.heap.push {cls:=.type "dict_values",data:=.fields #[.ref d]}).DictOf (aO X.prog X.w) d vs:=dd.push _;obtain⟨o,es,ep,ho,rr⟩:=id dd';have fz:∀h:Qg,h.get? d=some o->h.DictAt (aO X.prog X.w) d vs ep:=fun h hh=>⟨o,es,hh,rr⟩;have I2:Inv X pins σ H1 {s1 with heap:=s1.heap.push {cls:=.type "dict_values",data:=.fields #[.ref d]}}:=I1.kept (t':=s1.toks) fun b ob e=>gf _ e;have hv:(s1.heap.push {cls:=.type "dict_values",data:=.fields #[.ref d]}).IsValuesView s1.heap.objs.size d:=⟨_,rl _ rfl,rfl,rfl⟩;show ni _ _ (pyIter (.ref s1.heap.objs.size)) _ _ _;refine wpAny_pyIter_values hv (fz _ ho) ?_;have I3:Inv X pins σ (upd H1 d (.frz o (.dK kvs))) {s1 with heap:=s1.heap.push {cls:=.type "dict_values",data:=.fields #[.ref d]}}:=
  I2.write (t':=s1.toks) (x:=d) (e:=d) (by rw[hd];trivial) (.inl rfl) (fun _ _ _ e=>e) ⟨o,ho⟩ ⟨ho,z,hS,vs,rel,dd'⟩
 refine⟨_,[_],_,Itv d o kvs,upd H1 d (.frz o (.dK kvs)),rfl,I3.kept (t':=s1.toks) fun b ob e=>gf _ e,EU rel fz,⟨_,rl _ rfl,rfl,rfl⟩,fun b hb=>?_,q o⟩;have eb:b=(s1.heap.push {cls:=.type "dict_values",data:=.fields #[.ref d]}).objs.size:=by simpa using hb
 subst eb;exact I3.fpOk (oh _) (I3.hok.fresh (oh _))
end
theorem Ea{d:dk}{o:QM}{kvs:List (Key×V)}{g:TG}{tt:TT}{te:TE}{σ:St}{H:Hp}{D:dk}{Qe:Hp->Prop}(Pv:Nat->St->Hp->Prop)(h0:Pv 0 σ H)(hl:∀i σ H,i<=kvs.length->Pv i σ H->H d=some (.frz o (.dK kvs)))
  (hs:∀i k v σ H,kvs[i]?=some (k,v)->Pv i σ H->eR g tt te D (Pv (i+ 1)) v σ H) (hd:∀σ H,Pv kvs.length σ H->Qe H):
  ∃W:Nat->Nat->St->Hp->Prop,(∃m,W 0 m σ H)/\∀i m σ' H',W i m σ' H'->((Itv d o kvs).stop i H'/\Qe H')∨((Itv d o kvs).go i H'/\∃N:St->Hp->Prop,(∀σ2 H2,N σ2 H2->∃m',m'<m/\W (i+ 1) m' σ2 H2)/\
   ∀x H'',(Itv d o kvs).yld i H' x H''->eR g tt te D N x σ' H''):=by
 refine⟨fun i m σ H=>m=kvs.length-i/\i<=kvs.length/\Pv i σ H,⟨kvs.length,by simp,Qt _,h0⟩,?_⟩;rintro i m σ H ⟨rfl,hi,p⟩;have q:=hl i σ H hi p;by_cases hlt:i<kvs.length
 ·refine .inr ⟨⟨hlt,q⟩,Pv (i+ 1),fun σ' H' p'=>⟨kvs.length-(i+ 1),by omega,rfl,hlt,p'⟩,fun x H' y=>?_⟩;obtain⟨rfl,k,e1⟩:=y;exact hs i k x σ _ e1 p
 ·have e:i=kvs.length:=by omega
  subst e;exact .inl ⟨⟨oh _,q⟩,hd σ H p⟩
def fzK(J:dk->QM->List (Key×V)->It)(x:V)(H:Hp)(R:It->Hp->Prop):Prop:=∃d kvs,x=.ref d/\H d=some (.dK kvs)/\∀o,R (J d o kvs) (upd H d (.frz o (.dK kvs)))
theorem J0{td:TE}{σ:St}{H:Hp}{R:It->Hp->Prop}(h:td σ H fun x H1=>fzK Itv x H1 R):Ll td σ H R:=h
theorem PV{J:dk->QM->List (Key×V)->It}{H:Hp}{d:dk}{kvs:List (Key×V)}{R:It->Hp->Prop}(hd:H d=some (.dK kvs))(h:∀o A,A d=some (.frz o (.dK kvs))->SmB d H A->R (J d o kvs) A):fzK J (.ref d) H R:=
 ⟨d,kvs,rfl,hd,fun o=>h o _ af fun b u n e=>by rw[aj n];exact e⟩
def sqK(K:cw)(x:V)(H:Hp)(R:It->Hp->Prop):Prop:=∃a,x=.ref a/\(((∃xs,SqL K H a xs)/\R (Itl K a) H)∨((∃xs,SqT K H a xs)/\R (Itt K a) H))
theorem M7{K:cw}{tl:TE}{σ:St}{H:Hp}{R:It->Hp->Prop}(h:tl σ H fun x H1=>sqK K x H1 R):Mh K tl σ H R:=h
theorem HV{K:cw}{a:dk}{xs:List V}{g:TG}{tb:TS}{D:Ends}{σ:St}{H:Hp}(hS:SqL K H a xs∨SqT K H a xs)(Pv:Nat->St->Hp->Prop)(h0:Pv 0 σ H)(hl:∀i σ' H',i<=xs.length->Pv i σ' H'->Same H H')
  (hs:∀i x σ H,xs[i]?=some x->Pv i σ H->g x σ H fun σ2 H2=>tb {D with nx:=Pv (i+ 1),ct:=Pv (i+ 1),bk:=D.nx} σ2 H2) (hd:∀σ H,Pv xs.length σ H->D.nx σ H):
  sqK K (.ref a) H fun J H1=>∃W:Nat->Nat->St->Hp->Prop,(∃m,W 0 m σ H1)/\∀i m σ H,W i m σ H->
   (J.stop i H/\D.nx σ H)∨(J.go i H/\∃N:St->Hp->Prop,(∀σ' H',N σ' H'->∃m',m'<m/\W (i+ 1) m' σ' H')/\∀x H',J.yld i H x H'->g x σ H' fun σ2 H2=>tb {D with nx:=N,ct:=N,bk:=D.nx} σ2 H2):=by
 rcases hS with hS|hS
 ·exact⟨a,rfl,.inl ⟨⟨_,hS⟩,lU Pv h0 (fun i σ' H' hi p=>(hl i σ' H' hi p).seq hS) hs hd⟩⟩
 ·exact⟨a,rfl,.inr ⟨⟨_,hS⟩,KA Pv h0 (fun i σ' H' hi p=>SmT.same (hl i σ' H' hi p) _ _ hS) hs hd⟩⟩
theorem Nv{t:TS}{D:Ends}{σ:St}{H:Hp}{d:dk}{kvs:List (Key×V)}(hd:H d=some (.dK kvs))(h:t {D with nx:=fun σ' H'=>(∃o,H' d=some (.frz o (.dK kvs)))/\D.nx σ' (upd H' d (.dK kvs)),rt:=fun v H'=>(∃o,H' d=some (.frz o (.dK kvs)))/\D.rt v (upd H' d (.dK kvs))} σ H):Lg t D σ H:=⟨d,kvs,hd,h⟩
section
variable{X:Cx}
end
section
variable{X:Cx}
def VwO(v d:dk):HO:=.ext fun h=>h.IsValuesView v d
theorem Bi:MtR X "dict.values" (fun x vs H Q=>∃d kvs,x=.ref d/\vs=[]/\H d=some (.dK kvs)/\∀v,H v=none->Q (.ref v) (upd H v (VwO v d))):=by
 intro pins s σ H x xs v us Q I rx rv h;obtain⟨d,kvs,rfl,rfl,hd,q⟩:=h;cases rx;cases rv;obtain⟨z,hS,vs,rel,dd⟩:=Dg I.hok hd;obtain⟨h1,h2⟩:=qZ (T:="dict") I (x:=.ref d) rfl (.inr (.inr (.inl ⟨rfl,.inl ⟨kvs,hd⟩⟩)));refine S4 RT h1 TU (TH _) (meets_dict_values (aO X.prog X.w) d hS) ⟨⟨vs,dd⟩,?_⟩;refine⟨.ref s.heap.objs.size,_,I.laid (o:=VwO s.heap.objs.size d) (t':=s.toks) (fun b ob e=>gf _ e) (oh _) ⟨⟨_,rl _ rfl,rfl,rfl⟩,⟨_,rl _ rfl⟩,fun h1 h2 ⟨o,e1,e2,e3⟩ k=>⟨o,k o e1,e2,e3⟩⟩,rfl,q _ (I.hok.fresh (oh _))⟩
theorem BZ(hc:X.calm=true):cE X (.type "list") (fun xs H Q=>∃(v d:dk) (kvs:List (Key×V)),xs=[.ref v]/\H v=some (VwO v d)/\Rd H d (.dK kvs)/\kvs.length<=1000/\∀l,H l=none->Q (.ref l) (upd H l (.lst (kvs.map (·.2))))):=by
 intro pins s σ H xs us Q I r h;obtain⟨v,d,kvs,rfl,hv,hd,hlen,q⟩:=h;obtain⟨u,rfl,rx⟩:=vals1 r;cases rx;obtain⟨z,hS,vs,rel,dd⟩:=jm I.hok hd;obtain⟨ep,hat⟩:=dd.dictAt;have hl:vs.length=kvs.length:=(KV.length rel).symm;have hvw:s.heap.IsValuesView v d:=(I.hok v _ hv).1;refine Uc (A:=X.A) (PySem.W.kdl_values (knd:=aO X.prog X.w) (kvs:=vs) (ep:=ep)) (I.ok.hd hc) ⟨hvw,hat⟩ (by rw[hl];exact QG (aD (by omega))) fun h' tk acc c hk he hacc=>?_;refine⟨.ref s.heap.objs.size,_,I.laid (o:=.lst (kvs.map (·.2))) (t':=tk) hk (oh _) ⟨by rw[gm];exact QG (aD hlen),acc.toList,c,oz ?_ fun i x u hx hu=>?_,he⟩,rfl,q _ (I.hok.fresh (oh _))⟩
 ·have e:acc.toList.length=vs.length:=by rw[QI];exact hacc.1
  rw[gm,e,hl]
 ·rw[QV]at hu;obtain⟨k,hk⟩:=hacc.2 i u hu;rw[CA]at hx;cases e:kvs[i]? with
  |none=>rw[e]at hx;cases hx
  |some p=>
   rw[e]at hx;cases hx;obtain⟨u',hu',ru⟩:=rel.get (k:=p.1) (v:=p.2) e;rw[hk]at hu';cases hu';exact ru
theorem O7{K:cw}{H:Hp}{a:dk}{kvs:List (Key×V)}{P:Prop}(hd:H a=some (.dK kvs))(h:P):tyV K "dict" (.ref a) H/\P:=⟨.inr (.inr (.inl ⟨rfl,.inl ⟨kvs,hd⟩⟩)),h⟩
end
section
variable{X:Cx}
end
end L2
namespace GX
open PySem
section
variable{prog:Qo}{w:Qu}{A:QR}{E:cT->lr->Prop}{s:lr}{K:Type}[DecidableEq K]{knd:UI prog w K}
end
end GX
namespace L2
open PySem PySem.Spec PyProof.Rows
section
variable{X:Cx}
end
end L2
namespace GX
open PySem PyProof.Rows
end GX
namespace L2
open PySem PySem.Spec PyProof.Rows
theorem c8{α β:Type}{F:α->β->Prop}:∀{l:List α} {m:List β} {i:Nat} {a:α},Paired F l m->l[i]?=some a->∃b,m[i]?=some b/\F a b
 |_,_,_,_,.nil,e=>by simp at e
 |_,_,0,_,.cons h _,e=>by simp at e;subst e;exact⟨_,rfl,h⟩
 |_,_,i+ 1,x,.cons _ t,e=>by
  obtain⟨b,h1,h2⟩:=c8 (i:=i) t (by simpa using e);exact⟨b,by simpa using h1,h2⟩
section
variable{X:Cx}
end
end L2
namespace HT
open PySem PyProof.Rows
section
open PySem.SeqAt
open PySem.AutoSeq1 (wpAny_loadPart')
open PySem.MeetsSeq PySem.MeetsSeq2 PySem.MeetsSeq3
end
section
variable{prog:Qo}{w:Qu}{A:QR}{E:cT->lr->Prop}{s:lr}
end
end HT
namespace L2
open PySem PySem.Spec PyProof.Rows
section
variable{X:Cx}
end
section
variable{me hd ba ye vo re ag v:V}
end
end L2
namespace GX
open PySem PyProof.Rows
variable{prog:Qo}{w:Qu}{A:QR}{n:Nat}{b:dk}
section
variable{R:S3->lr->Prop}{I d:dk}{fp wr:List dk}{P:Nat->cT->Prop}{St:Nat->Qg->Prop}{K:Type}[DecidableEq K]{knd:UI prog w K}
def gy(kx:List (List K×dk×cT)):List (List K×dk×cT):=kx.foldl (fun acc p=>storedH acc p.1 p.2.1 p.2.2) []
theorem x9(kx:List (List K×dk×cT))(p:List K×dk×cT):gy (kx++[p])=storedH (gy kx) p.1 p.2.1 p.2.2:=by
 unfold gy;rw[U6];rfl
theorem zx{xs:List (List K×dk×cT)}{k:List K}{v:cT}{x:List K×dk×cT}(h:x∈storedH xs k b v):(∃y∈xs,y.1=x.1/\y.2.1=x.2.1)∨x=(k,b,v):=by
 unfold storedH at h;by_cases z:(atKey xs k).isSome=true
 ·rw[if_pos z]at h;obtain⟨y,hy,e⟩:=QE.mp h;refine .inl ⟨y,hy,?_⟩;rw[←e];unfold putAt;split<;>exact⟨rfl,rfl⟩
 ·rw[if_neg z]at h;rcases Qw.mp h with q|q
  ·exact .inl ⟨x,q,rfl,rfl⟩
  ·exact .inr (tw.mp q)
theorem zd(xs:List (List K×dk×cT))(k:List K)(b:dk)(v:cT):(storedH xs k b v).length<=xs.length+ 1:=by
 unfold storedH;split
 ·rw[gm];omega
 ·rw[xp];exact oh _
theorem kM{G:List K->dk->Prop}:∀(kx acc:List (List K×dk×cT)),(∀x∈acc,G x.1 x.2.1)->(∀p∈kx,G p.1 p.2.1)->(∀x∈kx.foldl (fun acc p=>storedH acc p.1 p.2.1 p.2.2) acc,G x.1 x.2.1)/\(kx.foldl (fun acc p=>storedH acc p.1 p.2.1 p.2.2) acc).length<=acc.length+ kx.length
 |[],acc,ha,_=>⟨ha,oh _⟩
 |p::kx,acc,ha,h=>by
  have hp:=h p xl;have:=kM (G:=G) kx (storedH acc p.1 p.2.1 p.2.2) (fun x hx=>by
   rcases zx hx with⟨y,hy,e1,e2⟩|e
   ·have:=ha y hy;rw[e1,e2]at this;exact this
   ·rw[e];exact hp) (fun q hq=>h q (xj _ hq))
  refine⟨this.1,?_⟩;have l:=zd acc p.1 p.2.1 p.2.2;have l2:=this.2;simp only[Sb,QL];omega
theorem As{h h':Qg}{k:List K}(x:IsTupleKey knd h k b)(e:∀o,h.get? b=some o->h'.get? b=some o):IsTupleKey knd h' k b:=by
 obtain⟨o,items,n,ho,r⟩:=x;exact⟨o,items,n,e o ho,r⟩
def DT(knd:UI prog w K)(h:Qg)(d:dk)(xs:List (List K×dk×cT)):Prop:=∃o es ep,h.get? d=some o/\o.ExactDict/\o.data=.dict es ep/\es.toList=xs.map (entryOfKey (tupleKind knd))/\(xs.map (·.1)).Nodup
theorem Fc(W:VH prog w A.in1 I fp wr n P St)(nd:d∉fp)(h₀:Qg)(kx:List (List K×dk×cT))(hn:kx.length=n)(hz:n<=sizeLine)(hu:(tupleKind knd).room A.in1)
  (hK:∀p∈kx,IsTupleKey knd h₀ p.1 p.2.1/\p.2.1≠d/\p.2.1∉wr)
  (hP:∀i v,P i v->∃a k b x o c,v=.ref a/\kx[i]?=some (k,b,x)/\h₀.get? a=some o/\o.cls=.type "tuple"/\o.data=.seq #[.ref b,x] c/\a≠d/\a∉wr):
  ∀(k i:Nat) (s:lr) (t:TQ),n=i+ k->St i s.heap->(∀b o,b∉wr->b≠d->h₀.get? b=some o->s.heap.get? b=some o)->DT knd s.heap d (gy (kx.take i))->
  (∀h' tk,(∀b o,b∉wr->b≠d->h₀.get? b=some o->h'.get? b=some o)->DT knd h' d (gy kx)->R (.ok (.ret .none)) {s with heap:=h',toks:=tk})->
  QW (model prog w) A (.builtin "dict.update.loop" ⟨[.ref d,.ref I,.int i t,.none],[]⟩) R s:=by
 have nw:d∉wr:=fun z=>nd (W.sub _ z);have isAt:∀(h:Qg) (j:Nat),(∀b o,b∉wr->b≠d->h₀.get? b=some o->h.get? b=some o)->∀x∈gy (kx.take j),IsTupleKey knd h x.1 x.2.1:=fun h j kp=>(kM (G:=fun k b=>IsTupleKey knd h k b) (kx.take j) [] (fun x hx=>(nomatch hx)) (fun p hp=>by
  obtain⟨q1,q2,q3⟩:=hK p (Wk hp);exact As q1 fun o e=>kp _ o q3 q2 e)).1
 intro k i s t en st kp dd fin;refine Gn (D:=fun i h=>(∀b o,b∉wr->b≠d->h₀.get? b=some o->h.get? b=some o)/\DT knd h d (gy (kx.take i))) W nd ?_ ?_ k i s t en st ⟨kp,dd⟩ fun h tk q=>fin h tk q.1 ?_
 ·rintro i h h' ⟨kp,od,es,ep,ho,r⟩ q;exact⟨fun b o nb nb' e=>q b o nb (kp b o nb nb' e),od,es,ep,q d od nw ho,r⟩
 ·rintro i v s pv ⟨kp,od,es,ep,ho,r1,r2,r3,r4⟩;obtain⟨a,k,b,x,o,c,rfl,hx,ha,hc,hd,na,naw⟩:=hP i v pv;obtain⟨q1,q2,q3⟩:=hK _ (QA hx);have len:=(kM (G:=fun _ _=>True) (kx.take i) [] (fun _ _=>trivial) fun _ _=>trivial).2;refine⟨a,o,.ref b,x,c,rfl,kp a o naw na ha,hc,hd,fun Q q=>wpAny_dictSet_heap (knd:=tupleKind knd) hu (As q1 fun o e=>kp _ o q3 q2 e) ⟨od,es,ep,ho,r1,r2,r3,isAt s.heap i kp,r4⟩ (fun h2 d2 sb=>q h2 ⟨fun b o nb nb' e=>(sb.2 b nb').trans (kp b o nb nb' e),?_⟩ sb.2 _) (QT len (by rw[Q9,Sa];omega))⟩;obtain⟨od,es,ep,ho,r1,r2,r3,_,r4⟩:=d2;rw[Yd,hx,Option.toList_some,x9];exact⟨od,es,ep,ho,r1,r2,r3,r4⟩
 ·have z:=q.2;rwa [←hn,Qq]at z
end
section
variable{E:cT->lr->Prop}{s:lr}{K:Type}[DecidableEq K]{knd:UI prog w K}
theorem vK{l:dk}{vs:List cT}{kx:List (List K×dk×cT)}{Q:cT->lr->Prop}(hA:A.handled=none)(hu:(tupleKind knd).room A.in1.in1)(hl:s.heap.get? l=some {cls:=.type "list",dict:=none,data:=.seq vs.toArray n,slots:=#[]})(hz:vs.length<=sizeLine)(hlen:kx.length=vs.length)(hK:∀p∈kx,IsTupleKey knd s.heap p.1 p.2.1)(hP:∀(i:Nat) v,vs[i]?=some v->∃a k b x o c,v=.ref a/\kx[i]?=some (k,b,x)/\s.heap.get? a=some o/\o.cls=.type "tuple"/\o.data=.seq #[.ref b,x] c)(h:∀h' tk,(∀b o,s.heap.get? b=some o->h'.get? b=some o)->DT knd h' s.heap.objs.size (gy kx)->Q (.ref s.heap.objs.size) {s with heap:=h',toks:=tk}):
  ni (model prog w) A (call (.type "dict") [.ref l]) Q E s:=by
 have hl':(newD s.heap).get? l=some {cls:=.type "list",dict:=none,data:=.seq vs.toArray n,slots:=#[]}:=gf _ hl;refine tQ (T:="list") ⟨_,hl',rfl⟩ (by decide) (CH hA hl' fun h1 tk1 k1=>⟨rfl,?_⟩);have hl1:=k1 l _ hl';have lt1:l<h1.objs.size:=vc hl1;have ld:l<s.heap.objs.size:=vc hl;have il:h1.IsList l vs.toArray:=⟨_,hl1,rfl,n,rfl⟩;have d1:DT knd h1 s.heap.objs.size []:=by
  obtain⟨od,es,ep,ho,r1,r2,r3,_,r4⟩:=Heap.DictOfH.new (knd:=tupleKind knd) s.heap;exact⟨od,es,ep,k1 _ _ ho,r1,r2,r3,r4⟩
 have dlt:s.heap.objs.size<h1.objs.size:=by
  obtain⟨od,es,ep,ho,r⟩:=d1;exact vc ho
 have hI:∀{b:dk},b<h1.objs.size->b≠h1.objs.size:=fun z=>xy z;have nw:∀{b:dk},b<s.heap.objs.size->b∉[h1.objs.size]:=fun{b} hb z=>by
  have z':b=h1.objs.size:=by simpa using z
  exact absurd (Vg hb dlt) (by rw[z'];exact QD _)
 refine wpAny_pyIter_list (s:={s with heap:=h1,toks:=tk1}) il ?_;have W:=U9 (prog:=prog) (w:=w) (A:=A.in1.in1) hA h1.objs.size l (hI lt1) vs.toArray;refine Fc (A:=A.in1) (knd:=knd) W (d:=s.heap.objs.size) ?_ s.heap kx (by rw[hlen,xu]) (by rw[xu];exact hz) hu (fun p hp=>?_) (fun i v hv=>?_) vs.toArray.size 0 _ 0 (by omega)
  ⟨⟨_,rl _ rfl,rfl,rfl⟩,il.push _⟩ (fun b o _ nb e=>gf _ (k1 b o (gf _ e))) ?_ fun h2 tk2 k2 d2=>?_
 ·intro z;have z':s.heap.objs.size=h1.objs.size∨s.heap.objs.size=l:=by simpa using z
  rcases z' with z'|z'
  ·exact absurd dlt (by rw[z'];exact QD _)
  ·exact absurd ld (by rw[z'];exact QD _)
 ·have q:=hK p hp;obtain⟨o,items,m,ho,r⟩:=id q;exact⟨q,xy (vc ho),nw (vc ho)⟩
 ·obtain⟨a,k,b,x,o,c,e1,e2,e4,e5,e6⟩:=hP i v (by simpa using hv);exact⟨a,k,b,x,o,c,e1,e2,e4,e5,e6,xy (vc e4),nw (vc e4)⟩
 ·obtain⟨od,es,ep,ho,r⟩:=d1;exact⟨od,es,ep,gf _ ho,r⟩
 ·exact⟨rfl,h h2 tk2 (fun b o e=>k2 b o (nw (vc e)) (xy (vc e)) e) d2⟩
end
end GX
namespace L2
open PySem PySem.Spec PyProof.Rows
variable{X:Cx}{pins:List (dk×QM)}{σ:St}{H:Hp}{s:lr}{l f a:dk}{xs:List V}{its vs:List cT}{ks:List (List Int)}{k n:Nat}{fd:xw}{ps:List pe}{sp:Sp}{Q E:cT->lr->Prop}{A:QR}{te td:TE}{prog:Qo}{w:Qu}{P:U5->lr->Prop}{p:Array Nat}{h h':Qg}{v:cT}{b:Bool}
abbrev AE(H:Hp):List V->List (List Key×V)->Prop:=Paired fun x q=>∃a b,x=.ref a/\H a=some (.tup [.ref b,q.2])/\H b=some (.tup (q.1.map kV))
def hV(ps:List (List Key×V)):List (List Key×V):=ps.foldl (fun acc p=>putK acc p.1 p.2) []
section
theorem vP{pins:List (dk×QM)}{σ:St}{H:Hp}{s:lr}(I:Inv X pins σ H s):∀{xs:List V} {us:List cT} {ps:List (List Key×V)},AE H xs ps->Vals xs us->
  ∃kx:List (List Key×dk×cT),Paired (fun(p:List Key×V) (q:List Key×dk×cT)=>p.1=q.1/\H q.2.1=some (.tup (p.1.map kV))/\RelV p.2 q.2.2) ps kx/\kx.length=us.length/\∀(i:Nat) v,us[i]?=some v->∃a k b x o c,v=.ref a/\kx[i]?=some (k,b,x)/\s.heap.get? a=some o/\o.cls=.type "tuple"/\o.data=.seq #[.ref b,x] c
 |_,_,_,.nil,.nil=>⟨[],.nil,rfl,fun i v e=>by simp at e⟩
 |x::xs,u::us,p::ps,.cons h t,.cons r q=>by
  obtain⟨kx,k1,k2,k3⟩:=vP I t q;obtain⟨a,b,rfl,ha,hb⟩:=h;obtain rfl:u=zt a:=r;obtain⟨_,its,rv,o,ho,hc,n,hd,_⟩:[V.ref b,p.2].length<=sizeLine/\∃its:List cT,Vals [V.ref b,p.2] its/\IsTpl s.heap a its.toArray:=I.hok a _ ha;obtain⟨u1,u2,rfl,r1,r2⟩:=vals2 rv;obtain rfl:u1=zt b:=r1;refine⟨(p.1,b,u2)::kx,.cons ⟨rfl,hb,r2⟩ k1,congrArg (·+ 1) k2,fun i v e=>?_⟩;cases i with
  |zero=>
   have e':zt a=v:=Qj e;subst e';exact⟨a,p.1,b,u2,o,n,rfl,rfl,ho,hc,hd⟩
  |succ i=>exact k3 i v e
theorem DE{H:Hp}:∀{ps:List (List Key×V)} {kx:List (List Key×dk×cT)},Paired (fun(p:List Key×V) (q:List Key×dk×cT)=>p.1=q.1/\H q.2.1=some (.tup (p.1.map kV))/\RelV p.2 q.2.2) ps kx->∀{acc:List (List Key×V)} {xs:List (List Key×dk×cT)},KT H acc xs->
  KT H (ps.foldl (fun acc p=>putK acc p.1 p.2) acc) (kx.foldl (fun acc p=>storedH acc p.1 p.2.1 p.2.2) xs)
 |_,_,.nil,_,_,h=>h
 |p::ps,q::kx,.cons ⟨e1,e2,e3⟩ t,acc,xs,h=>by
  rw[Sb,Sb];refine DE t ?_;rw[←e1];exact h.put p.1 e2 e3
theorem AX(ps:List (List Key×V)):∀acc:List (List Key×V),(ps.foldl (fun acc p=>putK acc p.1 p.2) acc).length<=acc.length+ ps.length:=by
 induction ps with
 |nil=>intro acc;exact oh _
 |cons p ps ih=>
  intro acc;have h1:=ih (putK acc p.1 p.2);have h2:=mC acc p.1 p.2;simp only[Sb,QL];omega
theorem rC(hc:X.calm=true)(hu:X.A.units+ 2<RM):cE X (.type "dict") (fun xs H Q=>∃(a:dk) (ys:List V) (ps:List (List Key×V)),xs=[.ref a]/\H a=some (.lst ys)/\AE H ys ps/\ps.length<=1000/\∀p,H p=none->Q (.ref p) (upd H p (.dT (hV ps)))):=by
 intro pins s σ H xs us Q I r h;obtain⟨a,ys,ps,rfl,ha,hp,hl,q⟩:=h;obtain⟨u,rfl,rx⟩:=vals1 r;cases rx;obtain⟨z,its,n,rv,hlen,e⟩:=I.lstM ha;obtain⟨kx,k1,k2,k3⟩:=vP I hp rv;have hK:∀p∈kx,IsTupleKey (aO X.prog X.w) s.heap p.1 p.2.1:=by
  have all:∀{l:List (List Key×V)} {m:List (List Key×dk×cT)},Paired (fun(p:List Key×V) (q:List Key×dk×cT)=>p.1=q.1/\H q.2.1=some (.tup (p.1.map kV))/\RelV p.2 q.2.2) l m->∀x∈m,IsTupleKey (aO X.prog X.w) s.heap x.1 x.2.1:=by
   intro l m q
   induction q with
   |nil=>intro x hx;exact nomatch hx
   |@cons a b as bs h t ih=>
    intro x hx;rcases uc.mp hx with z|z
    ·rw[z,←h.1];exact key_of I.hok h.2.1
    ·exact ih x z
  exact all k1
 refine GX.vK (knd:=aO X.prog X.w) (I.ok.hd hc) ?_ e (by rw[←hlen];exact z) k2 hK k3 fun h' tk kp dd=>?_
 ·exact hu
 have I0:Inv X pins σ H {s with heap:=h',toks:=tk}:=I.kept kp;obtain⟨o,es,ep,ho,r1,r2,r3,r4⟩:=dd;refine⟨.ref s.heap.objs.size,_,I.laid (o:=.dT (hV ps)) (t':=tk) kp (oh _) ⟨?_,beq_eq_false_iff_ne.mpr (QH (xy I.big)),GX.gy kx,?_,o,es,ep,ho,r1,r2,r3,r4⟩,rfl,q _ (I.hok.fresh (oh _))⟩
 ·have:=AX ps [];rw[Sa]at this;exact QG (aD (by unfold hV;omega))
 ·refine(DE k1 .nil).keeps fun c zs ec=>?_;rw[aj (ai ec (I.hok.fresh (oh _)))];exact ec
end
abbrev Cx.one(X:Cx):Cx:={X with A:=X.A.in1,xe:=fun _ _=>False}
section
theorem Inv.one(I:Inv X pins σ H s):Inv X.one pins σ H s:=
 ⟨⟨I.ok.mod,I.ok.kind,I.ok.glob,I.ok.blt,I.ok.above,I.ok.inj,I.ok.has,I.ok.cab,I.ok.hd,I.ok.frames,I.ok.stk,I.ok.exf,I.ok.bs,I.ok.bsz,I.ok.noex,I.ok.exfs,I.ok.funs,I.ok.frf⟩,I.os,I.bare,I.base,I.loc,I.cell,I.free,I.freeC,I.pin,I.hok,I.len⟩
theorem Inv.back(ok:X.Ok)(I:Inv X.one pins σ H s):Inv X pins σ H s:=
 ⟨ok,I.os,I.bare,I.base,I.loc,I.cell,I.free,I.freeC,I.pin,I.hok,I.len⟩
end
theorem Cy:∀a:List Int,HT.lexLt a a=false
 |[]=>rfl
 |x::a=>by rw[HT.jN,if_pos rfl];exact Cy a
theorem zb:∀{a b:List Int},HT.lexLt a b=true->HT.lexLt b a=false
 |[],[],h=>by cases h
 |[],_::_,_=>rfl
 |_::_,[],h=>by cases h
 |x::a,y::b,h=>by
  rw[HT.jN]at h⊢;by_cases z:x=y
  ·rw[if_pos z]at h;rw[if_pos z.symm];exact zb h
  ·rw[if_neg z]at h;rw[if_neg (fun w=>z w.symm)];have h:=of_decide_eq_true h;exact decide_eq_false (by omega)
theorem CI:∀{a b c:List Int},HT.lexLt a b=true->HT.lexLt c b=false->HT.lexLt a c=true
 |[],[],_,h,_=>by cases h
 |_::_,[],_,h,_=>by cases h
 |[],_::_,[],_,h=>by cases h
 |[],_::_,_::_,_,_=>rfl
 |x::a,y::b,[],h,h2=>by cases h2
 |x::a,y::b,z::c,h,h2=>by
  rw[HT.jN]at h h2⊢;by_cases e1:x=y
  ·rw[if_pos e1]at h;by_cases e2:z=y
   ·rw[if_pos e2]at h2;rw[if_pos (e1.trans e2.symm)];exact CI h h2
   ·rw[if_neg e2]at h2;have h2:=of_decide_eq_false h2;rw[if_neg (fun w=>e2 (w.symm.trans e1))];exact decide_eq_true (by omega)
  ·rw[if_neg e1]at h;have h:=of_decide_eq_true h;by_cases e2:z=y
   ·rw[if_neg (fun w=>e1 (w.trans e2))];exact decide_eq_true (by omega)
   ·rw[if_neg e2]at h2;have h2:=of_decide_eq_false h2;rw[if_neg (by omega)];exact decide_eq_true (by omega)
section
theorem Ml(a v d:cT):argsOk "min" ⟨[a],[(QO "key",v),(QO "default",d)]⟩:=by unfold argsOk;kernel_rfl
theorem LR(d:cT)(hh:X.A.handled=none)(hu:X.A.units+ 2<RM)(F:FnOk X.prog X.w X.K X.mg X.base CX0 k f fd ps sp)(hr:Room k X.A.in1)(hb:Binds X.K fd ps [])(IV:Inv X pins σ H s)(rv:Vals xs its)(lk:xs.length=ks.length)(lst:∀s H',Inv X pins σ H' s->Same H H'->s.heap.IsList l its.toArray)(KY:∀(i:Nat) x k H3 (Q':VK),xs[i]?=some x->ks[i]?=some k->Same H H3->(∀H4 t,Same H3 H4->SqT X.K H4 t (k.map V.int)->Q' (.ref t) H4)->sp [x] H3 Q' E0)(hD:xs=[]->∀s',Inv X pins σ H s'->Q d s')(hR:∀(i:Nat) v kb s' H',its[i]?=some v->ks[i]?=some kb->(∀(j':Nat) k',ks[j']?=some k'->HT.lexLt k' kb=false/\(j'<i->HT.lexLt kb k'=true))->Inv X pins σ H' s'->Same H H'->Q v s'):
  ni (model X.prog X.w) X.A (call (.builtin "min") [.ref l] [(QO "key",.ref f),(QO "default",d)]) Q E s:=by
 have lx:=rv.length;have fp:∀x H',x=s.heap.objs.size∨x=s.heap.objs.size+ 1->H' x=none->kE X pins H' x:=fun x H' hx n=>IV.fpOk (by rcases hx with rfl|rfl<;>omega) n;refine GX.wg GX.wL GX.yY VP Sq (ko:=some (.ref f)) (d:=some d) (vs:=its) hh rfl (Ml _ _ _) (lst s H IV (.refl _)) (bt:=fun i j=>HT.lexLt (ks.getD i []) (ks.getD j []))
  (G:=fun L s'=>∃H',Inv X pins σ H' s'/\(Same H H'/\(L=[]->H'=H))/\(∀x,x=s.heap.objs.size∨x=s.heap.objs.size+ 1->H' x=none)/\∀p∈L,∃t k,p.2=.ref t/\ks[p.1]?=some k/\SqT X.K H' t (k.map V.int))
  ⟨fun i=>Cy _,fun i j=>zb,fun a b c=>CI,?_,?_,?_,?_,?_,?_⟩ ?_ ?_ ?_
 ·exact fun p q L s' ⟨H',a,b,c,e⟩=>⟨H',a,⟨b.1,fun z=>nomatch z⟩,c,fun q hq=>e q (xj _ hq)⟩
 ·exact fun p L s' ⟨H',a,b,c,e⟩=>⟨H',a,⟨b.1,fun z=>nomatch z⟩,c,fun q hq=>e q (tw.mp hq▸xl)⟩
 ·rintro x L s' h tk hx ⟨H',a,b,c,e⟩ kp;obtain⟨f0,f1,f2,f3,f4,f5⟩:=fp x H' hx (c x hx);exact⟨H',a.turned (it:=x) kp f0 f1 f3 f4 f5,b,c,e⟩
 ·exact fun L s' ⟨H',a,b,_⟩=>lst s' H' a b.1
 ·rintro L s' j v a c m ⟨H',I1,⟨sm,_⟩,nn,hL⟩ hv hS hI;obtain⟨oI,gI,cI,dI⟩:=id hI;have hx:j<xs.length:=by have:=(pk.mp hv).1;omega
  obtain⟨v',hv',rx⟩:=rv.get (xi hx);cases hv.symm.trans hv';have hk:ks[j]?=some (ks[j]'(lk▸hx)):=xi _;have pl:∀b∈[s.heap.objs.size+ 1,s.heap.objs.size],b=s.heap.objs.size∨b=s.heap.objs.size+ 1:=fun b hb=>by simp at hb;exact hb.symm
  have IP:=I1.pinned (fp:=[s.heap.objs.size+ 1,s.heap.objs.size]) (fun b hb=>fp b H' (pl b hb) (nn b (pl b hb))) fun b hb=>by
   rcases pl b hb with rfl|rfl
   ·exact⟨oI,gI,fun z e=>by rw[dI]at e;cases e⟩
   ·exact⟨_,hS,fun z e=>nomatch e⟩
  refine wpAny_mono (lW (X:=X.one) (vs:=[xs[j]]) (us:=[v]) (Q:=fun z H4=>∃t,z=.ref t/\Same H' H4/\SqT X.K H4 t ((ks[j]'(lk▸hx)).map V.int)) (E:=E0) (dvs:=[]) (ds:=[]) F hr hb .nil (fun _ _ _ _ _ _ _ q=>q.elim) IP.one (.cons rx .nil) (by
   rw[Q2];exact KY j _ _ H' _ (xi hx) hk sm fun H4 t s4 h4=>⟨t,rfl,s4,h4⟩)) ?_ fun _ _ q=>q.elim
  rintro u s2 ⟨z,H4,I4,rz,t,rfl,s4,ht⟩;cases rz;have I4:=Inv.back IV.ok I4;have at_:∀b o,b∈[s.heap.objs.size+ 1,s.heap.objs.size]->s'.heap.get? b=some o->s2.heap.get? b=some o/\H4 b=none:=fun b o hb e=>
   let r:=I4.pin (b,o) (Qi _ (Qi _ (fc hb e)))
   ⟨r.1,r.2.1⟩
  have aS:=at_ _ _ (by simp) hS;have aI:=at_ _ _ (by simp) gI;refine⟨⟨H4,I4.unpinned,⟨sm.trans s4,fun z=>nomatch z⟩,fun x hx=>?_,fun p hp=>?_⟩,aS.1,oI,aI.1,cI,dI⟩
  ·rcases hx with rfl|rfl
   ·exact aI.2
   ·exact aS.2
  ·rcases uc.mp hp with rfl|hp
   ·exact⟨t,_,rfl,hk,ht⟩
   ·obtain⟨t',k',e1,e2,e3⟩:=hL p hp;exact⟨t',k',e1,e2,SmT.same s4 _ _ e3⟩
 ·rintro i j y y' s' ⟨H',I1,_,nn,hL⟩;obtain⟨t1,k1,rfl,e1,h1⟩:=hL (j,y) (by simp);obtain⟨t2,k2,rfl,e2,h2⟩:=hL (i,y') (by simp);obtain⟨ia,ra,pa,_⟩:=I1.tuple h1;obtain⟨ib,rb,pb,_⟩:=I1.tuple h2;refine HT.Bm (A:=X.A.in1) pa pb (intsAre_of ra) (intsAre_of rb) (by show X.A.units+ 1<RM;omega) ⟨?_,rfl⟩;simp[Qs,e1,e2]
 ·exact fun h kp=>⟨H,IV.kept (t':=s.toks) kp,⟨.refl _,fun _=>rfl⟩,fun x hx=>IV.hok.fresh (by rcases hx with rfl|rfl<;>omega),by simp⟩
 ·exact fun e=>⟨d,rfl,fun s' ⟨H',a,b,_⟩=>hD (Rr (by rw[lx,e];rfl)) s' (b.2 rfl▸a)⟩
 ·rintro i v y s' hv ft ⟨H',I1,⟨sm,_⟩,nn,hL⟩;obtain⟨t,k',_,e1,_⟩:=hL (i,y) (by simp);refine hR i v k' s' H' hv e1 (fun j k2 hj=>?_) I1 sm;have b:=ft j (by have:=(pk.mp hj).1;omega);simpa [Qs,e1,hj]using b
end
theorem Room.one(r:Room (k+ 1) A):Room k A.in1:=⟨r.hd,by have:=r.dp;show A.depth+ 3*k+ 5<UD;omega,by have:=r.un;show A.units+ 1+ 16*k+ 200<RM;omega⟩
def LZ(K:cw)(sp:Sp)(x y:V)(H2:Hp)(Q:VK):Prop:=∃(l:dk) (xs:List V) (ks:List (List Int)),x=.ref l/\SqL K H2 l xs/\xs.length=ks.length/\(∀x∈xs,∃p,x=V.ref p)/\
 (∀(i:Nat) (x:V) (k:List Int) (H3:Hp) (Q':VK),xs[i]?=some x->ks[i]?=some k->Same H2 H3->(∀H4 t,Same H3 H4->SqT K H4 t (k.map V.int)->Q' (.ref t) H4)->sp [x] H3 Q' E0)/\(xs=[]->Q y H2)/\
 ∀(i:Nat) (v:V) (kb:List Int) (H':Hp),xs[i]?=some v->ks[i]?=some kb->(∀(j':Nat) k',ks[j']?=some k'->HT.lexLt k' kb=false/\(j'<i->HT.lexLt kb k'=true))->Same H2 H'->Q v H'
def K8(K:cw)(sp:Sp)(te td:TE):TE:=fun σ H Q=>te σ H fun x H1=>td σ H1 fun y H2=>LZ K sp x y H2 Q
theorem wz:∀{xs:List V} {a b:List cT},Vals xs a->Vals xs b->(∀x∈xs,∃p,x=V.ref p)->a=b
 |_,_,_,.nil,.nil,_=>rfl
 |x::xs,_,_,.cons r1 t1,.cons r2 t2,h=>by
  obtain⟨p,rfl⟩:=h x xl;rw[wz t1 t2 fun y hy=>h y (xj _ hy)];cases r1;cases r2;rfl
section
theorem EL{K:cw}{e dflt:QC}{p p2 pos k1 k2:Sz}{fx:pe}(hK:X.K=K)(hc:X.calm=true)(hu:X.A.units+ 2<RM)(ha:PA X [e] (um te AD))(hd:PE X dflt td)(hg:Gl X "min")(hm:X.mg "min"=none)(G:FnOk X.prog X.w X.K X.mg X.base CX0 k f fd ps sp)(hmk:X.mg fx=some (.ref f))(hbk:Binds X.K fd ps [])(hgk:Gl X fx)(hr:Room (k+ 1) X.A)(hdb:(fx==("__debug__":pe))=false:=by decide)(h1:backTo pos (starEach [e] X.env)=(false,eval e X.env)::backTo pos (starEach [] X.env):=by rfl)(h2:(backTo pos (starEach [e] X.env)).any (·.1)=false:=by rfl):
  PE X (.Call (.Name "min" p) [e] [⟨some "key",.Name fx p2,k1⟩,⟨some "default",dflt,k2⟩] pos) (K8 K sp te td):=by
 subst hK;intro pins s σ H Q I h;refine RN (my I hg hm S5 ?_);refine Ux ?_ h1 h2;refine thn (ha pos pins s σ H (fun vs H1=>match vs with|[x]=>td σ H1 fun y H2=>LZ X.K sp x y H2 Q|_=>False) I h) fun us s1 zz=>?_;obtain⟨vs,H1,I1,r1,q1⟩:=zz;obtain⟨x,rfl⟩:∃x,vs=[x]:=by
  match vs,q1 with
  |[x],_=>exact⟨x,rfl⟩
 obtain⟨u,rfl,rx⟩:=vals1 r1;refine Uj (mQ I1 hgk hmk ?_ hdb);refine Uj (thn (hd pins s1 σ H1 _ I1 q1) fun w s2 zz=>?_);obtain⟨y,H2,I2,ry,l,xs,ks,ex,hl,lk,rfs,KY,q0,q⟩:=zz;subst ex;cases rx;refine Wl ?_;obtain⟨its,rv,pl,hz⟩:=I2.list hl;have lx:=rv.length;show ni _ _ (call (.builtin "min") [zt l] [(QO "key",.ref f),(QO "default",w)]) _ _ _;refine LR (H:=H2) w (I2.ok.hd hc) hu G (Room.one hr) hbk I2 rv lk (fun s' H' I' sm=>?_) KY (fun e s' I'=>⟨y,H2,I',ry,q0 e⟩) (fun i v kb s' H' hv hkb best I' sm=>?_)
 ·obtain⟨its',rv',pl',_⟩:=I'.list (sm.seq hl);rw[wz rv rv' rfs];exact pl'.isList
 ·have hi:i<xs.length:=by rw[lx];exact(pk.mp hv).1
  obtain⟨u',hu',ru⟩:=rv.get (xi hi);rw[hv]at hu';cases hu';exact⟨xs[i],H',I',ru,q i _ kb H' (xi hi) hkb best sm⟩
end
theorem NH{K:cw}{Q:VK}(h:te σ H fun x H1=>td σ H1 fun y H2=>LZ K sp x y H2 Q):K8 K sp te td σ H Q:=h
section
theorem wF{kw:List (pe×cT)}(hl:s.heap.IsList l vs.toArray)(h64:vs.length<64)(a1:argsOk "sorted" ⟨[.ref l],kw⟩)(a2:∀D,argsOk "list.sort" ⟨[D],kw⟩)(h:∀h1:Qg,GX.nG s.heap h1->h1.get? (s.heap.objs.size+ 1)=some (seqObj "list" vs.toArray 0)->ni (model prog w) A.in1.in1 (QU.«list.sort» ⟨[.ref (s.heap.objs.size+ 1)],kw⟩) (fun f s2=>f=.done (.ret .none)/\Q (.ref (s.heap.objs.size+ 1)) s2) E {s with heap:=h1}):
  ni (model prog w) A (call (.builtin "sorted") [.ref l] kw) Q E s:=by
 have z:vs.length<=sizeLine:=by rw[RE];omega
 refine GX.qW a1 (collect_list hl (wpAny_bind (wpAny_newList ?_ z)) z);have g:GX.nG s.heap ((s.heap.push (seqObj "list" #[] 0)).update s.heap.objs.size (Rv (·++vs.toArray))):=fun b o q=>(QP _ _ (RC (vc q))).trans (gf _ q);have sz:((s.heap.push (seqObj "list" #[] 0)).update s.heap.objs.size (Rv (·++vs.toArray))).objs.size=s.heap.objs.size+ 1:=(Heap.size_after_update ..).trans (Rl ..);generalize (s.heap.push (seqObj "list" #[] 0)).update s.heap.objs.size (Rv (·++vs.toArray))=h0 at g sz⊢;have at1:(h0.push (seqObj "list" vs.toArray 0)).get? (s.heap.objs.size+ 1)=some (seqObj "list" vs.toArray 0):=W8 sz.symm rfl;have:=h _ (fun b o q=>gf _ (g b o q)) at1;show ni _ _ (holding [.ref h0.objs.size] (call (.builtin "list.sort") [.ref h0.objs.size] kw) >>= fun _=>ret (.ref h0.objs.size)) _ _ {s with heap:=h0.push (seqObj "list" vs.toArray 0)};rw[sz];refine wpAny_bind (wpAny_holding (wpAny_call_entry_kw X9 ⟨_,at1,rfl⟩ XQ (wpAny_mono this (fun f s2 q=>?_) fun _ _ e=>e) (a2 _)));exact⟨_,q.1,wpAny_pure ⟨_,rfl,q.2⟩⟩
theorem emptied{k:Array cT->Nat->cT->Vd U5}(ho:s.heap.get? a=some (seqObj "list" vs.toArray n))(h64:vs.length<64)(h:∀(h2:Qg) (e:Nat),(∀b o,b≠a->s.heap.get? b=some o->h2.get? b=some o)->h2.get? a=some (seqObj "list" #[] e)->ni (model prog w) A (k vs.toArray e (.ref h2.objs.size)) P E {s with heap:=h2.push (seqObj "list" #[] 0)}):
  ni (model prog w) A (YK (.ref a) >>= fun its=>Vw (.ref a) (fun _=>#[]) >>= fun _=>seqEpoch a >>= fun e=>Yy its.toList >>= fun t=>newList [] >>= fun ks=>holding [t,ks] (k its e ks)) P E s:=by
 have z:vs.toArray.size<=sizeLine:=by rw[xu,RE];omega
 obtain⟨e,he⟩:∃e,(s.heap.update a (Rv fun _=>(#[]:Array cT))).get? a=some (seqObj "list" #[] e):=⟨_,XW ho fun _=>#[]⟩;refine wpAny_bind (listItems_at ho rfl (wpAny_bind (listUpdate_at ho rfl (wpAny_bind (seqEpoch_at he rfl (wpAny_bind (wpAny_newTuple (wpAny_bind (wpAny_newList (wpAny_holding (h _ e (fun b o nb q=>?_) (gf _ he))) (Qt _))) ?_)))) z (Qt _))))
 ·exact gf _ ((QP _ _ (QH nb)).trans q)
 ·simpa using z
theorem vt{e:Nat}{out:Array cT}{tl:Nat->Vd U5}(ho:s.heap.get? a=some (seqObj "list" #[] e))(hz:out.size<=sizeLine)(h:∀(h1:Qg) (c:Nat),(∀b o,b≠a->s.heap.get? b=some o->h1.get? b=some o)->h1.get? a=some (seqObj "list" out c)->ni (model prog w) A (tl e) P E {s with heap:=h1}):
  ni (model prog w) A (seqEpoch a >>= fun x=>Vw (.ref a) (fun _=>out) >>= fun _=>tl x) P E s:=
 wpAny_bind (seqEpoch_at ho rfl (wpAny_bind (listUpdate_at ho rfl (h _ _ (fun b o nb q=>(QP _ _ (QH nb)).trans q) (XW ho fun _=>out)) (Qt _) (TZ hz))))
end
def Lv{α:Type}(n:Nat)(P:α->Prop):RO α->Prop
 | .ret a=>P a
 | .ask i j k=>i<n/\j<n/\∀b,Lv n P (k b)
theorem mY{α β:Type}{n:Nat}{P:α->Prop}{P':β->Prop}{f:α->RO β}(hf:∀a,P a->Lv n P' (f a)):∀t:RO α,Lv n P t->Lv n P' (t.bind f)
 | .ret a,h=>hf a h
 | .ask i j k,h=>⟨h.1,h.2.1,fun b=>mY hf (k b) (h.2.2 b)⟩
def Prn(n:Nat)(p:Array Nat):Prop:=p.toList.Perm (QF n)
theorem cv(h:Prn n p)(hn:0<n)(i:Nat):p.getD i 0<n:=by
 by_cases z:i<p.size
 ·have e:p.getD i 0=p[i]:=by simp[YV,z]
  rw[e];have:p[i]∈p.toList:=Array.getElem_mem_toList z;exact RD.mp (h.mem_iff.mp this)
 ·have e:p.getD i 0=0:=by simp[YV,z]
  rw[e];exact hn
theorem jg(h:Prn n p)(i j:Nat):Prn n (Se p i j):=(UX.mp (mirror_perm p i j _)).trans h
theorem GJ(h:Prn n p)(i j:Nat):Prn n (bubble p i j):=(UX.mp (bubble_perm p i j)).trans h
section
variable(hn:0<n)
include hn
theorem Bg{p:Array Nat}(h:Prn n p):∀f m:Nat,Lv n (fun _=>True) (XX p f m)
 |0,m=>trivial
 |f+ 1,m=>by
  refine⟨cv h hn _,cv h hn _,fun b=>?_⟩;cases b
  ·exact Bg h f (m+ 1)
  ·exact trivial
theorem sZ:∀(f:Nat) {p:Array Nat} (m q:Nat),Prn n p->Lv n (fun r=>Prn n r.1) (Xr f p m q)
 |0,p,m,q,h=>h
 |f+ 1,p,m,q,h=>by
  refine⟨cv h hn _,cv h hn _,fun b=>?_⟩;cases b
  ·refine⟨cv h hn _,cv h hn _,fun d=>?_⟩;cases d
   ·exact sZ f (m+ 1) (q+ 1) h
   ·exact h
  ·show Lv n _ (if q>0 then _ else _);by_cases z:q>0
   ·rw[if_pos z];exact sZ f (m+ 1) 0 (jg h _ _)
   ·rw[if_neg z];exact sZ f (m+ 1) 0 h
theorem yG(h:Prn n p)(m r:Nat):Lv n (fun r=>Prn n r.2) (Xe m r p):=by
 refine mY (P:=fun _=>True) (fun a _=>?_) _ (Bg hn (jg h _ _) _ _);exact jg h _ _
theorem rK(h:Prn n p)(m r:Nat):Lv n (fun r=>Prn n r.2) (Wm m r p):=by
 refine mY (P:=fun r=>Prn n r.1) (fun a ha=>?_) _ (sZ hn _ _ _ h);by_cases z:a.2.2>0
 ·rw[if_pos z];exact yG hn (jg ha _ _) _ _
 ·rw[if_neg z];exact yG hn ha _ _
theorem GS(h:Prn n p)(r:Nat):Lv n (fun r=>Prn n r.2) (Xf r p):=by
 refine mY (P:=fun _=>True) (fun a _=>?_) _ (Bg hn h _ _);by_cases z:(a==r)=true
 ·rw[if_pos z];exact h
 ·rw[if_neg z];by_cases y:a>1
  ·rw[if_pos y];refine⟨cv h hn _,cv h hn _,fun b=>?_⟩;cases b
   ·exact rK hn (jg h _ _) _ _
   ·exact h
  ·rw[if_neg y];exact rK hn h _ _
theorem ui{p:Array Nat}(h:Prn n p)(k:Nat):∀f l r:Nat,Lv n (fun _=>True) (Xg p k f l r)
 |0,l,r=>trivial
 |f+ 1,l,r=>by
  show Lv n _ (if l≥r then _ else _);by_cases z:l≥r
  ·rw[if_pos z];exact trivial
  ·rw[if_neg z];refine⟨cv h hn _,cv h hn _,fun b=>?_⟩;cases b
   ·exact ui h k f _ _
   ·exact ui h k f _ _
theorem FI:∀(f:Nat) {p:Array Nat} (k:Nat),Prn n p->Lv n (Prn n) (XY f p k)
 |0,p,k,h=>h
 |f+ 1,p,k,h=>mY (P:=fun _=>True) (fun a _=>FI f (k+ 1) (GJ h _ _)) _ (ui hn h k _ _ _)
theorem CV:Lv n (Prn n) (Vr n):=by
 refine mY (P:=fun r=>Prn n r.2) (fun a ha=>?_) _ (GS hn (UH _) n);by_cases z:a.1<n
 ·rw[if_pos z];exact FI hn _ _ ha
 ·rw[if_neg z];exact ha
end
theorem La{α:Type}{n:Nat}{P:α->Prop}{cmp:Nat->Nat->(Bool->lr->Prop)->lr->Prop}{G:α->lr->Prop}{s:lr}(hc:∀i j C,i<n->j<n->(∀b,C b s)->cmp i j C s)(hg:∀a,P a->G a s):∀t:RO α,Lv n P t->t.kasWp cmp G s
 | .ret a,h=>hg a h
 | .ask i j k,h=>hc i j _ h.1 h.2.1 fun b=>La hc hg (k b) (h.2.2 b)
theorem FD(h:Prn vs.length p):(p.toList.map fun i=>vs.getD i Q4).Perm vs:=by
 have e:(QF vs.length).map (fun i=>vs.getD i Q4)=vs:=by
  refine Vn (by simp) fun i h1 h2=>?_;simp at h1⊢;simp[h1]
 have:=h.map fun i=>vs.getD i Q4;rw[e]at this;exact this
section
def TpI(h:Qg)(v:cT):Prop:=∃a o xs n f ns,v=.ref a/\h.get? a=some o/\o.cls=.type "tuple"/\o.data=.seq xs n/\IntsAre xs.toList (f::ns)
theorem TpI.up(x:TpI h v)(k:∀b o,h.get? b=some o->h'.get? b=some o):TpI h' v:=by
 obtain⟨a,o,xs,n,f,ns,e1,e2,e3⟩:=x;exact⟨a,o,xs,n,f,ns,e1,k _ _ e2,e3⟩
theorem Nk{a b:Int}{t u:TQ}{c:Bool}{Q:Bool->lr->Prop}(h:∀b,Q b s):ni (model prog w) A (oneLt' c (.int a t) (.int b u)) Q E s:=by
 cases c with
 |true=>exact oneLt_int (h _)
 |false=>exact XZ _ _ (lt_int (h _))
theorem CB{Q:Bool->lr->Prop}{b fin:Bool}(h:∀b,Q b s):∀{xs ys:List cT} {ns ms:List Int} (i:Nat),IntsAre xs ns->IntsAre ys ms->Ye prog w A b fin Q (xs.zip ys) i s
 |_,_,_,_,i,.nil,_=>Uu (h _)
 |_,_,_,_,i,.cons _ _ _,.nil=>Uu (h _)
 |_,_,_,_,i,.cons x t r,.cons y u q=>by
  refine Xs (wpAny_eqBool_int ?_);refine Yf (fun _=>X0 (CB h (i+ 1) r q)) fun _=>Yg (Nk h)
theorem Na{x y:cT}{Q:Bool->lr->Prop}(hx:TpI s.heap x)(hy:TpI s.heap y)(h:∀b,Q b s):ni (model prog w) A (keyLt' (Wn b) x y) Q E s:=by
 obtain⟨a,o,xs,n,f,ns,rfl,e2,e3,e4,e5⟩:=hx;obtain⟨a',o',xs',n',f',ns',rfl,g2,g3,g4,g5⟩:=hy;exact Yh e2 e4 g2 g4 (CB h 0 e5 g5)
theorem kat_tups{h:Qg}:∀{vs:List cT},(∀v∈vs,TpI h v)->∃fs:List cT,PySem.W.KatTups h vs fs/\(∀v∈fs,∃n t,v=Ts n t)/\fs.length=vs.length
 |[],_=>⟨[],PySem.W.KatTups.nil,by simp,rfl⟩
 |v::vs,hv=>by
  obtain⟨fs,h1,h2,h3⟩:=kat_tups (vs:=vs) fun v hv'=>hv v (xj _ hv');obtain⟨a,o,xs,n,f,ns,rfl,e2,e3,e4,e5⟩:=hv v xl;obtain⟨w,hw,tk,ew⟩:∃w,xs[0]?=some w/\∃tk,w=Ts f tk:=by
   rw[←QV];generalize xs.toList=l at e5⊢;cases e5 with
   |cons _ t r=>exact⟨_,rfl,_,rfl⟩
  refine⟨w::fs,PySem.W.KatTups.cons e2 e3 e4 hw h1,fun u hu=>?_,by rw[QL,QL,h3]⟩;rcases uc.mp hu with z|z
  ·rw[z,ew];exact⟨_,_,rfl⟩
  ·exact h2 u z
def Left(vs:List cT)(st:SortSt):Prop:=failedOf st=none/\∃out:List cT,out.Perm vs/\(arrOf st).map (·.2)=out.toArray
theorem Fq{ks:List cT}{κ:SortKind}(hl:ks.length=vs.length):Left vs (SortSt.mk' κ (ks.toArray.zip vs.toArray) #[] 7 none):=by
 refine⟨rfl,vs,.refl _,?_⟩;show(ks.toArray.zip vs.toArray).map (·.2)=vs.toArray;apply Xt.mp;simpa using Xu (Tu hl.symm)
theorem Hn{ks:List cT}{Q:Unit×SortSt->lr->Prop}(hl:ks.length=vs.length)(h2:¬ vs.toArray.size<2)(h64:vs.length<64)(hT:∀v∈ks,TpI s.heap v)(h:∀st,Left vs st->Q ((),st) s):
  ni (model prog w) A (keyKind' ks.toArray) (fun κ s1=>ni (model prog w) A (sortRuns'.run (SortSt.mk' κ (ks.toArray.zip vs.toArray) #[] 7 none)) Q E s1) E s:=by
 rw[xu]at h2;obtain⟨fs,kt,ki,kl⟩:=kat_tups hT;refine Xv (T:=RL "int") kt (by omega) (fun v hv=>?_) (by decide) ?_
 ·obtain⟨n,t,rfl⟩:=ki v hv;exact V8 rfl
 have mem:∀i,i<vs.length->ks.getD i Q4∈ks:=fun i hi=>by
  rw[Qs,xi (by omega)];exact RB _
 refine wpAny_mono (X1 (Q:=fun st s1=>s1=s/\failedOf st=none/\∃p,Prn vs.length p/\arrOf st=p.map (Xw (ks.toArray.zip vs.toArray))) (G:=fun p s1=>s1=s/\Prn vs.length p) hl (by omega) h64 (fun p st s1 _ q1 q2 q3=>⟨q3.1,q2,p,q3.2,q1⟩)
  (La (n:=vs.length) (fun i j C hi hj hC=>Na (hT _ (mem i hi)) (hT _ (mem j hj)) hC) (fun p hp=>⟨rfl,hp⟩) _ (CV (by omega)))) (fun r s1 q=>?_) fun _ _ e=>e
 obtain⟨rfl,q1,p,q2,q3⟩:=q;exact h r.2 ⟨q1,_,FD q2,Xx hl q3⟩
theorem vB(ho:s.heap.get? a=some (seqObj "list" vs.toArray n))(h64:vs.length<64)(hT:∀v∈vs,TpI s.heap v)(h:∀(h1:Qg) (c:Nat) (out:List cT),WL out vs->(∀b o,b≠a->s.heap.get? b=some o->h1.get? b=some o)->h1.get? a=some (seqObj "list" out.toArray c)->P (.done (.ret .none)) {s with heap:=h1}):
  ni (model prog w) A (QU.«list.sort» ⟨[.ref a],[]⟩) P E s:=by
 rw[list_sort_plain];refine emptied ho h64 fun h2 e k2 g2=>?_;have T3:∀v∈vs,TpI (h2.push (seqObj "list" #[] 0)) v:=fun v hv=>by
  obtain⟨b,o,xs,m,f,ns,e1,e2,e3,e4⟩:=hT v hv;refine⟨b,o,xs,m,f,ns,e1,gf _ (k2 b o (fun z=>?_) e2),e3,e4⟩;rw[z,ho]at e2;cases e2;exact absurd (show RL "list"=RL "tuple"from e3) (by decide)
 dsimp only;by_cases few:vs.toArray.size<2
 case' pos=>
  rw[if_pos few,if_pos few];refine wpAny_bind (wpAny_pure ?_);rw[StateT.run_pure];refine wpAny_bind (wpAny_pure ?_);have q:=Fq (κ:=general') (ks:=vs) (vs:=vs) rfl;generalize SortSt.mk' general' (vs.toArray.zip vs.toArray) #[] 7 none=st at q⊢
 case' neg=>
  rw[if_neg few,if_neg few];refine wpAny_bind (wpAny_mono (Hn (s:={s with heap:=h2.push (seqObj "list" #[] 0)}) rfl few h64 T3 fun st q=>?_) (fun κ s1 q=>wpAny_bind q) fun _ _ e=>e)
 all_goals
  obtain⟨q1,out,q2,q3⟩:=q;dsimp only;rw[q3];refine vt (gf _ g2) (by rw[xu,q2.length_eq,RE];omega) fun h4 c k4 g4=>?_;rw[q1]
  wp_walk
  exact h h4 c out q2 (fun b o nb q=>k4 b o nb (gf _ (k2 b o nb q))) g4
theorem AB(hl:s.heap.IsList l vs.toArray)(h64:vs.length<64)(hT:∀v∈vs,TpI s.heap v)(h:∀(h1:Qg) (c:Nat) (out:List cT),WL out vs->GX.nG s.heap h1->h1.get? (s.heap.objs.size+ 1)=some (seqObj "list" out.toArray c)->Q (.ref (s.heap.objs.size+ 1)) {s with heap:=h1}):ni (model prog w) A (call (.builtin "sorted") [.ref l]) Q E s:=
 wF hl h64 (args_sorted1 _) args_list_sort fun h1 g1 a1=>vB a1 h64 (fun v hv=>(hT v hv).up g1) fun h2 c out p k2 a2=>
  ⟨rfl,h h2 c out p (fun b o q=>k2 b o (xy (SD (vc q))) (g1 b o q)) a2⟩
end
theorem DR:∀{vs:List V} {its out:List cT},Vals vs its->out.Perm its->∃ws:List V,ws.Perm vs/\Vals ws out:=by
 intro vs its out h p
 induction p generalizing vs with
 |nil=>cases h;exact⟨[],.nil,.nil⟩
 |cons x p ih=>
  cases h with
  |cons r t=>
   obtain⟨ws,a,b⟩:=ih t;exact⟨_::ws,a.cons _,.cons r b⟩
 |swap x y l=>
  cases h with
  |cons r t=>
   cases t with
   |cons r2 t2=>exact⟨_,.swap _ _ _,.cons r2 (.cons r t2)⟩
 |trans p q ih1 ih2=>
  obtain⟨ws,a,b⟩:=ih2 h;obtain⟨us,c,d⟩:=ih1 b;exact⟨us,c.trans a,d⟩
section
theorem vE:cE X (.builtin "sorted") (fun xs H Q=>∃(p:dk) (vs:List V) (ks:List (List Int)),xs=[.ref p]/\SqL X.K H p vs/\vs.length<64/\Paired (fun v k=>k≠[]/\∃t,v=.ref t/\SqT X.K H t (k.map V.int)) vs ks/\∀(l:dk) (ws:List V),H l=none->ws.Perm vs->Q (.ref l) (upd H l (.lst ws))):=by
 intro pins s σ H xs us Q I r h;obtain⟨p,vs,ks,rfl,hp,hl,hk,q⟩:=h;obtain⟨u,rfl,rx⟩:=vals1 r;cases rx;obtain⟨its,rv,pl,hz⟩:=I.list hp;have lv:=rv.length;have hT:∀v∈its,TpI s.heap v:=fun v hv=>by
  obtain⟨i,hi⟩:=QJ hv;have hil:=(pk.mp hi).1;have hx:vs[i]?=some vs[i]:=xi (by omega);obtain⟨k,_,hk1,t,et,ht⟩:=c8 hk hx;obtain⟨u',hu',ru⟩:=rv.get hx;rw[hi]at hu';cases hu';rw[et]at ru;cases ru;obtain⟨ia,ra,pa,_⟩:=I.tuple ht;obtain⟨o,ho,hc,n,hd⟩:=id pa;cases k with
  |nil=>exact absurd rfl hk1
  |cons f ns=>exact⟨t,o,_,n,f,ns,rfl,ho,hc,hd,intsAre_of ra⟩
 refine AB pl.isList (by omega) hT fun h1 c out a1 g1 he=>?_;have hrf:∀x∈vs,∃p,x=V.ref p:=fun x hx=>by
  obtain⟨i,hi⟩:=QJ hx;obtain⟨k,_,_,t,et,_⟩:=c8 hk hi;exact⟨t,et⟩
 obtain⟨ws,wp,wv⟩:=DR rv a1;refine⟨.ref (s.heap.objs.size+ 1),_,I.laid (o:=.lst ws) (t':=s.toks) g1 (RP _) ⟨?_,out,c,wv,he⟩,rfl,q _ ws (I.hok.fresh (RP _)) wp⟩;rw[wp.length_eq];exact QG (aD (by omega))
end
section
variable{H0:Hp}
theorem Inv.adopt{it:dk}{o:HO}{t':Nat}(I:Inv X pins σ H s)(k:∀b o,b≠it->s.heap.get? b=some o->h'.get? b=some o)(hf:kE X pins H it)
  (new:ObjOk X.prog X.w (upd H it o) h' it o):Inv X pins σ (upd H it o) {s with heap:=h',toks:=t'}:=by
 obtain⟨f0,f1,f2,f3,f4,f5⟩:=hf;have nit:∀b u,H b=some u->b≠it:=fun b u e z=>by rw[z,f0]at e;cases e
 refine I.step (g':=s.gens) (d':=s.drawn) (ch:=[it]) (fun b hb=>?_) (fun b o _ _ hc e _=>k b o (fun z=>hc (by simp[z])) e) (fun b o _ _ hc e _=>⟨o.slots,k b o (fun z=>hc (by simp[z])) e⟩) (fun b ob hc e n=>by rw[aj (fun z=>hc (by simp[z]))];exact n)
  (fun b o hc e=>⟨o,k b o (fun z=>hc (by simp[z])) e⟩) (fun b xs e=>by rw[aj (nit b _ e)];exact e) (fun b o u e=>by rw[aj (nit b _ e)];exact e) (fun b ps e=>⟨#[],by rw[aj (nit b _ e),e];simp⟩) (fun m hm=>?_) (fun b u e=>?_) I.bare
 ·have e:b=it:=by simpa using hb
  subst e;exact⟨f3,f1,f4,f5⟩
 ·obtain⟨ob,es,ep,ho,r⟩:=hm;exact⟨ob,es,ep,k _ ob (QH f1) ho,r⟩
 ·by_cases hb:b=it
  ·subst hb;rw[af]at e;cases e;exact new
  ·rw[aj hb]at e;refine(I.hok b u e).stay (fun c v hc q=>k c v ?_ q) (fun c q=>by rw[aj (nit c _ q)];exact q) fun c xs q=>by rw[aj (nit c _ q)];exact q
   rcases hc with z|z
   ·rw[z];exact nit b u e
   ·exact nit c _ z
end
theorem Room.two(r:Room (k+ 1) A):Room k A.in1.in1:=⟨r.hd,by have:=r.dp;show A.depth+ 3*k+ 5<UD;omega,by have:=r.un;show A.units+ 1+ 1+ 16*k+ 200<RM;omega⟩
theorem Hw{x:V}:Vals xs its->RelV x v->Vals (xs++[x]) (its++[v]):=fun h r=>h.append (.cons r .nil)
section
variable{D:dk}
end
section
end
section
end
section
end
section
variable{K:cw}
end
end L2
namespace GX
open PySem PySem.Spec PyProof.Rows
variable{prog:Qo}{w:Qu}{A:QR}{s:lr}{E:cT->lr->Prop}{it d:dk}{h:Qg}{es:Array QQ}{ep i:Nat}{Q:Option cT->lr->Prop}
section
variable{l:dk}
end
abbrev jj(es:Array QQ)(ep:Nat):QM:={cls:=.type "dict",data:=.dict es ep}
abbrev AV(d:dk)(i n ep:Nat):QM:={cls:=.type "dict_valueiterator",data:=.fields #[.ref d,.int i 0,.int n 0,.int ep 0]}
theorem Iq(it d:dk)(i ep:Nat)(es:Array QQ)(e:QQ)(hx:es[i]?=some e):
  Meets (QU.«dict_valueiterator.__next__» ⟨[.ref it],[]⟩) (fun _ R s=>s.heap.get? it=some (AV d i es.size ep)/\s.heap.get? d=some (jj es ep)/\
   ∀g,g.get? it=some (AV d (i+ 1) es.size ep)->Rf it s.heap g->R (.ok (.ret e.val)) {s with heap:=g}):=
 .of_wp fun prog w A R s ⟨h1,h2,q⟩=>by
  obtain⟨h,g,dr,tk,os⟩:=s;have hT:QX {heap:=h,gens:=g,drawn:=dr,toks:=tk,os:=os} (.ref it) "dict_valueiterator":=⟨_,h1,rfl⟩
  wp_walk
  rw[if_neg (by omega),Qp,hx]
  wp_walk
  have ow:RQ ((Manifest.find? "dict_valueiterator").elim "dict_valueiterator" fun x=>x.tpName)=false:=by decide +kernel
  refine⟨_,rfl,q _ ?_ (Q0 ..)⟩;rw[Q7 _ h1 rfl,ow];simp[T7,rawInt];intro x hx hm;exfalso
  revert x hx hm
  decide +kernel
theorem Jj(d:dk)(es:Array QQ)(ep:Nat)(hd:(d==Rm)=false):
  Meets (QU.«dict.values» ⟨[.ref d],[]⟩) (fun _ R s=>s.heap.get? d=some (jj es ep)/\R (.ok (.ret (.ref s.heap.objs.size))) {s with heap:=s.heap.push {cls:=.type "dict_values",data:=.fields #[.ref d]}}):=
 .of_wp fun prog w A R s ⟨h1,q⟩=>by
  obtain⟨h,g,dr,tk,os⟩:=s;have hT:QX {heap:=h,gens:=g,drawn:=dr,toks:=tk,os:=os} (.ref d) "dict":=⟨_,h1,rfl⟩
  wp_walk
  exact⟨_,rfl,q⟩
theorem Jw(it d:dk)(i ep:Nat)(es:Array QQ)(hi:es.size<=i):
  Meets (QU.«dict_valueiterator.__next__» ⟨[.ref it],[]⟩) (fun A R s=>A.handled=none/\s.heap.get? it=some (AV d i es.size ep)/\s.heap.get? d=some (jj es ep)/\
   ∀g e,Th it s.heap g->QX {s with heap:=g} (.ref e) "StopIteration"->R (.error (.ref e)) {s with heap:=g}):=
 .of_wp fun prog w A R s ⟨h0,h1,h2,q⟩=>by
  obtain⟨h,g,dr,tk,os⟩:=s;have hT:QX {heap:=h,gens:=g,drawn:=dr,toks:=tk,os:=os} (.ref it) "dict_valueiterator":=⟨_,h1,rfl⟩;have h0':A.in1.handled=none:=h0
  wp_walk
  rw[if_neg (by omega),Qp,RF hi]
  wp_walk
  simp only[Wg]
  wp_walk
  exact q _ _ (fun b o nb e=>gf _ (gf _ (((Q0 ..).2 b nb).trans e))) ⟨_,rl _ rfl,rfl⟩
theorem ED(v d:dk)(ep:Nat)(es:Array QQ)(dd:Option dk)(sl:Array (Option cT)):
  Meets (QU.«dict_values.__iter__» ⟨[.ref v],[]⟩) (fun A R s=>s.heap.get? v=some {cls:=.type "dict_values",dict:=dd,data:=.fields #[.ref d],slots:=sl}/\s.heap.get? d=some (jj es ep)/\
   R (.ok (.ret (.ref s.heap.objs.size))) {s with heap:=s.heap.push (AV d 0 es.size ep)}):=
 .of_wp fun prog w A R s ⟨h1,h2,q⟩=>by
  obtain⟨h,g,dr,tk,os⟩:=s;have hT:QX {heap:=h,gens:=g,drawn:=dr,toks:=tk,os:=os} (.ref v) "dict_values":=⟨_,h1,rfl⟩
  wp_walk
  have ow:RQ "dict_valueiterator"=false:=by decide +kernel
  rw[ow];exact⟨_,rfl,q⟩
def RawD(h:Qg)(d:dk)(es:Array QQ)(ep:Nat):Prop:=h.get? d=some (jj es ep)
def ValAt(h:Qg)(it d:dk)(i n ep:Nat):Prop:=h.get? it=some (AV d i n ep)
theorem RawD.of{o:QM}(e:h.get? d=some o)(x:o.ExactDict)(dt:o.data=.dict es ep):RawD h d es ep:=by
 obtain⟨c,di,dat,sl⟩:=o;obtain⟨rfl,rfl,rfl⟩:=x;cases dt;exact e
theorem RawD.at{g:Qg}(x:RawD h d es ep)(k:∀o,h.get? d=some o->g.get? d=some o):RawD g d es ep:=k _ x
theorem RawD.lt(x:RawD h d es ep):d<h.objs.size:=vc x
theorem ValAt.is{n:Nat}(x:ValAt h it d i n ep):h.IsValIter it d i n ep:=⟨_,x,rfl,rfl⟩
section
variable{v:dk}
theorem AR{Q:cT->lr->Prop}(hS:(d==Rm)=false)(rd:RawD s.heap d es ep)
  (q:Q (.ref s.heap.objs.size) {s with heap:=s.heap.push {cls:=.type "dict_values",data:=.fields #[.ref d]}}):ni (model prog w) A (call (.builtin "dict.values") [.ref d]) Q E s:=
 TL RT ⟨_,rd,rfl⟩ TU (TH _) (Jj d es ep hS) ⟨rd,q⟩
theorem Fz{Q:cT->lr->Prop}(hv:s.heap.IsValuesView v d)(rd:RawD s.heap d es ep)
  (q:Q (.ref s.heap.objs.size) {s with heap:=s.heap.push (AV d 0 es.size ep)}):ni (model prog w) A (pyIter (.ref v)) Q E s:=by
 obtain⟨⟨c,di,dat,sl⟩,e,rfl,rfl⟩:=id hv;apply TY hv.typeIs Vx;apply TL Vx hv.typeIs F.entry_dict_values_iter (F.args_dict_values_iter_1 _) (ED v d ep es di sl);exact⟨e,rd,"dict_valueiterator",_,⟨_,rl _ rfl,rfl⟩,Q8.lookup,q⟩
theorem Gg{R:S3->lr->Prop}{S:QR->(S3->lr->Prop)->lr->Prop}(hT:s.TypeIs (.ref it) "dict_valueiterator")(m:Meets (QU.«dict_valueiterator.__next__» ⟨[.ref it],[]⟩) S)(h:S A R s):
  QW (model prog w) A (.call (.builtin "dict_valueiterator.__next__") ⟨[.ref it],[]⟩) R s:=
 codeAny_call_builtin Q8.plain F.entry_dict_valueiterator_next (Q8.check _ _ _ _ _ _ _ _ hT (F.args_dict_valueiterator_next_1 _) (m prog w A R s h))
theorem GH{e:QQ}(hit:ValAt s.heap it d i es.size ep)(rd:RawD s.heap d es ep)(hx:es[i]?=some e)(hQ:∀g,ValAt g it d (i+ 1) es.size ep->Rf it s.heap g->Q (some e.val) {s with heap:=g}):ni (model prog w) A (pyNext (.ref it)) Q E s:=by
 have hT:s.TypeIs (.ref it) "dict_valueiterator":=⟨_,hit,rfl⟩;have hk:=Q8.lookup;have hb:=Q8.bind (.ref it);unfold pyNext
 repeat' first|assumption|wp_step
 exact Gg hT (Iq it d i ep es e hx) ⟨hit,rd,fun g a b=>wpAny_pure (wpAny_pure (hQ g a b))⟩
theorem J2(hh:A.handled=none)(hit:ValAt s.heap it d i es.size ep)(rd:RawD s.heap d es ep)(hi:es.size<=i)(fin:∀g,Th it s.heap g->Q none {s with heap:=g}):ni (model prog w) A (pyNext (.ref it)) Q E s:=by
 have hT:s.TypeIs (.ref it) "dict_valueiterator":=⟨_,hit,rfl⟩;have hk:=Q8.lookup;have hb:=Q8.bind (.ref it);have hst:isSubtype (.type "StopIteration") (.type "StopIteration")=pure true:=by rw[TM];kernel_rfl
 unfold pyNext
 repeat' first|assumption|wp_step
 refine Gg hT (Jw it d i ep es hi) ⟨hh,hit,rd,fun g e a b=>?_⟩;have hq:=fin g a
 repeat' first|assumption|wp_step
end
theorem E8(hh:A.handled=none)(nd:d≠it):
  VH prog w A it [it,d] [it] es.size (fun i x=>∃y:QQ,es[i]?=some y/\x=y.val) (fun i h=>ValAt h it d i es.size ep/\RawD h d es ep):=by
 constructor
 case sub=>intro b hb;simp at hb;simp[hb]
 case frame=>exact fun i h g x k=>⟨k it (by simp) _ x.1,k d (by simp) _ x.2⟩
 case self=>exact fun i s Q E x q=>Wj x.1.is q
 case done=>exact fun s Q E x q=>J2 hh x.1 x.2 (oh _) fun g k=>q g s.toks fun b o nb e=>k b o (by simpa using nb) e
 case item=>
  intro i s Q E hi x q;exact GH x.1 x.2 (KW hi) fun g a k=>q _ g s.toks ⟨_,KW hi,rfl⟩ ⟨a,(k.2 d nd).trans x.2⟩ fun b o nb e=>(k.2 b (by simpa using nb)).trans e
section
variable{K:Type}[DecidableEq K]{knd:HeapKind prog w K}{a:dk}{xs:List (K×dk×cT)}{k:K}{j:Nat}{p:dk×cT}
end
end GX
namespace L2
open PySem PySem.Spec PyProof.Rows
variable{X:Cx}{P:Qo}{w:Qu}{d f C:dk}{H H':Hp}{h h' base B:Qg}{n k m:Nat}{b:Nat->Nat->Bool}{s s':lr}{p:Array Nat}{xs vs vals:List V}{its us:List cT}{ks:List (List Int)}{A:QR}{E:cT->lr->Prop}{Q:Bool->lr->Prop}{pins:List (dk×QM)}{σ:St}{fd:xw}{ps N:List pe}{sp:Sp}{e:QC}{te:TE}{pos:Sz}{CX:CXT}{mg:pe->Option cT}{qual:pe}{scope:SU}{cd:cT}{cl:List (pe×dk)}{outer:List S2}{ix:List Nat}
section
variable{tg:QC}
end
theorem Nh{r:dk}{es:Array QQ}{ep:Nat}:
  PySem.W.KdlSrc P w "dict_values" r d es.size (fun i x=>∃y:QQ,es[i]?=some y/\x=y.val) (fun h=>h.IsValuesView r d/\GX.RawD h d es ep):=by
 constructor
 case iter=>
  intro A s hh ⟨hv,rd⟩;refine⟨GX.AV d 0 es.size ep,fun i h=>GX.ValAt h s.heap.objs.size d i es.size ep/\GX.RawD h d es ep,fun E Q q=>GX.Fz hv rd q,GX.E8 hh (xy rd.lt),rl _ rfl,rd.at fun o e=>gf _ e⟩
 case hint=>exact fun A E s Q x q=>PySem.W.kdl_hint_values x.1.typeIs q
 case keep=>
  intro h g ⟨⟨o,e,c,dt⟩,rd⟩ k;exact⟨⟨o,k r (Ql rfl) o e,c,dt⟩,rd.at (k d (XN rfl))⟩
 case there=>
  intro h ⟨⟨o,e,_⟩,rd⟩;exact And.intro (vc e) rd.lt
 case type=>exact fun s x=>x.1.typeIs
 case notList=>rfl
 case notTuple=>rfl
theorem ID{kvs:List (List Key×V)}(ok:HOk P w H h)(e:Rd H d (.dT kvs)):
  (d==Rm)=false/\∃(es:Array QQ) (ep:Nat),GX.RawD h d es ep/\es.size=kvs.length/\∀(i:Nat) (k:List Key) (v:V),kvs[i]?=some (k,v)->∃y:QQ,es[i]?=some y/\RelV v y.val:=by
 obtain⟨_,hS,xs,kt,o,es,ep,h1,h2,h3,h4,_⟩:=qc ok e;refine⟨hS,es,ep,.of h1 h2 h3,?_,fun i k v hv=>?_⟩
 ·rw[←QI,h4,gm];exact(Qk kt).symm
 ·obtain⟨q,hq,_,_,rv⟩:=c8 kt hv;refine⟨entryOfKey (tupleKind (aO P w)) q,?_,rv⟩;rw[←QV,h4,CA,hq];rfl
section
theorem GO:MtR X "dict.values" (fun x vs H Q=>∃d kvs,x=.ref d/\vs=[]/\H d=some (.dT kvs)/\∀v,H v=none->Q (.ref v) (upd H v (VwO v d))):=by
 intro pins s σ H x xs v us Q I rx rv h;obtain⟨d,kvs,rfl,rfl,hd,q⟩:=h;cases rx;cases rv;obtain⟨hS,es,ep,rd,_⟩:=ID I.hok (.inl hd);refine GX.AR hS rd ?_;exact⟨.ref s.heap.objs.size,_,I.laid (o:=VwO s.heap.objs.size d) (t':=s.toks) (fun b ob e=>gf _ e) (oh _) ⟨⟨_,rl _ rfl,rfl,rfl⟩,⟨_,rl _ rfl⟩,fun h1 h2 ⟨o,e1,e2,e3⟩ k=>⟨o,k o e1,e2,e3⟩⟩,rfl,q _ (I.hok.fresh (oh _))⟩
theorem zv(hc:X.calm=true):cE X (.type "list") (fun xs H Q=>∃(v d:dk) (kvs:List (List Key×V)),xs=[.ref v]/\H v=some (VwO v d)/\Rd H d (.dT kvs)/\kvs.length<=1000/\∀l,H l=none->Q (.ref l) (upd H l (.lst (kvs.map (·.2))))):=by
 intro pins s σ H xs us Q I r h;obtain⟨v,d,kvs,rfl,hv,hd,hlen,q⟩:=h;obtain⟨u,rfl,rx⟩:=vals1 r;cases rx;obtain⟨hS,es,ep,rd,sz,rel⟩:=ID I.hok hd;have hvw:s.heap.IsValuesView v d:=(I.hok v _ hv).1;refine Uc (A:=X.A) (Nh (es:=es) (ep:=ep)) (I.ok.hd hc) ⟨hvw,rd⟩ (by rw[sz];exact QG (aD (by omega))) fun h' tk acc c hk he hacc=>?_;refine⟨.ref s.heap.objs.size,_,I.laid (o:=.lst (kvs.map (·.2))) (t':=tk) hk (oh _) ⟨by rw[gm];exact QG (aD hlen),acc.toList,c,oz ?_ fun i x u hx hu=>?_,he⟩,rfl,q _ (I.hok.fresh (oh _))⟩
 ·have e:acc.toList.length=es.size:=by rw[QI];exact hacc.1
  rw[gm,e,sz]
 ·rw[QV]at hu;obtain⟨y,hy,rfl⟩:=hacc.2 i u hu;rw[CA]at hx;cases e:kvs[i]? with
  |none=>rw[e]at hx;cases hx
  |some p=>
   rw[e]at hx;cases hx;obtain⟨y',hy',ru⟩:=rel i p.1 p.2 e;rw[hy]at hy';cases hy';exact ru
end
section
end
section
end
def Lo{α:Type}(n:Nat)(b:Nat->Nat->Bool)(P:α->Prop):RO α->Prop
 | .ret a=>P a
 | .ask i j k=>i<n/\j<n/\Lo n b P (k (b i j))
theorem mS{α β:Type}{n:Nat}{b:Nat->Nat->Bool}{P:α->Prop}{P':β->Prop}{f:α->RO β}(hf:∀a,P a->Lo n b P' (f a)):∀t:RO α,Lo n b P t->Lo n b P' (t.bind f)
 | .ret a,h=>hf a h
 | .ask i j k,h=>⟨h.1,h.2.1,mS hf (k (b i j)) h.2.2⟩
theorem Lh{α:Type}{n:Nat}{b:Nat->Nat->Bool}{P:α->Prop}{cmp:Nat->Nat->(Bool->lr->Prop)->lr->Prop}{G:α->lr->Prop}{s:lr}(hc:∀i j C,i<n->j<n->C (b i j) s->cmp i j C s)(hg:∀a,P a->G a s):∀t:RO α,Lo n b P t->t.kasWp cmp G s
 | .ret a,h=>hg a h
 | .ask i j k,h=>hc i j _ h.1 h.2.1 (Lh hc hg (k (b i j)) h.2.2)
theorem qQ{α:Type}{n:Nat}{b:Nat->Nat->Bool}{P P':α->Prop}(hp:∀a,P a->P' a):∀t:RO α,Lo n b P t->Lo n b P' t
 | .ret a,h=>hp a h
 | .ask i j k,h=>⟨h.1,h.2.1,qQ hp (k (b i j)) h.2.2⟩
theorem qu(h:Prn n p):p.size=n:=by
 have:=h.length_eq;rw[RI,QI]at this;exact this
theorem pR{i j:Nat}(hj:j<=p.size)(k:Nat):(Se p i j).getD k 0=if i<=k/\k<j then p.getD (i+ j-1-k) 0 else p.getD k 0:=by
 rw[Qh,Qh,Qh];unfold Se;rw[getElem?_mirror_all hj];split<;>rfl
theorem CG{l:Nat}(hk:k<p.size)(hl:l<=k)(i:Nat):(bubble p k (k-l)).getD i 0=if i=l then p.getD k 0 else if l<i/\i<=k then p.getD (i-1) 0 else p.getD i 0:=by
 rw[Qh,Qh,Qh,Qh,getElem?_bubble hk _ (by omega),show k-(k-l)=l by omega];split
 ·rfl
 ·split<;>rfl
section
variable(ky:Nat->Int)
abbrev bk(i j:Nat):Bool:=decide (ky i<ky j)
def Up(p:Array Nat)(m:Nat):Prop:=∀i j,i<=j->j<m->ky (p.getD i 0)<=ky (p.getD j 0)
def Dn(p:Array Nat)(m:Nat):Prop:=∀i j,i<=j->j<m->ky (p.getD j 0)<=ky (p.getD i 0)
variable{ky}(hn:0<n)
theorem MY(h1:1<=m)(h:Up ky p m)(e:ky (p.getD (m-1) 0)<=ky (p.getD m 0)):Up ky p (m+ 1):=fun i j hij hj=>by
 by_cases z:j<m
 ·exact h i j hij z
 ·obtain rfl:j=m:=by omega
  by_cases w:i=j
  ·rw[w];exact R6 _
  ·exact WQ (h i (j-1) (by omega) (by omega)) e
theorem uG(h1:1<=m)(h:Dn ky p m)(e:ky (p.getD m 0)<=ky (p.getD (m-1) 0)):Dn ky p (m+ 1):=fun i j hij hj=>by
 by_cases z:j<m
 ·exact h i j hij z
 ·obtain rfl:j=m:=by omega
  by_cases w:i=j
  ·rw[w];exact R6 _
  ·exact WQ e (h i (j-1) (by omega) (by omega))
include hn
theorem Bv{p:Array Nat}(h:Prn n p):∀f m:Nat,1<=m->Up ky p m->Lo n (bk ky) (fun r=>m<=r/\r<=m+ f/\Up ky p r/\(r<m+ f->ky (p.getD r 0)<ky (p.getD (r-1) 0))) (XX p f m)
 |0,m,h1,u=>⟨oh _,oh _,u,fun z=>absurd z (QD _)⟩
 |f+ 1,m,h1,u=>by
  refine⟨cv h hn _,cv h hn _,?_⟩;by_cases c:ky (p.getD m 0)<ky (p.getD (m-1) 0)
  ·rw[show bk ky (p.getD m 0) (p.getD (m-1) 0)=true from decide_eq_true c];exact⟨oh _,by omega,u,fun _=>c⟩
  ·rw[show bk ky (p.getD m 0) (p.getD (m-1) 0)=false from decide_eq_false c];have:=Bv h f (m+ 1) (by omega) (MY h1 u (by omega));rw[show m+ 1+ f=m+ (f+ 1) by omega]at this;refine(qQ ?_ _ this);exact fun r hr=>⟨by omega,hr.2.1,hr.2.2⟩
theorem tD:∀(f:Nat) {p:Array Nat} (m q:Nat),Prn n p->m+ f<=n->1<=m->Dn ky p m->q+ 1<=m->(∀i,m-(q+ 1)<=i->i<m->ky (p.getD i 0)=ky (p.getD (m-1) 0))->
  Lo n (bk ky) (fun r=>Prn n r.1/\Dn ky r.1 r.2.1/\1<=r.2.1/\r.2.1<=m+ f/\r.2.2+ 1<=r.2.1/\∀i,r.2.1-(r.2.2+ 1)<=i->i<r.2.1->ky (r.1.getD i 0)=ky (r.1.getD (r.2.1-1) 0)) (Xr f p m q)
 |0,p,m,q,h,hm,h1,d,hq,e=>⟨h,d,h1,oh _,hq,e⟩
 |f+ 1,p,m,q,h,hm,h1,d,hq,e=>by
  have hs:=qu h;refine⟨cv h hn _,cv h hn _,?_⟩;by_cases c:ky (p.getD m 0)<ky (p.getD (m-1) 0)
  ·rw[show bk ky (p.getD m 0) (p.getD (m-1) 0)=true from decide_eq_true c];show Lo n _ _ (if q>0 then _ else _);by_cases z:q>0
   ·rw[if_pos z];have er:∀k,ky ((Se p (m-(q+ 1)) m).getD k 0)=ky (p.getD k 0):=fun k=>by
     rw[pR (by omega)];split
     ·rename_i w;rw[e _ (by omega) (by omega),e k (by omega) (by omega)]
     ·rfl
    have:=tD f (p:=Se p (m-(q+ 1)) m) (m+ 1) 0 (jg h _ _) (by omega) (by omega) (uG h1 (fun i j a b=>by rw[er,er];exact d i j a b) (by rw[er,er];omega)) (by omega) fun i a b=>by
     obtain rfl:i=m:=by omega
     rfl
    refine qQ (fun r hr=>?_) _ this;obtain⟨a1,a2,a3,a4,a5⟩:=hr;exact⟨a1,a2,a3,by omega,a5⟩
   ·rw[if_neg z];have:=tD f (p:=p) (m+ 1) 0 h (by omega) (by omega) (uG h1 d (by omega)) (by omega) fun i a b=>by
     obtain rfl:i=m:=by omega
     rfl
    refine qQ (fun r hr=>?_) _ this;obtain⟨a1,a2,a3,a4,a5⟩:=hr;exact⟨a1,a2,a3,by omega,a5⟩
  ·rw[show bk ky (p.getD m 0) (p.getD (m-1) 0)=false from decide_eq_false c];refine⟨cv h hn _,cv h hn _,?_⟩;by_cases c2:ky (p.getD (m-1) 0)<ky (p.getD m 0)
   ·rw[show bk ky (p.getD (m-1) 0) (p.getD m 0)=true from decide_eq_true c2];exact⟨h,d,h1,by show m<=m+ (f+ 1);omega,hq,e⟩
   ·rw[show bk ky (p.getD (m-1) 0) (p.getD m 0)=false from decide_eq_false c2];have:=tD f (p:=p) (m+ 1) (q+ 1) h (by omega) (by omega) (uG h1 d (by omega)) (by omega) fun i a b=>by
     rw[show m+ 1-1=m by omega];by_cases w:i=m
     ·rw[w]
     ·rw[e i (by omega) (by omega)];omega
    refine qQ (fun r hr=>?_) _ this;obtain⟨a1,a2,a3,a4,a5⟩:=hr;exact⟨a1,a2,a3,by omega,a5⟩
abbrev Run(ky:Nat->Int)(n:Nat)(r:Nat×Array Nat):Prop:=Prn n r.2/\Up ky r.2 r.1/\1<=r.1/\r.1<=n
theorem zj(h:Prn n p)(h1:1<=m)(hm:m<=n)(d:Dn ky p m):Lo n (bk ky) (Run ky n) (Xe m n p):=by
 have hs:=qu h;have u:Up ky (Se p 0 m) m:=fun i j hij hj=>by
  rw[pR (by omega),pR (by omega),if_pos ⟨by omega,by omega⟩,if_pos ⟨by omega,hj⟩];exact d _ _ (by omega) (by omega)
 refine mS (fun a ha=>?_) _ (Bv hn (jg h 0 m) (n-m) m h1 u);exact⟨jg h 0 m,ha.2.2.1,by have:=ha.1;omega,by have:=ha.2.1;omega⟩
theorem rL(h:Prn n p)(h1:1<=m)(hm:m+ 1<=n)(d:Dn ky p (m+ 1)):Lo n (bk ky) (Run ky n) (Wm m n p):=by
 have hd:=tD hn (n-(m+ 1)) (m+ 1) 0 h (by omega) (by omega) d (by omega) fun i a b=>by
  obtain rfl:i=m:=by omega
  rfl
 refine mS (fun a ha=>?_) _ hd;obtain⟨a1,a2,a3,a4,a5,a6⟩:=ha;have hs:=qu a1;by_cases z:a.2.2>0
 ·rw[if_pos z];refine zj hn (jg a1 _ _) a3 (by omega) fun i j hij hj=>?_;have er:∀k,ky ((Se a.1 (a.2.1-(a.2.2+ 1)) a.2.1).getD k 0)=ky (a.1.getD k 0):=fun k=>by
   rw[pR (by omega)];split
   ·rename_i w;rw[a6 _ (by omega) (by omega),a6 k (by omega) (by omega)]
   ·rfl
  rw[er,er];exact a2 i j hij hj
 ·rw[if_neg z];exact zj hn a1 a3 (by omega) a2
theorem FP(h:Prn n p):Lo n (bk ky) (Run ky n) (Xf n p):=by
 have hs:=qu h;refine mS (fun a ha=>?_) _ (Bv hn h (n-1) 1 (oh _) fun i j a b=>by
  obtain rfl:i=j:=by omega
  exact R6 _)
 obtain⟨a1,a2,a3,a4⟩:=ha;by_cases z:(a==n)=true
 ·rw[if_pos z];exact⟨h,a3,a1,by omega⟩
 ·rw[if_neg z];have z:a≠n:=fun w=>z (by rw[w];exact beq_self_eq_true n);have c:=a4 (by omega);by_cases y:a>1
  ·rw[if_pos y];refine⟨cv h hn _,cv h hn _,?_⟩;by_cases c2:ky (p.getD 0 0)<ky (p.getD (a-1) 0)
   ·rw[show bk ky (p.getD 0 0) (p.getD (a-1) 0)=true from decide_eq_true c2];exact⟨h,a3,a1,by omega⟩
   ·rw[show bk ky (p.getD 0 0) (p.getD (a-1) 0)=false from decide_eq_false c2];have eq:∀k,k<a->ky (p.getD k 0)=ky (p.getD (a-1) 0):=fun k hk=>by
     have b1:=a3 0 k (by omega) hk;have b2:=a3 k (a-1) (by omega) (by omega);omega
    have er:∀k,ky ((Se p 0 a).getD k 0)=ky (p.getD k 0):=fun k=>by
     rw[pR (by omega)];split
     ·rename_i w;rw[eq _ (by omega),eq k (by omega)]
     ·rfl
    refine rL hn (jg h 0 a) a1 (by omega) (uG a1 (fun i j hij hj=>?_) (by rw[er,er];omega));rw[er,er,eq i (by omega),eq j hj];exact R6 _
  ·rw[if_neg y];obtain rfl:a=1:=by omega
   refine rL hn h (oh _) (by omega) (uG (oh _) (fun i j hij hj=>?_) (by omega));obtain rfl:i=j:=by omega
   exact R6 _
theorem uB{p:Array Nat}(h:Prn n p){k:Nat}(u:Up ky p k):∀f l r:Nat,l<=r->r<=k->r-l<=f->(∀i,i<l->ky (p.getD i 0)<=ky (p.getD k 0))->(∀i,r<=i->i<k->ky (p.getD k 0)<ky (p.getD i 0))->
  Lo n (bk ky) (fun x=>x<=k/\(∀i,i<x->ky (p.getD i 0)<=ky (p.getD k 0))/\∀i,x<=i->i<k->ky (p.getD k 0)<ky (p.getD i 0)) (Xg p k f l r)
 |0,l,r,h1,h2,h3,a,b=>⟨by omega,a,fun i hi hk=>b i (by omega) hk⟩
 |f+ 1,l,r,h1,h2,h3,a,b=>by
  show Lo n _ _ (if l≥r then _ else _);by_cases z:l≥r
  ·rw[if_pos z];exact⟨by omega,a,fun i hi hk=>b i (by omega) hk⟩
  ·rw[if_neg z];refine⟨cv h hn _,cv h hn _,?_⟩;by_cases c:ky (p.getD k 0)<ky (p.getD ((l+ r) / 2) 0)
   ·rw[show bk ky (p.getD k 0) (p.getD ((l+ r) / 2) 0)=true from decide_eq_true c];exact uB h u f l ((l+ r) / 2) (by omega) (by omega) (by omega) a fun i hi hk=>by
     have:=u ((l+ r) / 2) i hi hk;omega
   ·rw[show bk ky (p.getD k 0) (p.getD ((l+ r) / 2) 0)=false from decide_eq_false c];exact uB h u f ((l+ r) / 2+ 1) r (by omega) h2 (by omega) (fun i hi=>by
     have:=u i ((l+ r) / 2) (by omega) (by omega);omega) b
theorem Io:∀(f:Nat) {p:Array Nat} (k:Nat),Prn n p->k+ f=n->Up ky p k->Lo n (bk ky) (fun p=>Prn n p/\Up ky p n) (XY f p k)
 |0,p,k,h,e,u=>by
  obtain rfl:k=n:=by omega
  exact⟨h,u⟩
 |f+ 1,p,k,h,e,u=>by
  have hs:=qu h;refine mS (fun l hl=>?_) _ (uB hn h u k 0 k (Qt _) (oh _) (by omega) (fun i hi=>absurd hi (Uv _)) fun i a b=>by omega);obtain⟨l1,l2,l3⟩:=hl;refine Io f (k+ 1) (GJ h _ _) (by omega) fun i j hij hj=>?_;rw[CG (by omega) l1,CG (by omega) l1];by_cases i1:i=l
  ·rw[if_pos i1];by_cases j1:j=l
   ·rw[if_pos j1];exact R6 _
   ·rw[if_neg j1,if_pos ⟨by omega,by omega⟩];exact Yz (l3 _ (by omega) (by omega))
  ·rw[if_neg i1];by_cases i2:l<i/\i<=k
   ·rw[if_pos i2,if_neg (by omega),if_pos ⟨by omega,by omega⟩];exact u _ _ (by omega) (by omega)
   ·rw[if_neg i2];by_cases j1:j=l
    ·rw[if_pos j1];exact l2 i (by omega)
    ·rw[if_neg j1];by_cases j2:l<j/\j<=k
     ·rw[if_pos j2];exact u _ _ (by omega) (by omega)
     ·rw[if_neg j2];exact u _ _ hij (by omega)
theorem JK:Lo n (bk ky) (fun p=>Prn n p/\Up ky p n) (Vr n):=by
 refine mS (fun a ha=>?_) _ (FP hn (p:=Sd (QF n)) (UH _));obtain⟨a1,a2,a3,a4⟩:=ha;by_cases z:a.1<n
 ·rw[if_pos z];rw[show max a.1 1=a.1 by omega];exact Io hn _ _ a1 (by omega) a2
 ·rw[if_neg z];rw[show a.1=n by omega]at a2;exact⟨a1,a2⟩
end
theorem G9{α:Type}{n:Nat}{P P':α->Prop}(hp:∀a,P a->P' a):∀t:RO α,Lv n P t->Lv n P' t
 | .ret a,h=>hp a h
 | .ask i j k,h=>⟨h.1,h.2.1,fun b=>G9 hp (k b) (h.2.2 b)⟩
def ltF(f:Bool):List Int->List Int->Bool
 |x::r,y::q=>if x=y then ltF f r q else decide (x<y)
 |_,_=>f
def ltL(a b:List Int):Bool:=ltF (decide (a.length<b.length)) a b
theorem range_getD{α:Type}(l:List α)(d:α):((Sd (QF l.length)).toList.map fun i=>l.getD i d)=l:=by
 refine Vn (by simp) fun i h1 h2=>?_;simp at h1⊢;simp[h1]
theorem Hg(h:Vals xs its)(hp:Prn its.length p):(p.toList.map fun i=>xs.getD i V.non).Perm xs/\Vals (p.toList.map fun i=>xs.getD i V.non) (p.toList.map fun i=>its.getD i Q4):=by
 have lv:=h.length;constructor
 ·have:=hp.map fun i=>xs.getD i V.non;rw[←lv]at this;have e:=range_getD xs V.non;rw[show(Sd (QF xs.length)).toList=QF xs.length from rfl]at e;rw[e]at this;exact this
 ·have hb:∀i∈p.toList,i<its.length:=fun i hi=>RD.mp (hp.mem_iff.mp hi);generalize p.toList=l at hb
  induction l with
  |nil=>exact .nil
  |cons i l ih=>
   have hi:=hb i xl;refine .cons ?_ (ih fun j hj=>hb j (xj _ hj));obtain⟨u,hu,r⟩:=h.get (xi (show i<xs.length by omega));show RelV (xs.getD i V.non) (its.getD i Q4);rw[Qs,Qs,xi (show i<xs.length by omega),hu];exact r
def AW(ks:List (List Int))(n:Nat)(p:Array Nat):Prop:=(∃g:Nat->Int,∀i j,i<n->j<n->ltL (ks.getD i []) (ks.getD j [])=decide (g i<g j))->∀i j,i<=j->j<n->ltL (ks.getD (p.getD j 0) []) (ks.getD (p.getD i 0) [])=false
def OrdW(ks:List (List Int))(xs ws:List V):Prop:=∃p:Array Nat,Prn xs.length p/\ws=(p.toList.map fun i=>xs.getD i V.non)/\AW ks xs.length p
theorem EN(h:n<2):AW ks n (Sd (QF n)):=by
 rintro⟨g,hg⟩ i j hij hj;obtain rfl:i=j:=by omega
 have pg:=cv (p:=Sd (QF n)) (UH _) (by omega) i;rw[hg _ _ pg pg];exact decide_eq_false (Int.lt_irrefl _)
theorem FT{α:Type}{n:Nat}{b:Nat->Nat->Bool}{P:α->Prop}:∀t:RO α,Lv n P t->Lo n b P t
 | .ret a,h=>h
 | .ask i j k,h=>⟨h.1,h.2.1,FT (k (b i j)) (h.2.2 _)⟩
theorem Dq{α:Type}{n:Nat}{b c:Nat->Nat->Bool}(e:∀i j,i<n->j<n->b i j=c i j){P:α->Prop}:∀t:RO α,Lo n b P t->Lo n c P t
 | .ret a,h=>h
 | .ask i j k,h=>⟨h.1,h.2.1,by rw[←e i j h.1 h.2.1];exact Dq e (k (b i j)) h.2.2⟩
theorem NB(hn:0<n):Lo n (fun i j=>ltL (ks.getD i []) (ks.getD j [])) (fun p=>Prn n p/\AW ks n p) (Vr n):=by
 by_cases hg:∃g:Nat->Int,∀i j,i<n->j<n->ltL (ks.getD i []) (ks.getD j [])=decide (g i<g j)
 ·obtain⟨g,hg⟩:=hg;refine Dq (fun i j hi hj=>(hg i j hi hj).symm) _ (qQ (fun p hp=>⟨hp.1,fun _ i j hij hj=>?_⟩) _ (JK (ky:=g) hn));rw[hg _ _ (cv hp.1 hn _) (cv hp.1 hn _)];have:=hp.2 i j hij hj;exact decide_eq_false (by omega)
 ·exact FT _ (G9 (fun p hp=>⟨hp,fun z=>absurd z hg⟩) _ (CV hn))
def TpK(h:Qg)(v:cT)(k:List Int):Prop:=k≠[]/\∃a o xs n,v=.ref a/\h.get? a=some o/\o.cls=.type "tuple"/\o.data=.seq xs n/\IntsAre xs.toList k
theorem TpK.tpI{v:cT}{k:List Int}(x:TpK h v k):TpI h v:=by
 obtain⟨k0,a,o,xs,n,e1,e2,e3,e4,e5⟩:=x;cases k with
 |nil=>exact absurd rfl k0
 |cons f ns=>exact⟨a,o,xs,n,f,ns,e1,e2,e3,e4,e5⟩
theorem vz:∀{vs:List cT} {ns:List Int},IntsAre vs ns->vs.length=ns.length
 |_,_,.nil=>rfl
 |_,_,.cons _ _ r=>congrArg (·+ 1) (vz r)
section
variable{prog:Qo}
theorem JG{a b:Int}{t u:TQ}{c:Bool}(h:Q (decide (a<b)) s):ni (model prog w) A (oneLt' c (.int a t) (.int b u)) Q E s:=by
 cases c with
 |true=>exact oneLt_int h
 |false=>exact XZ _ _ (lt_int h)
theorem Cu{Q:Bool->lr->Prop}{b fin:Bool}:∀{xs ys:List cT} {ns ms:List Int} (i:Nat),IntsAre xs ns->IntsAre ys ms->Q (ltF fin ns ms) s->Ye prog w A b fin Q (xs.zip ys) i s
 |_,_,_,_,i,.nil,_,h=>Uu h
 |_,_,_,_,i,.cons _ _ _,.nil,h=>Uu h
 |_,_,_,_,i,.cons x t r,.cons y u q,h=>by
  refine Xs (wpAny_eqBool_int ?_);refine Yf (fun z=>X0 (Cu (i+ 1) r q ?_)) fun z=>Yg (JG ?_)
  ·have h:Q (if x=y then _ else _) s:=h;rw[if_pos (by simpa using z)]at h;exact h
  ·have h:Q (if x=y then _ else _) s:=h;rw[if_neg (by simpa using z)]at h;exact h
theorem IZ{x y:cT}{k l:List Int}{b:Bool}(hx:TpK s.heap x k)(hy:TpK s.heap y l)(h:Q (ltL k l) s):ni (model prog w) A (keyLt' (Wn b) x y) Q E s:=by
 obtain⟨_,a,o,xs,n,rfl,e2,e3,e4,e5⟩:=hx;obtain⟨_,a',o',xs',n',rfl,g2,g3,g4,g5⟩:=hy;refine Yh e2 e4 g2 g4 (Cu 0 e5 g5 ?_);have l1:=vz e5;have l2:=vz g5;rw[QI]at l1 l2;rw[l1,l2];exact h
end
theorem OrdW.perm{ws:List V}(h:OrdW ks xs ws):ws.Perm xs:=by
 obtain⟨p,hp,rfl,_⟩:=h;have:=hp.map fun i=>xs.getD i V.non;have e:=range_getD xs V.non;rw[show(Sd (QF xs.length)).toList=QF xs.length from rfl]at e;rw[e]at this;exact this
section
variable{D:dk}
theorem En{P:U5->lr->Prop}(F:FnOk X.prog X.w X.K X.mg X.base CX0 k f fd ps sp)(hr:Room k X.A.in1.in1)(hb:Binds X.K fd ps [])(IV:Inv X pins σ H s)(fD:kE X pins H D)(hD:s.heap.get? D=some (seqObj "list" its.toArray n))(rv:Vals xs its)(h64:xs.length<64)(lk:xs.length=ks.length)(kn:∀k∈ks,k≠[])(KY:∀(i:Nat) x k H3 (Q':VK),xs[i]?=some x->ks[i]?=some k->Same H H3->(∀H4 t,Same H3 H4->SqT X.K H4 t (k.map V.int)->Q' (.ref t) H4)->sp [x] H3 Q' E0)(hR:∀ws H' s',OrdW ks xs ws->Same H H'->H' D=none->Inv X pins σ (upd H' D (.lst ws)) s'->P (.done (.ret .none)) s'):
  ni (model X.prog X.w) X.A.in1.in1 (ksk_tree D (.ref f) false) P E s:=by
 have lv:=rv.length;unfold ksk_tree;refine emptied (k:=fun its e ks=>ksk_rest D (.ref f) false its e ks) hD (by omega) fun h2 e1 k2 hD2=>?_;obtain⟨f0,f1,f2,f3,f4,f5⟩:=id fD;have I2:Inv X pins σ H {s with heap:=h2}:=IV.turned (t':=s.toks) (it:=D) k2 f0 f1 f3 f4 f5;have hkD:h2.objs.size≠D:=RC (vc hD2);have hk0:H h2.objs.size=none:=Inv.fresh I2;have I3:Inv X pins σ (upd H h2.objs.size (.lst [])) {s with heap:=h2.push (seqObj "list" #[] 0)}:=Inv.lnew (s:={s with heap:=h2}) (its:=[]) (t':=s.toks) I2 .nil (Qt _);have hD3:(h2.push (seqObj "list" #[] 0)).get? D=some (seqObj "list" #[] e1):=gf _ hD2;generalize h2.push (seqObj "list" #[] 0)=h3 at I3 hD3⊢;generalize h2.objs.size=kS at I3 hkD hk0⊢;unfold ksk_rest;refine wpAny_bind (wpAny_rule ?_);rw[List.forIn_toArray];refine wpAny_bind (ksk_fold (fun i s'=>∃H' ts,Inv X pins σ H' s'/\Same H H'/\H' D=none/\s'.heap.get? D=some (seqObj "list" #[] e1)/\H' kS=some (.lst ((ts:List dk).map V.ref))/\ts.length=i/\∀(j:Nat) t,ts[j]?=some t->∃k,ks[j]?=some k/\SqT X.K H' t (k.map V.int)) its 0 _ ⟨_,[],I3,aB hk0,by rw[aj hkD.symm];exact f0,hD3,af,rfl,fun j t h=>by simp at h⟩ ?_ ?_)
 ·rintro j x s' hx ⟨H',ts,I',sm,hD',gD,hK,lt,ht⟩;rw[WK]at lt;have hj:=(pk.mp hx).1;have hxj:xs[j]?=some xs[j]:=xi (by omega);obtain⟨u',hu',rx⟩:=rv.get hxj;rw[hx]at hu';cases hu';have hkj:ks[j]?=some ks[j]:=xi (by omega);have fD':kE X pins H' D:=⟨hD',f1,f2,f3,f4,f5⟩;have IP:Inv X (pins++qC [D] s'.heap) σ H' s':=I'.pinned (fp:=[D]) (fun b hb=>by rw[tw.mp hb];exact fD') (fun b hb=>by rw[tw.mp hb];exact⟨_,gD,fun v z=>nomatch z⟩);have key:=lW (X:=X.one.one) (vs:=[xs[j]]) (us:=[x]) (Q:=fun z H4=>∃t,z=.ref t/\Same H' H4/\SqT X.K H4 t (ks[j].map V.int)) (E:=E0) (dvs:=[]) (ds:=[]) F hr hb .nil (fun _ _ _ _ _ _ _ q=>q.elim) IP.one.one (.cons rx .nil) (by
   rw[Q2];exact KY j _ _ H' _ hxj hkj sm fun H4 t s4 h4=>⟨t,rfl,s4,h4⟩)
  refine wpAny_bind (wpAny_attempt (wpAny_mono key (fun u s2 q=>?_) fun _ _ q=>q.elim));obtain⟨z,H4,I4,rz,t2,rfl,s4,ht2⟩:=q;cases rz;have I4:=Inv.back IP.ok (Inv.back IP.one.ok I4);have pD:=I4.pin (D,seqObj "list" #[] e1) (Qi _ (Qi _ (fc (by simp) gD)));have I5:=I4.unpinned;have hK4:=s4 _ _ hK;obtain⟨_,kt,nk,rk,lk',gk⟩:=I5.lstM hK4;rw[gm]at lk';dsimp only;refine wpAny_bind (listUpdate_at gk rfl ?_ (by rw[xu,RE];omega) (by rw[Array.size_push,xu,RE];omega));have I6:Inv X pins σ (upd H4 kS (.lst ((ts++[t2]).map V.ref))) {s2 with heap:=s2.heap.update kS (Rv (·.push (.ref t2)))}:=I5.lset (t':=s2.toks) (its':=kt++[.ref t2]) hK4 gk (by simp) (by rw[xt];exact Hw rk rfl) (by rw[gm,xp,Rw,RE];omega);have nt:∀t ks',SqT X.K H4 t ks'->SqT X.K (upd H4 kS (.lst ((ts++[t2]).map V.ref))) t ks':=fun t ks' h=>by
   rcases h with(h|⟨z,h⟩)|h
   ·exact .inl (.inl (by rw[aj (fun z=>by rw[z,hK4]at h;cases h)];exact h))
   ·exact .inl (.inr ⟨z,by rw[aj (fun z=>by rw[z,hK4]at h;cases h)];exact h⟩)
   ·exact .inr h
  refine wpAny_pure ⟨rfl,_,ts++[t2],I6,fun b o e=>?_,?_,?_,af,by rw[xp,lt];simp,fun j' t hj'=>?_⟩
  ·rw[aj (ai e hk0)];exact s4 _ _ (sm _ _ e)
  ·rw[aj hkD.symm];exact pD.2.1
  ·exact((Q0 s2.heap kS (Rv (·.push (.ref t2)))).2 D hkD.symm).trans pD.1
  ·by_cases w:j'<ts.length
   ·rw[Tq w]at hj';obtain⟨k',e1',e2'⟩:=ht j' t hj';exact⟨k',e1',nt _ _ (SmT.same s4 _ _ e2')⟩
   ·have:j'=j:=by
     have:=(pk.mp hj').1;rw[xp,Rw]at this;omega
    subst this;rw[Tf (by omega),lt,Nat.sub_self]at hj';cases hj';exact⟨_,hkj,nt _ _ ht2⟩
 rintro s' ⟨H',ts,I',sm,hD',gD,hK,lt,ht⟩;rw[WK]at lt;obtain⟨_,kt,nk,rk,lk',gk⟩:=I'.lstM hK;rw[gm]at lk';refine wpAny_bind (listItems_at gk rfl ?_);have hKk:∀i,i<kt.length->TpK s'.heap (kt.getD i .none) (ks.getD i []):=fun i hil=>by
  have hi:kt[i]?=some kt[i]:=xi hil;have hti:ts[i]?=some ts[i]:=xi (by omega);obtain⟨k',e1',e2'⟩:=ht i _ hti;obtain⟨u',hu',ru⟩:=rk.get (show(ts.map V.ref)[i]?=some (.ref ts[i]) by rw[CA,hti];rfl);rw[hi]at hu';cases hu';rw[Qs,Qs,hi,e1'];show TpK s'.heap kt[i] k';rw[show kt[i]=zt ts[i]from ru];obtain⟨ia,ra,pa,_⟩:=I'.tuple e2';obtain⟨o,ho,hc,n',hd⟩:=id pa;exact⟨kn k' (QA e1'),_,o,_,n',rfl,ho,hc,hd,intsAre_of ra⟩
 have hT:∀v∈kt,TpI s'.heap v:=fun v hv=>by
  obtain⟨i,hi⟩:=QJ hv;have hil:=(pk.mp hi).1;have:=hKk i hil;rw[Qs,hi]at this;exact this.tpI
 have hkD':D≠kS:=hkD.symm;have fin:∀st:SortSt,failedOf st=none->(∃p,Prn its.length p/\AW ks its.length p/\(arrOf st).map (·.2)=Sd (p.toList.map fun i=>its.getD i Q4))->ni (model X.prog X.w) X.A.in1.in1 (ksk_tail D false e1 (.ref kS) st) P E s':=by
  rintro st hf ⟨p,hp,od,eo⟩;obtain⟨wp,wv⟩:=Hg rv hp;have po:=FD hp;generalize eo2:(p.toList.map fun i=>its.getD i Q4)=out at eo wv po;generalize ew:(p.toList.map fun i=>xs.getD i V.non)=ws at wp wv;have hOW:OrdW ks xs ws:=⟨p,by rw[lv];exact hp,ew.symm,by rw[lv];exact od⟩;unfold ksk_tail
  try dsimp only
  rw[eo];refine wpAny_bind (listUpdate_at gk rfl ?_ (by rw[xu,RE];omega) (Qt _));have I6:Inv X pins σ (upd H' kS (.lst [])) {s' with heap:=s'.heap.update kS (Rv fun _=>(#[]:Array cT))}:=I'.lset (t':=s'.toks) (its':=[]) (ys:=[]) hK gk (by simp) .nil (Qt _);have gD6:(s'.heap.update kS (Rv fun _=>(#[]:Array cT))).get? D=some (seqObj "list" #[] e1):=((Q0 s'.heap kS (Rv fun _=>(#[]:Array cT))).2 D hkD').trans gD;generalize s'.heap.update kS (Rv fun _=>(#[]:Array cT))=h6 at I6 gD6⊢;refine wpAny_bind (wpAny_letGo ?_);refine vt (s:={s' with heap:=h6}) (out:=out.toArray) gD6 (by rw[xu,po.length_eq,RE];omega) fun h7 c k7 g7=>?_;rw[hf]
  wp_walk
  refine hR ws (upd H' kS (.lst [])) _ hOW (fun b o e=>?_) (by rw[aj hkD'];exact hD') ?_
  ·rw[aj (ai e hk0)];exact sm _ _ e
  ·exact Inv.adopt (s:={s' with heap:=h6}) (t':=s'.toks) I6 k7 ⟨by rw[aj hkD'];exact hD',f1,f2,f3,f4,f5⟩ ⟨by rw[wp.length_eq,RE];omega,out,c,wv,g7⟩
 unfold ksk_end
 try dsimp only
 simp only[Tz,if_false];by_cases h2:its.toArray.size<2
 ·rw[if_pos h2,if_pos h2];refine wpAny_bind (wpAny_pure ?_);rw[StateT.run_pure];refine wpAny_bind (wpAny_pure ?_);refine fin _ rfl ⟨Sd (QF its.length),UH _,EN (by simpa using h2),?_⟩;rw[show((Sd (QF its.length)).toList.map fun i=>its.getD i Q4)=its from range_getD its _];show(kt.toArray.zip its.toArray).map (·.2)=its.toArray;apply Xt.mp;simp;exact Xu (by omega)
 ·rw[if_neg h2,if_neg h2];have h2':2<=its.length:=by simpa using h2
  obtain⟨fs,kt',ki,kl⟩:=kat_tups hT;refine wpAny_bind (Xv (T:=RL "int") kt' (by omega) (fun v hv=>?_) (by decide) ?_)
  ·obtain⟨n',t',rfl⟩:=ki v hv;exact V8 rfl
  have hkl:kt.length=its.length:=by omega
  refine wpAny_bind (wpAny_mono (X1 (ks:=kt) (vs:=its) (Q:=fun st' s''=>s''=s'/\failedOf st'=none/\∃p,(Prn its.length p/\AW ks its.length p)/\arrOf st'=p.map (Xw (kt.toArray.zip its.toArray)))
   (G:=fun p s''=>s''=s'/\Prn its.length p/\AW ks its.length p) hkl h2' (by omega) (fun p st' s'' _ a2 a3 a4=>⟨a4.1,a3,p,a4.2,a2⟩) ?_) ?_ fun _ _ e=>e)
  ·refine Lh (n:=its.length) (b:=fun i j=>ltL (ks.getD i []) (ks.getD j [])) (P:=fun p=>Prn its.length p/\AW ks its.length p) (fun i j C hi hj hC=>?_) (fun p hp=>⟨rfl,hp⟩) _ (NB (by omega));unfold PySem.W.kas_ask;exact IZ (hKk i (by omega)) (hKk j (by omega)) hC
  rintro⟨⟨⟩,st'⟩ s'' ⟨rfl,hf,p,hp,har⟩;exact fin st' hf ⟨p,hp.1,hp.2,Xx hkl har⟩
theorem F1{l:dk}{Q:cT->lr->Prop}(F:FnOk X.prog X.w X.K X.mg X.base CX0 k f fd ps sp)(hr:Room k X.A.in1.in1)(hb:Binds X.K fd ps [])(IV:Inv X pins σ H s)(hl:s.heap.IsList l its.toArray)(rv:Vals xs its)(h64:xs.length<64)(lk:xs.length=ks.length)(kn:∀k∈ks,k≠[])(KY:∀(i:Nat) x k H3 (Q':VK),xs[i]?=some x->ks[i]?=some k->Same H H3->(∀H4 t,Same H3 H4->SqT X.K H4 t (k.map V.int)->Q' (.ref t) H4)->sp [x] H3 Q' E0)(hR:∀D ws H' s',H D=none->OrdW ks xs ws->Same H H'->H' D=none->Inv X pins σ (upd H' D (.lst ws)) s'->Q (.ref D) s'):
  ni (model X.prog X.w) X.A (call (.builtin "sorted") [.ref l] [(QO "key",.ref f)]) Q E s:=by
 have lv:=rv.length;refine wF hl (by omega) (ksk_s1 _ _) (fun _=>ksk_l1 _ _) fun h1 g1 a1=>?_;have hDn:H (s.heap.objs.size+ 1)=none:=IV.hok.fresh (RP _);rw[ksk_t1];exact En F hr hb (IV.kept (t':=s.toks) g1) (IV.fpOk (RP _) hDn) a1 rv h64 lk kn KY fun ws H' s' wp sm hD' I'=>⟨rfl,hR _ ws H' s' hDn wp sm hD' I'⟩
end
def Ho(K:cw)(sp:Sp)(x:V)(H2:Hp)(Q:VK):Prop:=∃(l:dk) (xs:List V) (ks:List (List Int)),x=.ref l/\SqL K H2 l xs/\xs.length<64/\xs.length=ks.length/\(∀k∈ks,k≠[])/\
 (∀(i:Nat) (x:V) (k:List Int) (H3:Hp) (Q':VK),xs[i]?=some x->ks[i]?=some k->Same H2 H3->(∀H4 t,Same H3 H4->SqT K H4 t (k.map V.int)->Q' (.ref t) H4)->sp [x] H3 Q' E0)/\
 ∀(D:dk) (ws:List V) (H':Hp),H2 D=none->ws.Perm xs->OrdW ks xs ws->Same H2 H'->H' D=some (.lst ws)->Q (.ref D) H'
def GA(K:cw)(sp:Sp)(te:TE):TE:=fun σ H Q=>te σ H fun x H1=>Ho K sp x H1 Q
section
theorem y6{K:cw}{p p2 k1:Sz}{fx:pe}(hK:X.K=K)(ha:PA X [e] (um te AD))(hg:Gl X "sorted")(hm:X.mg "sorted"=none)(G:FnOk X.prog X.w X.K X.mg X.base CX0 k f fd ps sp)(hmk:X.mg fx=some (.ref f))(hbk:Binds X.K fd ps [])(hgk:Gl X fx)(hr:Room (k+ 1) X.A)(hdb:(fx==("__debug__":pe))=false:=by decide)(h1:backTo pos (starEach [e] X.env)=(false,eval e X.env)::backTo pos (starEach [] X.env):=by rfl)(h2:(backTo pos (starEach [e] X.env)).any (·.1)=false:=by rfl):
  PE X (.Call (.Name "sorted" p) [e] [⟨some "key",.Name fx p2,k1⟩] pos) (GA K sp te):=by
 subst hK;intro pins s σ H Q I h;refine RN (my I hg hm Sf ?_);refine Ux ?_ h1 h2;refine thn (ha pos pins s σ H (fun vs H1=>match vs with|[x]=>Ho X.K sp x H1 Q|_=>False) I h) fun us s1 zz=>?_;obtain⟨vs,H1,I1,r1,q1⟩:=zz;obtain⟨x,rfl⟩:∃x,vs=[x]:=by
  match vs,q1 with
  |[x],_=>exact⟨x,rfl⟩
 obtain⟨u,rfl,rx⟩:=vals1 r1;obtain⟨l,xs,ks,ex,hl,h64,lk,kn,KY,q⟩:=q1;subst ex;cases rx;refine Uj (mQ I1 hgk hmk ?_ hdb);refine Wl ?_;obtain⟨its,rv,pl,hz⟩:=I1.list hl;show ni _ _ (call (.builtin "sorted") [zt l] [(QO "key",.ref f)]) _ _ _;refine F1 (H:=H1) G (Room.two hr) hbk I1 pl.isList rv h64 lk kn KY fun D ws H' s' hD wp sm hD' I'=>?_;exact⟨.ref D,_,I',rfl,q D ws _ hD wp.perm wp (sm.trans (aB hD')) af⟩
end
theorem Jx{K:cw}{Q:VK}(h:te σ H fun x H1=>Ho K sp x H1 Q):GA K sp te σ H Q:=h
section
end
section
variable{cs fs:List dk}
end
section
variable{K:cw}{E:XK}
end
section
end
section
end
section
variable{K:cw}
end
section
end
section
variable{K:cw}
end
section
end
section
variable{me hd ba ye vo re ag:V}
end
section
variable{m:pe}{apos:Sz}{o:QC}{es:List QC}{ta:TE}{t:TA}
end
section
variable{Q:VK}
end
section
end
section
variable{K:cw}{E:XK}
end
section
variable{K:cw}
end
section
variable{K:cw}
end
def CXR(P:Qo)(w:Qu):CXT:=fun outer H s E e s'=>∃(ea C:dk) (a0:cT) (B:Qg) (H':Hp),e=.ref ea/\s'.os=s.os/\TK s'.gens/\Un (frs outer) [] H H' s.heap s'.heap/\HOk P w H' s'.heap/\
 Heap.FlyingW B outer ea (.ref C) a0 s'.heap/\(∀b o,s'.heap.get? b=some o->b∉frs outer->((∃o0,s.heap.get? b=some o0)∨∃u,H' b=some u)->B.get? b=some o)/\H' ea=none/\E (.ref ea) (some C) H'
theorem ObjOk.at{a:dk}{o:HO}(x:ObjOk P w H h a o):∃ob,h.get? a=some ob:=by
 cases o with
 |lst xs=>obtain⟨_,_,_,_,e⟩:=x;exact⟨_,e⟩
 |tup xs=>obtain⟨_,_,_,ob,e,_⟩:=x;exact⟨_,e⟩
 |dK kvs=>obtain⟨_,_,_,_,o,_,_,e,_⟩:=x;exact⟨_,e⟩
 |dT kvs=>obtain⟨_,_,_,_,o,_,_,e,_⟩:=x;exact⟨_,e⟩
 |set S n=>obtain⟨o,_,_,_,e,_⟩:=x;exact⟨_,e⟩
 |ins C dx fs=>obtain⟨_,_,_,e,_⟩:=x;exact⟨_,e⟩
 |own _=>exact x
 |xd fs=>obtain⟨_,⟨o,_,_,e,_⟩,_⟩:=x;exact⟨_,e⟩
 |rng lo hi=>obtain⟨_,_,_,e⟩:=x;exact⟨_,e⟩
 |frz o u=>exact⟨_,x.1⟩
 |tbl ps=>exact⟨_,x⟩
 |met f x'=>exact⟨_,x⟩
 |ext φ=>exact x.2.1
theorem yL{H1:Hp}{s1:lr}(I:Inv X pins σ H1 s1)(hex:X.ex=[])(hP:X.prog=P)(hw:X.w=w)(un:Un (frs X.stack) [] H1 H' s1.heap s'.heap)(hok:HOk P w H' s'.heap)(hB:∀b o,s'.heap.get? b=some o->b∉frs X.stack->((∃o0,X.s₀.heap.get? b=some o0)∨∃u,H' b=some u)->B.get? b=some o)(st:B.StaysIn h')(up:s'.heap.UpToSlots h')(hstk:X.stack=X.env::X.outer):
  Un (frs X.outer) [] X.H₀ H' X.s₀.heap h'/\HOk P w H' h'/\∀b o,h'.get? b=some o->b∉frs X.outer->((∃o0,X.s₀.heap.get? b=some o0)∨∃u,H' b=some u)->B.get? b=some o:=by
 have base:=I.base;rw[hex]at base;have frN:∀b,b∈frs X.stack->H' b=none:=fun b hb=>by
  obtain⟨_,o,ho,_⟩:=I.stack.mem hb;exact un.free b o ho (I.stkFree b hb) (by simp)
 have frO:∀b,b∈frs X.outer->b∈frs X.stack:=fun b hb=>by
  rw[hstk];unfold frs;rw[Ti];cases X.env.frame with
  |none=>exact hb
  |some _=>exact xj _ hb
 have lo:∀b o,X.s₀.heap.get? b=some o->b∉frs X.outer->b∉frs X.stack:=fun b o e n z=>by
  rcases uc.mp (I.stkSub b z)with q|q
  ·rw[q]at e;exact absurd (vc e) (XT.mpr I.ok.above)
  ·exact n q
 have slot':∀b o,s'.heap.get? b=some o->b∈frs X.stack->∃sl,h'.get? b=some {o with slots:=sl}:=fun b o e hb=>by
  obtain⟨_,o1,ho1,nf⟩:=I.stack.mem hb;obtain⟨sl,e1⟩:=un.slot b o1 ho1 (I.stkFree b hb) hb (by simp);rw[e]at e1;cases e1;exact up b _ e nf
 have keepR:∀b o,s'.heap.get? b=some o->b∉frs X.stack->((∃o0,X.s₀.heap.get? b=some o0)∨∃u,H' b=some u)->h'.get? b=some o:=fun b o e n r=>st b o (hB b o e n r);refine⟨⟨fun b o e n hf _=>?_,fun b o e n hf _=>?_,fun b o e n _=>?_,fun b o e _=>?_,fun b xs e=>un.tups b xs (base.tups b xs e),fun b o u e=>un.frzs b o u (base.frzs b o u e),fun b ps e=>?_⟩,fun a u e=>?_,fun b o e hf r=>?_⟩
 ·have e1:=base.keep b o e n hf (by simp);have ns:=lo b o e hf;exact keepR b o (un.keep b o e1 (base.free b o e n (by simp)) ns (by simp)) ns (.inl ⟨o,e⟩)
 ·obtain⟨sl,e1⟩:=base.slot b o e n hf (by simp);obtain⟨sl2,e2⟩:=un.slot b _ e1 (base.free b o e n (by simp)) (frO b hf) (by simp);obtain⟨sl3,e3⟩:=slot' b _ e2 (frO b hf);exact⟨sl3,e3⟩
 ·obtain⟨o1,e1⟩:=base.there b o e (by simp);exact un.free b o1 e1 (base.free b o e n (by simp)) (by simp)
 ·obtain⟨o1,e1⟩:=base.there b o e (by simp);obtain⟨o2,e2⟩:=un.there b o1 e1 (by simp);by_cases hf:b∈frs X.stack
  ·obtain⟨sl,e3⟩:=slot' b o2 e2 hf;exact⟨_,e3⟩
  ·exact⟨o2,keepR b o2 e2 hf (.inl ⟨o,e⟩)⟩
 ·obtain⟨m1,e1⟩:=base.tbls b ps e;obtain⟨m2,e2⟩:=un.tbls b _ e1;exact⟨m1++m2,by rw[e2,WE]⟩
 ·refine(hok a u e).stay (fun b o hb q=>?_) (fun _ q=>q) fun _ _ q=>q;have tr:∃v,H' b=some v:=by
   rcases hb with z|z
   ·exact⟨u,z▸e⟩
   ·exact⟨_,z⟩
  refine keepR b o q (fun z=>?_) (.inr tr);obtain⟨v,hv⟩:=tr;rw[frN b z]at hv;cases hv
 ·have ex':∃o',s'.heap.get? b=some o':=by
   rcases r with⟨o0,e0⟩|⟨u,hu⟩
   ·obtain⟨o1,e1⟩:=base.there b o0 e0 (by simp);exact un.there b o1 e1 (by simp)
   ·exact(hok b u hu).at
  obtain⟨o',e'⟩:=ex';have ns:b∉frs X.stack:=fun z=>by
   rcases r with⟨o0,e0⟩|⟨u,hu⟩
   ·exact lo b o0 e0 hf z
   ·rw[frN b z]at hu;cases hu
  have eB:=hB b o' e' ns r;rw[st b o' eB]at e;cases e;exact eB
section
variable{K:cw}{E:XK}
theorem Pm:jI (CXR P w) (lM (CXR P w) P w K mg base N qual scope f cd A outer s H E) E:=by
 intro pins σ H1 s1 e s' I h;obtain⟨ea,C,a0,B,H',rfl,os,gb,un,hok,fl,hB,hn,q⟩:=h;refine wpAny_leaves_onW I.ok.frames rfl fl fun h' fl' up=>?_;obtain⟨u1,u2,u3⟩:=yL I rfl rfl rfl un hok (fun b o e n r=>hB b o e n (r.imp (fun⟨o0,e0⟩=>I.base.there b o0 e0 (by intro z;cases z)) id)) fl'.1 up rfl;exact⟨ea,C,a0,B,H',rfl,os.trans I.os,gb,u1,u2,fl',u3,hn,q⟩
def XCls(K:cw)(C N:dk)(up:List cT)(newId:String):Prop:=∃nm qn bs hdct sn sub ab col dd k0 k1 k2 k3 k5,K.lookup C=some (excClassObj nm qn C N bs up hdct sn sub ab col dd k0 k1 k2 k3 k5 newId)
theorem XCls.mk{K:cw}{N:dk}{up:List cT}{newId:String}{nm qn bs hdct sn sub ab col dd k0 k1 k2 k3 k5}(h:K.lookup C=some (excClassObj nm qn C N bs up hdct sn sub ab col dd k0 k1 k2 k3 k5 newId)):XCls K C N up newId:=⟨_,_,_,_,_,_,_,_,_,_,_,_,_,_,h⟩
end
section
variable{h2:Qg}{ea:dk}{a0:cT}
end
section
end
section
variable{M:Yt}
end
section
variable{pins':List (dk×QM)}{EE:St->XK}
end
end L2
namespace L2
open PySem PySem.Spec PyProof.Rows PySem.W
section
variable{prog:Qo}{w:Qu}{A:QR}{E:cT->lr->Prop}{K:cw}{x C:dk}
def OfC(h:Qg)(x C:dk):Prop:=∃o,h.get? x=some o/\o.cls=.ref C
theorem OfC.type{M:Yt}{h:Qg}(I:OfC h x C):Looks M h (typeOf (.ref x)) (.ref C):=by
 obtain⟨o,e,c⟩:=I;exact c▸(Looks.ld e).andThen .now
end
end L2
namespace L2
open PySem PySem.Spec PyProof.Rows
variable{P:Qo}{w:Qu}{x:pe}{f:dk}{fd:xw}{ps:List pe}{k:Nat}{sp:Sp}{X:Cx}
section
variable{K:cw}{mg:pe->Option cT}{base:Qg}
theorem Fun.okX{qual:pe}{st:QB}{N:List pe}(F:Fun K x qual st f fd)(S:FnScope N ps (aw st))(len:∀vs H Q E,sp vs H Q E->vs.length=ps.length)(hbody:∀(cdv:cT) (A:QR) (outer:List S2) (s:lr) (H:Hp) (vs:List V) (Q:VK) (E:XK),Room k (A.deeper (envOfC qual (aw st) s.heap.objs.size f cdv))->sp vs H Q E->
   ∃t,PSs (lM (CXR P w) P w K mg base N qual (aw st) f cdv A outer s H E) (fA st) t/\t {nx:=fun _ H'=>Q .non H',rt:=Q} (start N vs) H):FnOk P w K mg base (CXR P w) (k+ 1) f fd ps sp:=by
 obtain⟨oc,od,kV,doc,pm,an,cdv,ct,osl,rfl,lk,hcd⟩:=F.ex;exact K0 lk hcd S len fun A outer s H vs Q E hr hsp=>hbody cdv A outer s H vs Q E hr hsp
end
theorem My:jI (CXR P w) X E0:=fun _ _ _ _ _ _ _ h=>by
 obtain⟨_,_,_,_,_,_,_,_,_,_,_,_,_,q⟩:=h;exact q.elim
section
variable{e:QC}{es:List QC}{t:TA}{p pos:Sz}
end
section
variable{D:Ends}{σ:St}{H:Hp}{Q:VK}
end
section
variable{tg:QC}
end
end L2
namespace L2
open PySem PySem.Spec PyProof.Rows PySem.W
variable{prog P:Qo}{w:Qu}{A:QR}{E:cT->lr->Prop}{x C d dx e f a:dk}{name:pe}{v:cT}{s:lr}{mA:pe->Option cT}{ns:List pe}{tk:TQ}{up bmB:List cT}{R:S3->lr->Prop}{Q:Unit->lr->Prop}{H:Hp}{h:Qg}{fs:List (pe×V)}{X:Cx}{pins:List (dk×QM)}{σ:St}{pos:Sz}{B newId initId:String}
section
variable{K:cw}
theorem Cw{Q:U5->lr->Prop}(N:s.heap.Ns1 d mA)(hw:UL mA ns)(hz:ns.length<=sizeLine)(h:∀h',h'.Ns1 d (fun y=>if y=name then some v else mA y)->Rf d s.heap h'->Q (.done (.ret .none)) {s with heap:=h',toks:=s.toks+ 1}):
  ni (model prog w) A (Builtin.ObjectAttr.storeInDict d (.str name tk) name v) Q E s:=by
 refine wpAny_bind (wpAny_pure (wpAny_bind (wpAny_nsSet1 N fun h' n' sb=>?_)));obtain⟨o,es,ep,ho,hd,hc⟩:=n'.count (Within.cons name v hw);rw[QL]at hc;exact wpAny_bind (wpAny_lookBehind ho (by rw[hd];exact Xk (QT hc (Sl hz))) (wpAny_pure (h _ n' sb)))
def UpV(up:List cT):Prop:=∃cs:List dk,up=cs.map zt++[.type "ValueError",.type "Exception",.type "BaseException",.type "object"]
theorem UpV.pass(u:UpV up)(self:cT):refuseLoop self "__setattr__" up=pure ():=by
 obtain⟨cs,rfl⟩:=u
 induction cs with
 |nil=>exact PySem.F.store_ValueError.passes self
 |cons c cs ih=>exact(refuseLoop_ref _ _ _ _).trans ih
structure XaF(K:cw)(C:dk):Prop where
 sa:Qx K (.ref C) "__setattr__"=some (some (.builtin "object.__setattr__"))
 hm:UR K C (.type "object")=some true
 cl:∃cd up,Wo K C=some cd/\cd.hasDict=true/\cd.mro=.ref C::up/\UpV up
theorem CF{cd:ClassData}(F:XaF K C)(X:K.In s.heap)(I:OfC s.heap x C)(hc:Wo K C=some cd)(hm:cd.mro=.ref C::up)(u:UpV up)(hn:Qx K (.ref C) name=some none)(h:ni (model prog w) A.in1 (Builtin.ObjectAttr.storeInOwnDict (.ref x) (.ref C) (.str name tk) name v false)
   (fun fin s'=>match fin with| .done f=>R (.ok f) s'| .again c'=>c'.quiet=true/\QW (model prog w) A c' R s') (fun e s'=>R (.error e) s') s):
  QW (model prog w) A (.call (.builtin "object.__setattr__") ⟨[.ref x,.str name tk,v],[]⟩) R s:=by
 have SF:=PySem.F.store_object;have T:=I.type (M:=model prog w);refine codeAny_call_builtin SF.slot.plain SF.entry (@check_slot (model prog w) _ _ s "object.__setattr__" "object" "__setattr__" (.ref x) [.str name tk,v] [] _ SF.kind SF.split (T.andThen (looks_mroIn X F.hm)) (SF.args (.ref x) (.str name tk) v) ?_);have M1:Looks (model prog w) s.heap (mroOf (.ref C)) (.ref C::up):=hm▸(looks_clsIn X hc).andThen .now;rw[osa_eq,refuse_eq];refine wpAny_bind (wpAny_bind (T.here (wpAny_bind (M1.here ?_))));rw[refuseLoop_ref,u.pass];exact wpAny_pure (wpAny_bind (T.here (wpAny_bind ((looks_findIn X hn).here (wpAny_bind (wpAny_pure h))))))
end
section
variable{K:cw}{vs:Array cT}{sl:Array (Option cT)}
theorem JI(F:XaF K C)(X:K.In s.heap)(hx:s.heap.get? x=some ⟨.ref C,none,.fields vs,sl⟩)(hn:Qx K (.ref C) name=some none)(h:∀h',h'.get? x=some ⟨.ref C,some s.heap.objs.size,.fields vs,sl⟩->h'.Ns1 s.heap.objs.size (fun y=>if y=name then some v else none)->(∀b o,b≠x->s.heap.get? b=some o->h'.get? b=some o)->Q () {s with heap:=h',toks:=s.toks+ 2}):
  ni (model prog w) A (setAttr (.ref x) name v) Q E s:=by
 obtain⟨cd,up,hc,hd,hm,u⟩:=F.cl;obtain⟨hp,g,d,t,os⟩:=s;have J:InstAt hp x ⟨.ref C,none,.fields vs,sl⟩ C none:=⟨hx,rfl,rfl,RZ⟩;have OC:OfC hp x C:=⟨_,hx,rfl⟩;refine U2 X J F.sa (CF (s:=⟨hp,g,d,t+ 1,os⟩) F X OC hc hm u hn ?_);refine wpAny_bind (wpAny_pure (wpAny_bind (wpAny_bind (wpAny_loadPart hx (wpAny_bind (UM (s:=⟨hp,g,d,t+ 1,os⟩) (Uz X hc) ?_))))));rw[hd];have lt:x<hp.objs.size:=vc hx;have ne:x≠hp.objs.size:=xy lt;have hx1:(hp.push emptyDict).get? x=some ⟨.ref C,none,.fields vs,sl⟩:=gf _ hx;refine wpAny_bind (wpAny_alloc (wpAny_bind (wpAny_update hx1 (wpAny_pure ?_))));have gx:=Q7 (fun o:QM=>{o with dict:=some hp.objs.size}) hx1 rfl;have gd:=(WA (hp.push emptyDict) hp.objs.size x (fun o:QM=>{o with dict:=some hp.objs.size}) (QH ne)).trans (rl hp rfl);refine Cw (s:=⟨(hp.push emptyDict).update x fun o=>{o with dict:=some hp.objs.size},g,d,t+ 1,os⟩) (mA:=fun _=>none) (ns:=[]) (Heap.Ns1.of_empty ⟨emptyDict,#[],_,gd,rfl,(fun e he=>absurd he (by simp)),fun _=>rfl⟩) (fun y z=>absurd rfl z) (Qt _) fun h' n' sb=>?_;refine h h' ((sb.2 x ne).trans gx) n' fun b o hb e=>?_;exact(sb.2 b (xy (vc e))).trans ((WA _ _ _ _ hb).trans (gf _ e))
theorem IF(F:XaF K C)(X:K.In s.heap)(hx:s.heap.get? x=some ⟨.ref C,some dx,.fields vs,sl⟩)(N:s.heap.Ns1 dx mA)(hw:UL mA ns)(hz:ns.length<=sizeLine)(hn:Qx K (.ref C) name=some none)(h:∀h',h'.Ns1 dx (fun y=>if y=name then some v else mA y)->Rf dx s.heap h'->Q () {s with heap:=h',toks:=s.toks+ 2}):
  ni (model prog w) A (setAttr (.ref x) name v) Q E s:=by
 obtain⟨cd,up,hc,hd,hm,u⟩:=F.cl;obtain⟨hp,g,d,t,os⟩:=s;obtain⟨od,es,ep,ho,r⟩:=id N;have J:InstAt hp x ⟨.ref C,some dx,.fields vs,sl⟩ C (some od):=⟨hx,rfl,rfl,ho⟩;have OC:OfC hp x C:=⟨_,hx,rfl⟩;refine U2 X J F.sa (CF (s:=⟨hp,g,d,t+ 1,os⟩) F X OC hc hm u hn ?_);refine wpAny_bind (wpAny_pure (wpAny_bind (wpAny_bind (wpAny_loadPart hx (wpAny_bind (UM (s:=⟨hp,g,d,t+ 1,os⟩) (Uz X hc) ?_))))));rw[hd];refine wpAny_pure (a:=some dx) ?_;exact Cw (s:=⟨hp,g,d,t+ 1,os⟩) N hw hz fun h' n' sb=>h h' n' sb
end
def isM(e C:dk)(od:Option dk):Qg->Prop:=fun h=>∃vs sl a0,h.get? e=some ⟨.ref C,od,.fields vs,sl⟩/\vs[0]?=some a0/\vs[1]?=some .none
abbrev xM(e C:dk)(od:Option dk):HO:=.ext (isM e C od)
def isN(d:dk)(fs:List (pe×V)):Qg->Prop:=fun h=>∃mA,h.Ns1 d mA/\(∀f,RelO (fs.lookup f) (mA f))/\UL mA (fs.map (·.1))
abbrev xN(d:dk)(fs:List (pe×V)):HO:=.ext (isN d fs)
theorem isM.ok{od:Option dk}(x:isM e C od h):ObjOk P w H h e (xM e C od):=by
 obtain⟨vs,sl,a0,g,r⟩:=id x;exact⟨x,⟨_,g⟩,fun h1 h2 ⟨vs,sl,a0,g,r⟩ k=>⟨vs,sl,a0,k _ g,r⟩⟩
theorem isN.ok(x:isN d fs h):ObjOk P w H h d (xN d fs):=by
 obtain⟨mA,n,_⟩:=id x;obtain⟨o,_,_,g,_⟩:=id n;exact⟨x,⟨o,g⟩,fun h1 h2 ⟨mA,n,r⟩ k=>⟨mA,n.at k,r⟩⟩
section
variable{f:pe}{y:V}{u:cT}
theorem Inv.both{h':Qg}{t':Nat}{φ φ1 φ2:Qg->Prop}(I:Inv X pins σ H s)(he:H e=some (.ext φ))(k:∀b o,b≠e->s.heap.get? b=some o->h'.get? b=some o)(hp:s.heap.objs.size<=dx)(ne:dx≠e)
  (n1:ObjOk X.prog X.w (upd (upd H dx (.ext φ1)) e (.ext φ2)) h' e (.ext φ2)) (n2:ObjOk X.prog X.w (upd (upd H dx (.ext φ1)) e (.ext φ2)) h' dx (.ext φ1)):Inv X pins σ (upd (upd H dx (.ext φ1)) e (.ext φ2)) {s with heap:=h',toks:=t'}:=by
 have fr:H dx=none:=I.hok.fresh hp;have go:∀{b o},H b=some o->(∀φ,o≠.ext φ)->upd (upd H dx (.ext φ1)) e (.ext φ2) b=some o:=fun{b o} q n=>by
  rw[aj (fun z=>by rw[z,he]at q;cases q;exact n _ rfl),aj (fun z=>by rw[z,fr]at q;cases q)];exact q
 have nn:∀{b},H b=none->b≠e:=fun{b} q z=>by rw[z,he]at q;cases q
 obtain⟨oe,ge⟩:∃o,h'.get? e=some o:=n1.2.1;refine I.un ⟨fun b o q n _ _=>k b o (nn n) q,fun b o q n _ _=>⟨o.slots,k b o (nn n) q⟩,fun b o q n _=>?_,fun b o q _=>?_,fun b xs q=>go q (by intro _ z;cases z),fun b o u q=>go q (by intro _ z;cases z),fun b ps q=>⟨#[],by rw[WR];exact go q (by intro _ z;cases z)⟩⟩ fun b u q=>?_
 ·rw[aj (nn n),aj (xy (Qr (vc q) hp))];exact n
 ·by_cases z:b=e
  ·exact⟨oe,z▸ge⟩
  ·exact⟨o,k b o z q⟩
 ·by_cases z:b=e
  ·subst z;rw[af]at q;cases q;exact n1
  ·rw[aj z]at q;by_cases z2:b=dx
   ·subst z2;rw[af]at q;cases q;exact n2
   ·rw[aj z2]at q;refine(I.hok b u q).stay (fun c o hc g=>k c o (fun zc=>?_) g) (fun c r=>go r (by intro _ z;cases z)) fun c xs r=>go r (by intro _ z;cases z);rcases hc with w|w
    ·exact z (w▸zc)
    ·rw[zc,he]at w;cases w
theorem Pk(I:Inv X pins σ H s)(he:H e=some (xM e C none))(F:XaF X.K C)(hn:Qx X.K (.ref C) f=some none)(ry:RelV y u)(h:∀s' dx,H dx=none->dx≠e->Inv X pins σ (upd (upd H dx (xN dx [(f,y)])) e (xM e C (some dx))) s'->Q () s'):ni (model X.prog X.w) A (setAttr (.ref e) f u) Q E s:=by
 obtain⟨vs,sl,a0,g,g0,g1⟩:=(I.hok e _ he).1;have ne:s.heap.objs.size≠e:=RC (vc g);refine JI F I.kIn g hn fun h' gx n' k=>h _ s.heap.objs.size (I.hok.fresh (oh _)) ne ?_;refine I.both he k (oh _) ne (isM.ok ⟨vs,sl,a0,gx,g0,g1⟩) (isN.ok ⟨_,n',fun g=>?_,fun g hg=>?_⟩)
 ·by_cases z:g=f
  ·rw[if_pos z,z];simp only[SG,beq_self_eq_true];exact ry
  ·rw[if_neg z];simp only[SG,beq_eq_false_iff_ne.mpr z];trivial
 ·by_cases z:g=f
  ·rw[z];exact xl
  ·exact absurd (if_neg z) hg
theorem OK(I:Inv X pins σ H s)(he:H e=some (xM e C (some dx)))(hd:H dx=some (xN dx fs))(F:XaF X.K C)(hn:Qx X.K (.ref C) f=some none)(hl:fs.length<1000)(ry:RelV y u)(h:∀s',Inv X pins σ (upd H dx (xN dx (cL f y fs))) s'->Q () s'):ni (model X.prog X.w) A (setAttr (.ref e) f u) Q E s:=by
 obtain⟨vs,sl,a0,g,g0,g1⟩:=(I.hok e _ he).1;obtain⟨mA,N,r,wi⟩:=(I.hok dx _ hd).1;refine IF F I.kIn g N wi (by rw[gm,RE];omega) hn fun h' n' sb=>h _ ?_;have hdo:∃o,h'.get? dx=some o:=let ⟨o,_,_,e',_⟩:=n';⟨o,e'⟩;refine I.write (x:=dx) (e:=dx) (by rw[hd];exact RZ) (.inl rfl) (fun b q hb z=>(sb.2 b hb).trans z) hdo (isN.ok ⟨_,n',fun g=>?_,fun g hg=>?_⟩)
 ·show RelO ((cL f y fs).lookup g) (if g=f then some u else mA g);rw[mq];by_cases q:g=f
  ·rw[if_pos q,if_pos q];exact ry
  ·rw[if_neg q,if_neg q];exact r g
 ·by_cases q:g=f
  ·rw[q];exact(jw f y fs).1
  ·refine(jw f y fs).2 g (wi g fun z=>hg ?_);show(if g=f then some u else mA g)=none;rw[if_neg q];exact z
def Lp(K:cw)(ta tv:TE)(f:pe):TS:=fun D σ H=>tv σ H fun y H1=>ta σ H1 fun x H2=>∃e C,x=.ref e/\XaF K C/\Qx K (.ref C) f=some none/\
 ((H2 e=some (xM e C none)/\∀dx,H2 dx=none->dx≠e->D.nx σ (upd (upd H2 dx (xN dx [(f,y)])) e (xM e C (some dx))))∨
 ∃dx fs,H2 e=some (xM e C (some dx))/\H2 dx=some (xN dx fs)/\fs.length<1000/\D.nx σ (upd H2 dx (xN dx (cL f y fs))))
theorem Ds{K:cw}{o value:QC}{ta tv:TE}{pos':Sz}(hK:X.K=K)(ha:PE X o ta)(hv:PE X value tv)(hs:Ue value (some (.Attribute o f pos')) pos.line X.env=pure false):PS X (.Assign [.Attribute o f pos'] value pos) (Lp K ta tv f):=by
 subst hK;intro pins s σ H D I h;refine Um (thn (hv pins s σ H _ I h) fun u s1 ⟨y,H1,I1,ry,q⟩=>thn (ha pins s1 σ H1 _ I1 q) fun ov s2 zz=>?_) hs;obtain⟨x,H2,I2,rx,e,C,ex,F,n,q2⟩:=zz;subst ex;obtain rfl:ov=zt e:=rx;rcases q2 with⟨g,q2⟩|⟨dx,fs,g,gd,l,q2⟩
 ·exact Pk I2 g F n ry fun s3 dx n1 n2 I3=>⟨σ,_,I3,q2 dx n1 n2⟩
 ·exact OK I2 g gd F n l ry fun s3 I3=>⟨σ,_,I3,q2⟩
end
section
variable{K:cw}{fI:dk}{g:Array GenState}{d:Ys}{t:Nat}{os:OsState}
structure XiF(K:cw)(C fI:dk)(bmB:List cT)(newId:String):Prop where
 cl:∃N up,XCls K C N up newId/\YL K bmB up=true
 init:Qx K (.ref C) "__init__"=some (some (.ref fI))
 fn:WI K (.ref fI)=some (.type "function")
 self:UR K C (.ref C)=some true
 kp:R9 K (.ref C)=true
theorem JT{rest:List cT}(F:WS B newId initId bmB)(Z:XiF K C fI bmB newId)(X:K.In h)(hl:rest.length<=sizeLine)(hq:∀h' e,h.objs.size<=e->(∀b o,h.get? b=some o->h'.get? b=some o)->isM e C none h'->
   QW (model prog w) (A.under (.builtin "type.__call__" ⟨.ref C::rest,[]⟩)) (.call (.ref fI) ⟨.ref e::rest,[]⟩) (Xl e R) ⟨h',g,d,t,os⟩):
  QW (model prog w) A (.call (.ref C) ⟨rest,[]⟩) R ⟨h,g,d,t,os⟩:=by
 obtain⟨N,up,⟨nm,qn,bs,hdct,sn,sub,ab,col,dd,k0,k1,k2,k3,k5,lk⟩,tl⟩:=Z.cl;have hC:=X C _ lk;have T:=tail_of_in X tl;have ty:(⟨h,g,d,t,os⟩:lr).TypeIs (.ref C) "type":=⟨_,hC,rfl⟩;have c1:=tc_lookup;have c2:=tc_bind (.ref C);refine codeAny_of_tree (show ni _ _ (callAny (.ref C) _) _ _ _ from ?_)
 repeat(any_goals(first|assumption|wp_step|(with_reducible refine U7 hC ?_)))
 refine⟨rfl,codeAny_call_builtin_at (UP _ (by decide +kernel)) entry_typeCall (wpAny_check_type_call_sub hC ?_)⟩
 repeat(first|wp_step|(with_reducible refine U7 hC ?_)|(with_reducible refine wpAny_madeBy_exc hC ?_))
 refine codeAny_call_builtin_code (UP _ F.quiet) (wpAny_check_new_subT F T hC (codeAny_exc_new_subT F T hC ?_ hl));have kp:∀b o,h.get? b=some o->((h.push {cls:=.type "tuple",data:=.seq rest.toArray}).push {cls:=.ref C,data:=.fields #[.ref h.objs.size,.none,.none,.none,.bool false,.none]}).get? b=some o:=fun b o q=>gf _ (gf _ q);have ge:((h.push {cls:=.type "tuple",data:=.seq rest.toArray}).push {cls:=.ref C,data:=.fields #[.ref h.objs.size,.none,.none,.none,.bool false,.none]}).get? (h.objs.size+ 1)=some {cls:=.ref C,data:=.fields #[.ref h.objs.size,.none,.none,.none,.bool false,.none]}:=by heap_get
 have hI:=hq _ _ (RP _) kp ⟨_,_,_,ge,rfl,rfl⟩;have X2:K.In ((h.push {cls:=.type "tuple",data:=.seq rest.toArray}).push {cls:=.ref C,data:=.fields #[.ref h.objs.size,.none,.none,.none,.bool false,.none]}):=fun b o q=>kp b o (X b o q);show ni _ _ _ _ _ ⟨(h.push {cls:=.type "tuple",data:=.seq rest.toArray}).push {cls:=.ref C,data:=.fields #[.ref h.objs.size,.none,.none,.none,.bool false,.none]},g,d,t,os⟩;generalize (h.push {cls:=.type "tuple",data:=.seq rest.toArray}).push {cls:=.ref C,data:=.fields #[.ref h.objs.size,.none,.none,.none,.bool false,.none]}=h2 at kp ge hI X2⊢;have t1:Looks (model prog w) h2 (typeOf (.ref (h.objs.size+ 1))) (.ref C):=(Looks.ld ge).andThen .now;have t2:=looks_mroIn (M:=model prog w) X2 Z.self;have t3:=looks_findIn (M:=model prog w) X2 Z.init;have t4:=bind_fn (M:=model prog w) X2 (.ref (h.objs.size+ 1)) Z.fn;unfold isInstance callSpecial? specialOf
 repeat(first|with_reducible refine U8 ?_|lk)
 refine codeAny_mono hI fun r s' z=>?_;cases r with
 |error e=>exact z
 |ok f=>
  cases f with
  |ret v=>
   obtain⟨rfl,z⟩:=z;exact wpAny_pure (wpAny_pure z)
  |next=>exact z.elim
  |brk=>exact z.elim
  |cont=>exact z.elim
end
def HR(C:dk)(sp:Sp)(t:TA):TE:=fun σ H Q=>t σ H fun vs H1=>vs.length<=sizeLine/\∀ea,H1 ea=none->sp (.ref ea::vs) (upd H1 ea (xM ea C none)) (fun v H2=>v=.non/\Q (.ref ea) H2) E0
section
variable{k:Nat}{fd:xw}{ps:List pe}{sp:Sp}
theorem DK{Q:VK}{us:List cT}{vs:List V}(Fb:WS B newId initId bmB)(Z:XiF X.K C f bmB newId)(F:FnOk X.prog X.w X.K X.mg X.base CX0 k f fd ps sp)(hr:Room (k+ 1) X.A)(hb:Binds X.K fd ps [])(I:Inv X pins σ H s)(r:Vals vs us)(hl:vs.length<=sizeLine)(h:∀ea,H ea=none->sp (.ref ea::vs) (upd H ea (xM ea C none)) (fun v H2=>v=.non/\Q (.ref ea) H2) E0):
  ni (model X.prog X.w) X.A (call (.ref C) us) (EP X pins σ Q) X.xe s:=by
 obtain⟨hh,g,d,t,os⟩:=s;refine U8 (JT Fb Z I.kIn (by rw[←r.length];exact hl) fun h' e hp kp hM=>?_);have hq:=h e (I.hok.fresh hp);have I2:=Inv.laid (t':=t) I kp hp (isM.ok (H:=upd H e (xM e C none)) hM);have r2:Vals (V.ref e::vs) (zt e::us):=.cons rfl r;have ln:(zt e::us++[]).length=ps.length:=by rw[Q2,←r2.length];exact F.len _ _ _ _ hq
 have bd:=hb ⟨h',g,d,t,os⟩ (zt e::us) I2.kIn ln;rw[Q2]at bd;refine codeAny_mono (F.run _ X.stack _ _ ⟨zt e::us,[]⟩ (zt e::us) _ _ E0 (hr.make C us []) (I2.env0.make C us []) bd r2 hq) fun r s' hq'=>?_;cases r with
 |error e=>exact hq'.elim
 |ok fl=>
  cases fl with
  |ret u=>
   obtain⟨v,H',I3,rv,ev,q3⟩:=I2.after hq';subst ev;exact⟨rv,⟨V.ref e,H',I3,rfl,q3⟩⟩
  |next=>exact Rz hq'
  |brk=>exact Rz hq'
  |cont=>exact Rz hq'
theorem FC{x:pe}{p:Sz}{e:QC}{es:List QC}{t:TA}(Fb:WS B newId initId bmB)(Z:XiF X.K C f bmB newId)(F:FnOk X.prog X.w X.K X.mg X.base CX0 k f fd ps sp)(hr:Room (k+ 1) X.A)(hg:Gl X x)(hm:X.mg x=some (.ref C))(hb:Binds X.K fd ps [])(ha:PA X (e::es) t)(hdb:(x==("__debug__":pe))=false:=by decide)(he:starEach (e::es) X.env=(false,eval e X.env)::starEach es X.env:=by rfl)(hpl:(backTo pos (starEach es X.env)).any (·.1)=false:=by rfl):
  PE X (.Call (.Name x p) (e::es) [] pos) (HR C sp t):=by
 intro pins s σ H Q I h;refine RN (mQ I hg hm ?_ hdb);exact So (h₀:=X.base) I.ok.mod.kin Z.kp (thn (ha pos pins s σ H _ I h) fun us s1 ⟨vs,H1,I1,r,hl,q⟩=>⟨I1.kIn,DK Fb Z F hr hb I1 r hl q⟩) he hpl
end
def rmv(H:Hp)(a:dk):Hp:=fun b=>if b=a then none else H b
theorem yn{b:dk}(h:b≠a):rmv H a b=H b:=if_neg h
theorem u6:rmv H a a=none:=if_pos rfl
def Dd(K:cw)(H0:Hp)(E:XK)(t:TE):TS:=fun _ σ H=>t σ H fun v H1=>∃ea C od,v=.ref ea/\H1 ea=some (xM ea C od)/\(∃N up newId,XCls K C N up newId/\up.contains (.type "BaseException")=true)/\H0 ea=none/\E (.ref ea) (some C) (rmv H1 ea)
section
variable{env:S2}
theorem JW{K:cw}{x:Vd cT}{Q:Flow->lr->Prop}(hh:A.handled=none)
  (h:ni (model prog w) A x (fun v s1=>∃e o C N up newId,v=.ref e/\K.In s1.heap/\s1.heap.get? e=some o/\o.cls=.ref C/\(∃vs,o.data=.fields vs/\vs[1]?=some .none)/\XCls K C N up newId/\up.contains (.type "BaseException")=true/\E (.ref e) s1) E s):
  ni (model prog w) A (raiseStmt env (some x) none) Q E s:=by
 refine wpAny_bind (wpAny_mono h (fun v s1 z=>?_) fun _ _ z=>z);obtain⟨e,o,C,N,up,newId,rfl,X,ge,hc,⟨vs,hd,h1⟩,⟨nm,qn,bs,hdct,sn,sub,ab,col,dd,k0,k1,k2,k3,k5,lk⟩,hb,hE⟩:=z;obtain⟨hp,g,d,t,os⟩:=s1;have hC:=X C _ lk;have up2:(zt C::up).contains (.type "BaseException")=true:=by rw[List.contains_cons,hb,Bool.or_true]
 obtain⟨oc,od,odt,osl⟩:=o;cases hc;cases hd
 repeat(first|wp_step|(with_reducible refine U7 ge ?_)|(with_reducible refine wpAny_isSubtype_exc hC ?_;rw[up2]))
 rw[h1];refine wpAny_pure ?_;rw[if_neg (by decide)];exact wpAny_pure (wpAny_raiseNew_none hh hE)
end
section
variable{K:cw}{mg:pe->Option cT}{base:Qg}{N:List pe}{qual:pe}{scope:SU}{cd:cT}{outer:List S2}{E:XK}
theorem EO{ex:QC}{te:TE}(he:PE (lM (CXR P w) P w K mg base N qual scope f cd A outer s H E) ex te):PS (lM (CXR P w) P w K mg base N qual scope f cd A outer s H E) (.Raise (some ex) none pos) (Dd K H E te):=by
 intro pins s1 σ H1 D I h;rw[arm_exec_Raise];refine wpAny_bind (wpAny_standAt (JW (K:=K) (I.ok.hd rfl) (wpAny_bind (thn (he pins s1 σ H1 _ I h) fun v s2 ⟨y,H2,I2,r,ea,C,od,ey,gM,⟨Nn,up,newId,xc,hb⟩,h0,q⟩=>wpAny_bind (wpAny_standAt (wpAny_pure ?_))))));subst ey;obtain rfl:v=zt ea:=r;obtain⟨vs,sl,a0,g,g0,g1⟩:=(I2.hok ea _ gM).1;refine⟨ea,_,C,Nn,up,newId,rfl,I2.kIn,g,rfl,⟨vs,rfl,g1⟩,xc,hb,?_⟩;have hn:∀b o,s.heap.get? b=some o->b≠ea:=fun b o e z=>by
  subst z;have:=I2.base.free b o e h0 (by intro z;cases z);rw[gM]at this;cases this
 have fs:∀b∈frs (lM (CXR P w) P w K mg base N qual scope f cd A outer s H E).stack,b≠ea:=fun b hb z=>by
  have:=I2.stkFree b hb;rw[z,gM]at this;cases this
 have nt:∀{b o},H2 b=some o->(∀φ,o≠.ext φ)->rmv H2 ea b=some o:=fun{b o} e n=>by rw[yn (fun z=>by rw[z,gM]at e;cases e;exact n _ rfl)];exact e
 have un:Un (frs (lM (CXR P w) P w K mg base N qual scope f cd A outer s H E).stack) [] H2 (rmv H2 ea) s2.heap s2.heap:=⟨fun b o e _ _ _=>e,fun b o e _ _ _=>⟨o.slots,e⟩,fun b o _ n _=>by rw[yn (fun z=>by rw[z,gM]at n;cases n)];exact n,fun b o e _=>⟨o,e⟩,fun b xs e=>nt e (by intro _ z;cases z),fun b o u e=>nt e (by intro _ z;cases z),fun b ps e=>⟨#[],by rw[WR];exact nt e (by intro _ z;cases z)⟩⟩;have hok:HOk P w (rmv H2 ea) s2.heap:=fun b u e=>by
  by_cases z:b=ea
  ·rw[z,u6]at e;cases e
  ·rw[yn z]at e;exact(I2.hok b u e).stay (fun _ _ _ q=>q) (fun c q=>nt q (by intro _ z;cases z)) fun c xs q=>nt q (by intro _ z;cases z)
 have hB:∀b o,s2.heap.get? b=some o->b∉frs (lM (CXR P w) P w K mg base N qual scope f cd A outer s H E).stack->((∃o0,s.heap.get? b=some o0)∨∃u,rmv H2 ea b=some u)->(Uo s2.heap (ea::frs (lM (CXR P w) P w K mg base N qual scope f cd A outer s H E).stack)).get? b=some o:=fun b o e n r=>Wx _ e (fun z=>by
  rcases uc.mp z with z|z
  ·rcases r with⟨o0,e0⟩|⟨u,hu⟩
   ·exact hn b o0 e0 z
   ·rw[z,u6]at hu;cases hu
  ·exact n z)
 have hen:(Uo s2.heap (ea::frs (lM (CXR P w) P w K mg base N qual scope f cd A outer s H E).stack)).get? ea=none:=Wb _ xl;refine wpAny_leaving_firstW (base:=Uo s2.heap (ea::frs (lM (CXR P w) P w K mg base N qual scope f cd A outer s H E).stack)) (a0:=a0) I2.ok.frames (PySem.W.funFrames_hide I2.stack (fun env he a hf=>xj _ (Tt.mpr ⟨env,he,hf⟩))) rfl g (fun b o q=>WD _ q) hen rfl g1 g0 fun h' L=>?_;obtain⟨l1,⟨_,_,l2⟩,l3,l4⟩:=L;obtain⟨u1,u2,u3⟩:=yL (s':=s2) I2 rfl rfl rfl un hok hB l1 l4 rfl;exact⟨ea,C,a0,_,rmv H2 ea,rfl,I2.os,I2.bare,u1,u2,⟨l1,hen,l2,l3⟩,u3,u6,q⟩
end
end L2
namespace L2
open PySem PySem.Spec PyProof.Rows
variable{f C:dk}{fd:xw}{sp:Sp}{m:pe}{ta:TE}{t:TA}{E:XK}
section
variable{P:Qo}{w:Qu}{K:cw}{mg:pe->Option cT}{base:Qg}{x qual:pe}{st:QB}{ds ds':List cT}
end
section
variable{X:Cx}{k:Nat}{ps:List pe}{e o:QC}{es:List QC}{p pos apos:Sz}
end
section
variable{D:Ends}{σ:St}{H:Hp}{Q:VK}
theorem C0{dvs:List V}(h:ta σ H fun x H1=>∃a dx fs,x=.ref a/\H1 a=some (.ins C dx fs)/\fs.lookup m=none/\t σ H1 fun vs H2=>sp (x::(vs++dvs)) H2 Q E):F0 C m sp dvs E ta t σ H Q:=h
theorem HA{K:cw}{H0:Hp}{t:TE}(h:t σ H fun v H1=>∃ea C od,v=.ref ea/\H1 ea=some (xM ea C od)/\(∃N up newId,XCls K C N up newId/\up.contains (.type "BaseException")=true)/\H0 ea=none/\E (.ref ea) (some C) (rmv H1 ea)):Dd K H0 E t D σ H:=h
theorem IL(h:t σ H fun vs H1=>vs.length<=sizeLine/\∀ea,H1 ea=none->sp (.ref ea::vs) (upd H1 ea (xM ea C none)) (fun v H2=>v=.non/\Q (.ref ea) H2) E0):HR C sp t σ H Q:=h
theorem HC{K:cw}{tv:TE}{f:pe}(h:tv σ H fun y H1=>ta σ H1 fun x H2=>∃e C,x=.ref e/\XaF K C/\Qx K (.ref C) f=some none/\
 ((H2 e=some (xM e C none)/\∀dx,H2 dx=none->dx≠e->D.nx σ (upd (upd H2 dx (xN dx [(f,y)])) e (xM e C (some dx))))∨
 ∃dx fs,H2 e=some (xM e C (some dx))/\H2 dx=some (xN dx fs)/\fs.length<1000/\D.nx σ (upd H2 dx (xN dx (cL f y fs))))):Lp K ta tv f D σ H:=h
theorem Pu{r:List V->List V->Hp->VK->Prop}{tk:TA}(h:t σ H fun vs H1=>tk σ H1 fun zs H2=>r vs zs H2 Q):N2 r t tk σ H Q:=h
end
def pfl(me nu ha ro ma dn tk kp od tb ab:V):List (pe×V):=[("me",me),("number",nu),("hands",ha),("room",ro),("made",ma),("done",dn),("took",tk),("keeps",kp),("order",od),("taken_by",tb),("able_by",ab)]
structure TPage(K:cw)(C:dk):Prop where
 cl:Cls K C
 n1:NoAttr K C "me"
 n2:NoAttr K C "number"
 n3:NoAttr K C "hands"
 n4:NoAttr K C "room"
 n5:NoAttr K C "made"
 n6:NoAttr K C "done"
 n7:NoAttr K C "took"
 n8:NoAttr K C "keeps"
 n9:NoAttr K C "order"
 n10:NoAttr K C "taken_by"
 n11:NoAttr K C "able_by"
section
variable{me nu ha ro ma dn tk kp od tb ab v:V}
theorem Jp:cL "able_by" ab (cL "taken_by" tb (cL "order" od (cL "keeps" kp (cL "took" tk (cL "done" dn (cL "made" ma (cL "room" ro (cL "hands" ha (cL "number" nu (cL "me" me []))))))))))=pfl me nu ha ro ma dn tk kp od tb ab:=by kernel_rfl
theorem Ee:cL "made" v (pfl me nu ha ro ma dn tk kp od tb ab)=pfl me nu ha ro v dn tk kp od tb ab:=by kernel_rfl
theorem BU:cL "keeps" v (pfl me nu ha ro ma dn tk kp od tb ab)=pfl me nu ha ro ma dn tk v od tb ab:=by kernel_rfl
theorem BV:cL "order" v (pfl me nu ha ro ma dn tk kp od tb ab)=pfl me nu ha ro ma dn tk kp v tb ab:=by kernel_rfl
theorem MJ:(pfl me nu ha ro ma dn tk kp od tb ab).lookup ("me":pe)=some me:=by kernel_rfl
theorem BL:(pfl me nu ha ro ma dn tk kp od tb ab).lookup ("number":pe)=some nu:=by kernel_rfl
theorem EM:(pfl me nu ha ro ma dn tk kp od tb ab).lookup ("hands":pe)=some ha:=by kernel_rfl
theorem Fn:(pfl me nu ha ro ma dn tk kp od tb ab).lookup ("room":pe)=some ro:=by kernel_rfl
theorem Hj:(pfl me nu ha ro ma dn tk kp od tb ab).lookup ("made":pe)=some ma:=by kernel_rfl
theorem Gr:(pfl me nu ha ro ma dn tk kp od tb ab).lookup ("done":pe)=some dn:=by kernel_rfl
theorem He:(pfl me nu ha ro ma dn tk kp od tb ab).lookup ("took":pe)=some tk:=by kernel_rfl
theorem D9:(pfl me nu ha ro ma dn tk kp od tb ab).lookup ("keeps":pe)=some kp:=by kernel_rfl
theorem Es:(pfl me nu ha ro ma dn tk kp od tb ab).lookup ("order":pe)=some od:=by kernel_rfl
theorem ym:(pfl me nu ha ro ma dn tk kp od tb ab).lookup ("taken_by":pe)=some tb:=by kernel_rfl
theorem zh:(pfl me nu ha ro ma dn tk kp od tb ab).lookup ("able_by":pe)=some ab:=by kernel_rfl
theorem mM:(pfl me nu ha ro ma dn tk kp od tb ab).lookup ("check_room":pe)=none:=by kernel_rfl
theorem Hq:(pfl me nu ha ro ma dn tk kp od tb ab).lookup ("keep":pe)=none:=by kernel_rfl
theorem vx:(pfl me nu ha ro ma dn tk kp od tb ab).lookup ("kept_calls":pe)=none:=by kernel_rfl
theorem Gm:(pfl me nu ha ro ma dn tk kp od tb ab).lookup ("step":pe)=none:=by kernel_rfl
theorem Il:(pfl me nu ha ro ma dn tk kp od tb ab).lookup ("take":pe)=none:=by kernel_rfl
theorem AJ:(pfl me nu ha ro ma dn tk kp od tb ab).lookup ("let_go":pe)=none:=by kernel_rfl
theorem Gk:(pfl me nu ha ro ma dn tk kp od tb ab).lookup ("rows":pe)=none:=by kernel_rfl
theorem DM:(pfl me nu ha ro ma dn tk kp od tb ab).lookup ("taken":pe)=none:=by kernel_rfl
theorem GL:(pfl me nu ha ro ma dn tk kp od tb ab).lookup ("kept":pe)=none:=by kernel_rfl
theorem AQ:(pfl me nu ha ro ma dn tk kp od tb ab).lookup ("places":pe)=none:=by kernel_rfl
theorem KP:(pfl me nu ha ro ma dn tk kp od tb ab).length<1000:=by show 11<1000;decide
end
end L2
namespace GX
open PySem PySem.Spec PyProof.Rows
variable{prog:Qo}{w:Qu}{A:QR}{s:lr}{it:dk}{Q:Option cT->lr->Prop}
abbrev tG(f0:cT)(d:dk)(i n ep:Nat)(ok ov:cT):QM:={cls:=.type "dict_itemiterator",data:=.fields #[f0,.bool false,.ref d,.int i 0,.int n 0,.int ep 0,ok,ov]}
abbrev LC(d:dk)(i n ep:Nat):QM:={cls:=.type "dict_keyiterator",data:=.fields #[.ref d,.int i 0,.int n 0,.int ep 0]}
theorem OI(it d:dk)(i ep:Nat)(es:Array QQ)(e:QQ)(hx:es[i]?=some e):
  Meets (QU.«dict_keyiterator.__next__» ⟨[.ref it],[]⟩) (fun _ R s=>s.heap.get? it=some (LC d i es.size ep)/\s.heap.get? d=some (jj es ep)/\
   ∀g,g.get? it=some (LC d (i+ 1) es.size ep)->Rf it s.heap g->R (.ok (.ret e.key)) {s with heap:=g}):=
 .of_wp fun prog w A R s ⟨h1,h2,q⟩=>by
  obtain⟨h,g,dr,tk,os⟩:=s;have hT:QX {heap:=h,gens:=g,drawn:=dr,toks:=tk,os:=os} (.ref it) "dict_keyiterator":=⟨_,h1,rfl⟩
  wp_walk
  rw[if_neg (by omega),Qp,hx]
  wp_walk
  have ow:RQ ((Manifest.find? "dict_keyiterator").elim "dict_keyiterator" fun x=>x.tpName)=false:=by decide +kernel
  refine⟨_,rfl,q _ ?_ (Q0 ..)⟩;rw[Q7 _ h1 rfl,ow];simp[T7,rawInt];intro x hx hm;exfalso
  revert x hx hm
  decide +kernel
theorem Py(it d:dk)(i ep:Nat)(es:Array QQ)(hi:es.size<=i):
  Meets (QU.«dict_keyiterator.__next__» ⟨[.ref it],[]⟩) (fun A R s=>A.handled=none/\s.heap.get? it=some (LC d i es.size ep)/\s.heap.get? d=some (jj es ep)/\
   ∀g e,Th it s.heap g->QX {s with heap:=g} (.ref e) "StopIteration"->R (.error (.ref e)) {s with heap:=g}):=
 .of_wp fun prog w A R s ⟨h0,h1,h2,q⟩=>by
  obtain⟨h,g,dr,tk,os⟩:=s;have hT:QX {heap:=h,gens:=g,drawn:=dr,toks:=tk,os:=os} (.ref it) "dict_keyiterator":=⟨_,h1,rfl⟩;have h0':A.in1.handled=none:=h0
  wp_walk
  rw[if_neg (by omega),Qp,RF hi]
  wp_walk
  simp only[Wg]
  wp_walk
  exact q _ _ (fun b o nb e=>gf _ (gf _ (((Q0 ..).2 b nb).trans e))) ⟨_,rl _ rfl,rfl⟩
theorem Hu(it d:dk)(i ep:Nat)(ok ov:cT)(es:Array QQ)(e:QQ)(hx:es[i]?=some e):
  Meets (QU.«dict_itemiterator.__next__» ⟨[.ref it],[]⟩) (fun _ R s=>s.heap.get? it=some (tG .none d i es.size ep ok ov)/\s.heap.get? d=some (jj es ep)/\
   ∀g,g.get? it=some (tG (rawInt s.heap.objs.size) d (i+ 1) es.size ep e.key e.val)->g.get? s.heap.objs.size=some {cls:=.type "tuple",data:=.seq #[e.key,e.val]}->(∀b o,b≠it->s.heap.get? b=some o->g.get? b=some o)->R (.ok (.ret (.ref s.heap.objs.size))) {s with heap:=g}):=
 .of_wp fun prog w A R s ⟨h1,h2,q⟩=>by
  obtain⟨h,g,dr,tk,os⟩:=s;have hT:QX {heap:=h,gens:=g,drawn:=dr,toks:=tk,os:=os} (.ref it) "dict_itemiterator":=⟨_,h1,rfl⟩;have ow:RQ ((Manifest.find? "dict_itemiterator").elim "dict_itemiterator" fun x=>x.tpName)=true:=by decide +kernel
  wp_walk
  rw[if_neg (by omega),Qp,hx];have lt:it<h.objs.size:=vc h1;have up:((i:Int)+ 1)=((i+ 1:Nat):Int):=by omega
  refine wpAny_bind (wpAny_bind (wpAny_typeNameOfWhole_itemiter hT (wpAny_pure ?_)));refine wpAny_bind (wpAny_isOneOf_itemiter hT ?_);show ni _ _ (setField (.ref it) 3 (rawInt ((i:Int)+ 1)) >>= _) _ _ ⟨h,g,dr,tk,os⟩;rw[up];refine wpAny_bind (wpAny_setField_rec h1 (by simp) fun g1 e1 b1=>?_);have e1:g1.get? it=some (tG .none d (i+ 1) es.size ep ok ov):=e1;have T1:QX ⟨g1,g,dr,tk,os⟩ (.ref it) "dict_itemiterator":=⟨_,e1,rfl⟩;refine wpAny_bind (wpAny_holding (wpAny_bind (wpAny_isOneOf_itemiter T1 (wpAny_bind (wpAny_isOneOf_itemiter T1 ?_)))));show ni _ _ (Xy (.ref it) 6 e.key e.val) _ _ ⟨g1,g,dr,tk,os⟩;refine wpAny_bind (wpAny_newTuple ?_);have z1:g1.objs.size=h.objs.size:=b1.1;have k2:∀b o,b≠it->h.get? b=some o->(g1.push {cls:=.type "tuple",data:=.seq #[e.key,e.val]}).get? b=some o:=fun b o nb q=>gf _ ((b1.2 b nb).trans q);have e2:(g1.push {cls:=.type "tuple",data:=.seq #[e.key,e.val]}).get? it=some (tG .none d (i+ 1) es.size ep ok ov):=gf _ e1;have t2:(g1.push {cls:=.type "tuple",data:=.seq #[e.key,e.val]}).get? h.objs.size=some {cls:=.type "tuple",data:=.seq #[e.key,e.val]}:=by rw[←z1];exact rl _ rfl
  rw[z1];generalize g1.push {cls:=.type "tuple",data:=.seq #[e.key,e.val]}=g2 at k2 e2 t2⊢;show ni _ _ (WX (.ref it) >>= _) _ _ ⟨g2,g,dr,tk,os⟩;refine wpAny_bind (wpAny_bind (wpAny_field e2 rfl (x:=.none) rfl (wpAny_pure ?_)));rw[if_pos rfl];refine wpAny_bind (wpAny_field e2 rfl (x:=ok) rfl (wpAny_bind (wpAny_field e2 rfl (x:=ov) rfl ?_)));refine wpAny_bind (wpAny_setField_rec e2 (by simp) fun g3 e3 b3=>wpAny_bind (wpAny_setField_rec e3 (by simp) fun g4 e4 b4=>wpAny_bind (wpAny_setField_rec e4 (by simp) fun g5 e5 b5=>wpAny_bind (wpAny_setField_rec e5 (by simp) fun g6 e6 b6=>?_))));have bb:∀b o,b≠it->g2.get? b=some o->g6.get? b=some o:=fun b o nb q=>(b6.2 b nb).trans ((b5.2 b nb).trans ((b4.2 b nb).trans ((b3.2 b nb).trans q)));exact wpAny_bind (wpAny_letGo (wpAny_pure (wpAny_pure ⟨_,rfl,q g6 e6 (bb _ _ (RC lt) t2) fun b o nb w=>bb b o nb (k2 b o nb w)⟩)))
theorem Jl(it d:dk)(i ep:Nat)(ok ov:cT)(es:Array QQ)(hi:es.size<=i):
  Meets (QU.«dict_itemiterator.__next__» ⟨[.ref it],[]⟩) (fun A R s=>A.handled=none/\s.heap.get? it=some (tG .none d i es.size ep ok ov)/\s.heap.get? d=some (jj es ep)/\
   ∀g e,Th it s.heap g->QX {s with heap:=g} (.ref e) "StopIteration"->R (.error (.ref e)) {s with heap:=g}):=
 .of_wp fun prog w A R s ⟨h0,h1,h2,q⟩=>by
  obtain⟨h,g,dr,tk,os⟩:=s;have hT:QX {heap:=h,gens:=g,drawn:=dr,toks:=tk,os:=os} (.ref it) "dict_itemiterator":=⟨_,h1,rfl⟩;have h0':A.in1.handled=none:=h0
  wp_walk
  rw[if_neg (by omega),Qp,RF hi];refine wpAny_bind (wpAny_bind (wpAny_typeNameOfWhole_itemiter hT (wpAny_pure ?_)));refine wpAny_bind (wpAny_setField_rec h1 (by show _<8;split<;>decide) fun g1 e1 b1=>?_)
  wp_walk
  simp only[Wg]
  wp_walk
  exact q _ _ (fun b o nb e=>gf _ (gf _ ((b1.2 b nb).trans e))) ⟨_,rl _ rfl,rfl⟩
theorem Np(d:dk)(es:Array QQ)(ep:Nat)(hd:(d==Rm)=false):
  Meets (QU.«dict.items» ⟨[.ref d],[]⟩) (fun _ R s=>s.heap.get? d=some (jj es ep)/\R (.ok (.ret (.ref s.heap.objs.size))) {s with heap:=s.heap.push {cls:=.type "dict_items",data:=.fields #[.ref d]}}):=
 .of_wp fun prog w A R s ⟨h1,q⟩=>by
  obtain⟨h,g,dr,tk,os⟩:=s;have hT:QX {heap:=h,gens:=g,drawn:=dr,toks:=tk,os:=os} (.ref d) "dict":=⟨_,h1,rfl⟩
  wp_walk
  exact⟨_,rfl,q⟩
theorem HM(v d:dk)(ep:Nat)(es:Array QQ):
  Meets (QU.«dict_items.__iter__» ⟨[.ref v],[]⟩) (fun A R s=>s.heap.get? v=some {cls:=.type "dict_items",data:=.fields #[.ref d]}/\s.heap.get? d=some (jj es ep)/\
   R (.ok (.ret (.ref s.heap.objs.size))) {s with heap:=s.heap.push (tG .none d 0 es.size ep .none .none)}):=
 .of_wp fun prog w A R s ⟨h1,h2,q⟩=>by
  obtain⟨h,g,dr,tk,os⟩:=s;have hT:QX {heap:=h,gens:=g,drawn:=dr,toks:=tk,os:=os} (.ref v) "dict_items":=⟨_,h1,rfl⟩
  wp_walk
  have ow:RQ "dict_itemiterator"=true:=by decide +kernel
  rw[ow];exact⟨_,rfl,q⟩
theorem Fm{R:S3->lr->Prop}{S:QR->(S3->lr->Prop)->lr->Prop}(hT:s.TypeIs (.ref it) "dict_itemiterator")(m:Meets (QU.«dict_itemiterator.__next__» ⟨[.ref it],[]⟩) S)(h:S A R s):
  QW (model prog w) A (.call (.builtin "dict_itemiterator.__next__") ⟨[.ref it],[]⟩) R s:=
 codeAny_call_builtin Rg.plain F.entry_dict_itemiterator_next (Rg.check _ _ _ _ _ _ _ _ hT (F.args_dict_itemiterator_next_1 _) (m prog w A R s h))
section
variable{E:cT->lr->Prop}{v d:dk}{es:Array QQ}{i ep:Nat}{ok ov:cT}
theorem E5{Q:cT->lr->Prop}(hS:(d==Rm)=false)(rd:RawD s.heap d es ep)
  (q:Q (.ref s.heap.objs.size) {s with heap:=s.heap.push {cls:=.type "dict_items",data:=.fields #[.ref d]}}):ni (model prog w) A (call (.builtin "dict.items") [.ref d]) Q E s:=
 TL S1 ⟨_,rd,rfl⟩ V9 (VR _) (Np d es ep hS) ⟨rd,q⟩
theorem E4{Q:cT->lr->Prop}(hv:s.heap.get? v=some {cls:=.type "dict_items",data:=.fields #[.ref d]})(rd:RawD s.heap d es ep)
  (q:Q (.ref s.heap.objs.size) {s with heap:=s.heap.push (tG .none d 0 es.size ep .none .none)}):ni (model prog w) A (pyIter (.ref v)) Q E s:=by
 have T:s.TypeIs (.ref v) "dict_items":=⟨_,hv,rfl⟩;apply TY T VS;apply TL VS T F.entry_dict_items_iter (F.args_dict_items_iter_1 _) (HM v d ep es);exact⟨hv,rd,"dict_itemiterator",_,⟨_,rl _ rfl,rfl⟩,Rg.lookup,q⟩
theorem Fh{e:QQ}(hit:s.heap.get? it=some (tG .none d i es.size ep ok ov))(rd:RawD s.heap d es ep)(hx:es[i]?=some e)(hQ:∀g,g.get? it=some (tG (rawInt s.heap.objs.size) d (i+ 1) es.size ep e.key e.val)->g.get? s.heap.objs.size=some {cls:=.type "tuple",data:=.seq #[e.key,e.val]}->(∀b o,b≠it->s.heap.get? b=some o->g.get? b=some o)->Q (some (.ref s.heap.objs.size)) {s with heap:=g}):ni (model prog w) A (pyNext (.ref it)) Q E s:=by
 have hT:s.TypeIs (.ref it) "dict_itemiterator":=⟨_,hit,rfl⟩;have hk:=Rg.lookup;have hb:=Rg.bind (.ref it);unfold pyNext
 repeat' first|assumption|wp_step
 exact Fm hT (Hu it d i ep ok ov es e hx) ⟨hit,rd,fun g a b c=>wpAny_pure (wpAny_pure (hQ g a b c))⟩
theorem Hz(hh:A.handled=none)(hit:s.heap.get? it=some (tG .none d i es.size ep ok ov))(rd:RawD s.heap d es ep)(hi:es.size<=i)(fin:∀g,Th it s.heap g->Q none {s with heap:=g}):ni (model prog w) A (pyNext (.ref it)) Q E s:=by
 have hT:s.TypeIs (.ref it) "dict_itemiterator":=⟨_,hit,rfl⟩;have hk:=Rg.lookup;have hb:=Rg.bind (.ref it);have hst:isSubtype (.type "StopIteration") (.type "StopIteration")=pure true:=by rw[TM];kernel_rfl
 unfold pyNext
 repeat' first|assumption|wp_step
 refine Fm hT (Jl it d i ep ok ov es hi) ⟨hh,hit,rd,fun g e a b=>?_⟩;have hq:=fin g a
 repeat' first|assumption|wp_step
end
end GX
namespace L2
open PySem PySem.Spec PyProof.Rows
variable{P prog:Qo}{w:Qu}{H:Hp}{h h':Qg}{d it D t i l z i1 i2 l1 l2 a:dk}{kvs:List (List Key×V)}{es:Array QQ}{ep x1 k:Nat}{elts:List QC}{tp p pos:Sz}{o:QM}{X:Cx}{pins:List (dk×QM)}{σ:St}{td te:TE}{R:It->Hp->Prop}{g:TG}{tt:TT}{Qe:Hp->Prop}{A:QR}{E Q:cT->lr->Prop}{s:lr}{its xs ys:Array cT}{x y b:cT}{q:Bool}{ch:List dk}{ta:TA}
theorem CS(ok:HOk P w H h)(e:Rd H d (.dT kvs)):
  (d==Rm)=false/\∃(es:Array QQ) (ep:Nat),GX.RawD h d es ep/\es.size=kvs.length/\∀(i:Nat) (k:List Key) (v:V),kvs[i]?=some (k,v)->∃(y:QQ) (b:dk),es[i]?=some y/\y.key=.ref b/\H b=some (.tup (k.map kV))/\RelV v y.val:=by
 obtain⟨_,hS,xs,kt,o,es,ep,h1,h2,h3,h4,_⟩:=qc ok e;refine⟨hS,es,ep,.of h1 h2 h3,?_,fun i k v hv=>?_⟩
 ·rw[←QI,h4,gm];exact(Qk kt).symm
 ·obtain⟨q,hq,ek,hb,rv⟩:=c8 kt hv;refine⟨entryOfKey (tupleKind (aO P w)) q,q.2.1,?_,rfl,hb,rv⟩;rw[←QV,h4,CA,hq];rfl
def Br(d:dk)(o:QM)(kvs:List (List Key×V)):It:=
 ⟨fun i H=>i<kvs.length/\H d=some (.frz o (.dT kvs)),fun i H x H'=>∃k v a b,kvs[i]?=some (k,v)/\H a=none/\H b=some (.tup (k.map kV))/\x=.ref a/\H'=upd H a (.tup [.ref b,v]),fun i H=>kvs.length<=i/\H d=some (.frz o (.dT kvs))⟩
theorem Iw{es':Array QQ}{ep':Nat}(a:GX.RawD h d es ep)(b:GX.RawD h d es' ep'):es=es':=by
 have e:GX.jj es ep=GX.jj es' ep':=Qj (a.symm.trans b);cases e;rfl
theorem Ar{K:cw}(sz:es.size=kvs.length)(fz:∀h:Qg,h.get? d=some o->GX.RawD h d es ep):
  Turn P w K (.Tuple elts x1 tp) (Br d o kvs) [it] it (fun i h=>∃ok ov,h.get? it=some (GX.tG .none d i es.size ep ok ov)) where
 mem:=by simp
 obj:=fun i h ⟨ok,ov,st⟩ b hb=>by
  have e:b=it:=by simpa using hb
  subst e;exact⟨_,st,fun v z=>by cases z⟩
 keep:=fun i h h' ⟨ok,ov,st⟩ k=>⟨ok,ov,k it (by simp) _ st⟩
 item:=by
  intro X hP hw hK hc i pins s σ H E I hf st hg;subst hP hw hK;obtain⟨ok,ov,hit⟩:=st;obtain⟨hi,hd⟩:=hg;have hdo:s.heap.get? d=some o:=(show s.heap.get? d=some o/\_ from I.hok d _ hd).1;have hx:kvs[i]?=some kvs[i]:=xi hi;obtain⟨_,es',ep',rd',_,rel⟩:=CS I.hok (.inr ⟨o,hd⟩);obtain rfl:=Iw (fz _ hdo) rd';obtain⟨y,b,hy,yk,hb,ru⟩:=rel i kvs[i].1 kvs[i].2 hx;refine GX.Fh hit (fz _ hdo) hy fun h' hit' htup kp=>?_;have hai:s.heap.objs.size≠it:=fun z=>by
   have:=vc hit;rw[←z]at this;exact QD _ this
  have hfi:=hf it (by simp);have I1:Inv X pins σ (upd H s.heap.objs.size (.tup [.ref b,kvs[i].2])) {s with heap:=h'}:=
   I.turnLay kp hfi ⟨_,hit'⟩ (oh _) hai ⟨by show 2<=sizeLine;decide,[y.key,y.val],.cons yk (.cons ru .nil),_,htup,rfl,0,rfl,rfl,rfl⟩
  refine⟨_,rfl,wpAny_letOwnedTupleGo_items hit' fun h2 hit2 sb=>?_⟩;obtain⟨f0,f1,f2,f3,f4,f5⟩:=hfi;have f0':(upd H s.heap.objs.size (.tup [.ref b,kvs[i].2])) it=none:=by rw[aj (QH hai)];exact f0
  refine⟨.ref s.heap.objs.size,_,I1.turned (t':=s.toks) (fun b o hb e=>(sb.2 b hb).trans e) f0' f1 f3 f4 f5,rfl,⟨_,_,_,b,hx,I.hok.fresh (oh _),hb,rfl,rfl⟩,⟨y.key,y.val,hit2⟩,fun c hc=>?_⟩;have e:c=it:=by simpa using hc
  rw[e];exact f0'
 done:=by
  intro X hP hw hK hc i pins s σ H E I hf st hg;subst hP hw hK;obtain⟨ok,ov,hit⟩:=st;obtain⟨hi,hd⟩:=hg;have hdo:s.heap.get? d=some o:=(show s.heap.get? d=some o/\_ from I.hok d _ hd).1;obtain⟨f0,f1,f2,f3,f4,f5⟩:=hf it (by simp);exact GX.Hz (I.ok.hd hc) hit (fz _ hdo) (by omega) fun h' eb=>⟨rfl,I.turned (t':=s.toks) (fun b o hb e=>eb b o hb e) f0 f1 f3 f4 f5⟩
 self:=fun _ _ _ _ _ ⟨ok,ov,st⟩ h=>PySem.W.kcp_self st h
section
theorem Inv.freezeT{H1:Hp}{s1:lr}(I2:Inv X pins σ H1 s1)(hd:H1 d=some (.dT kvs))(ho:s1.heap.get? d=some o):Inv X pins σ (upd H1 d (.frz o (.dT kvs))) s1:=
 I2.write (t':=s1.toks) (x:=d) (e:=d) (by rw[hd];trivial) (.inl rfl) (fun _ _ _ e=>e) ⟨o,ho⟩ ⟨ho,by
  obtain⟨z,y,xs,kt,rest⟩:=(show ObjOk X.prog X.w H1 _ d (.dT kvs)from I2.hok d _ hd);exact⟨z,y,xs,Paired.mapP kt fun _ _ ⟨a1,a2,a3⟩=>⟨a1,by rw[aj (cR a2 hd (by intro z;cases z))];exact a2,a3⟩,rest⟩⟩
def CP(td:TE):TI:=fun σ H R=>td σ H fun x H1=>∃d kvs,x=.ref d/\H1 d=some (.dT kvs)/\∀o,R (Br d o kvs) (upd H1 d (.frz o (.dT kvs)))
theorem ER{e:QC}{apos cpos:Sz}(he:PE X e td)(hbase:Sk e "items" X.env (eval e X.env)=eval e X.env:=by rfl)(hline:(apos.endLine==cpos.line)=true:=by rfl):
  PI X (.Tuple elts x1 tp) (.Call (.Attribute e "items" apos) [] [] cpos) (CP td):=by
 intro pins s σ H R I h;refine TR hbase hline (thn (he pins s σ H _ I h) fun v s1 zz=>?_);obtain⟨x,H1,I1,r1,d,kvs,ex,hd,q⟩:=zz;subst ex;obtain rfl:v=zt d:=r1;obtain⟨hS,es,ep,rd,sz,_⟩:=CS I1.hok (.inl hd);obtain⟨h1,h2⟩:=qZ (T:="dict") I1 (x:=.ref d) rfl (.inr (.inr (.inl ⟨rfl,.inr ⟨kvs,hd⟩⟩)));refine⟨"dict","dict.items",Ry,S1,Vy,h1,h2,RX rfl (UA ?_)⟩;refine GX.E5 hS rd ?_;have rd':GX.RawD (s1.heap.push {cls:=.type "dict_items",data:=.fields #[.ref d]}) d es ep:=rd.at fun o e=>gf _ e;have I2:Inv X pins σ H1 {s1 with heap:=s1.heap.push {cls:=.type "dict_items",data:=.fields #[.ref d]}}:=I1.kept (t':=s1.toks) fun b ob e=>gf _ e;refine GX.E4 (rl _ rfl) rd' ?_;have I3:=I2.freezeT hd rd';refine⟨_,[_],_,Br d _ kvs,_,rfl,I3.kept (t':=s1.toks) fun b ob e=>gf _ e,Ar sz (fun _ e=>e),⟨_,_,rl _ rfl⟩,fun b hb=>?_,q _⟩;have eb:b=(s1.heap.push {cls:=.type "dict_items",data:=.fields #[.ref d]}).objs.size:=by simpa using hb
 subst eb;exact I3.fpOk (oh _) (I3.hok.fresh (oh _))
end
def OA(It':dk->QM->List (List Key×V)->It)(x:V)(H:Hp)(R:It->Hp->Prop):Prop:=∃d kvs,x=.ref d/\H d=some (.dT kvs)/\∀o,R (It' d o kvs) (upd H d (.frz o (.dT kvs)))
theorem Ei(h:td σ H fun x H1=>OA Br x H1 R):CP td σ H R:=h
theorem L8{It':dk->QM->List (List Key×V)->It}(hd:H d=some (.dT kvs))(h:∀o A,A d=some (.frz o (.dT kvs))->SmB d H A->R (It' d o kvs) A):OA It' (.ref d) H R:=
 ⟨d,kvs,rfl,hd,fun o=>h o _ af fun b u n e=>by rw[aj n];exact e⟩
theorem zJ(Pv:Nat->St->Hp->Prop)(h0:Pv 0 σ H)(hl:∀i σ H,i<=kvs.length->Pv i σ H->H d=some (.frz o (.dT kvs)))(hs:∀i k v t b σ H H1,kvs[i]?=some (k,v)->Pv i σ H->H t=none->Same H H1->H1 t=some (.tup [.ref b,v])->H b=some (.tup (k.map kV))->eR g tt te D (Pv (i+ 1)) (.ref t) σ H1)(hd:∀σ H,Pv kvs.length σ H->Qe H):
  ∃W:Nat->Nat->St->Hp->Prop,(∃m,W 0 m σ H)/\∀i m σ' H',W i m σ' H'->((Br d o kvs).stop i H'/\Qe H')∨((Br d o kvs).go i H'/\∃N:St->Hp->Prop,(∀σ2 H2,N σ2 H2->∃m',m'<m/\W (i+ 1) m' σ2 H2)/\
   ∀x H'',(Br d o kvs).yld i H' x H''->eR g tt te D N x σ' H''):=by
 refine⟨fun i m σ H=>m=kvs.length-i/\i<=kvs.length/\Pv i σ H,⟨kvs.length,by simp,Qt _,h0⟩,?_⟩;rintro i m σ H ⟨rfl,hi,p⟩;have q:=hl i σ H hi p;by_cases hlt:i<kvs.length
 ·refine .inr ⟨⟨hlt,q⟩,Pv (i+ 1),fun σ' H' p'=>⟨kvs.length-(i+ 1),by omega,rfl,hlt,p'⟩,fun x H' y=>?_⟩;obtain⟨k,v,a,b,e1,e2,e3,rfl,rfl⟩:=y;exact hs i k v a b σ _ _ e1 p e2 (aB e2) af e3
 ·have e:i=kvs.length:=by omega
  subst e;exact .inl ⟨⟨oh _,q⟩,hd σ H p⟩
section
theorem JD{i:Nat}(hit:s.heap.IsTupleIter it t i)(ht:s.heap.IsTuple t its)(hx:its[i]?=some x)(q:∀h',h'.IsTupleIter it t (i+ 1)->Rf it s.heap h'->Q x {s with heap:=h'}):ni (model prog w) A (Q3 (.ref it)) Q E s:=by
 obtain⟨o,ho,hc,hd⟩:=id hit;obtain⟨u,hu,_,n,du⟩:=ht;unfold Q3;refine wpAny_bind (Rc (name:=QO "__next__") hit.typeIs R3 (wpAny_call_entry R3 hit.typeIs T4 ?_ (T2 _)));show ni _ _ (field (.ref it) 0 >>= _) _ _ s;refine wpAny_bind (wpAny_field ho hd (x:=.ref t) rfl ?_);show ni _ _ (if(zt t==Q4)=true then _ else _) _ _ s;rw[if_neg (show ¬ ((zt t==Q4)=true)from Qn)];show ni _ _ (field (.ref it) 1 >>= _) _ _ s;refine wpAny_bind (wpAny_field ho hd (x:=.int i 0) rfl ?_);show ni _ _ (VF (.ref t) >>= _) _ _ s;refine wpAny_bind (wpAny_seqItems hu du ?_);simp only[Qp,hx];refine wpAny_bind (wpAny_setField ho hd (by simp) (wpAny_pure ⟨x,rfl,wpAny_pure (q _ ⟨_,Q7 _ ho (Obj.isFreed_of_fields (WT hd _)),(Obj.cls_mapFields ..).trans hc,?_⟩ (Q0 ..))⟩));rw[WT hd];simp[rawInt]
theorem Fp{i:Nat}(hh:A.handled=none)(hit:s.heap.IsTupleIter it t i)(ht:s.heap.IsTuple t its)(hx:its[i]?=none)(q:∀h' e,Th it s.heap h'->(∃o,h'.get? e=some o/\o.cls=.type "StopIteration")->E (.ref e) {s with heap:=h'}):ni (model prog w) A (Q3 (.ref it)) Q E s:=by
 obtain⟨o,ho,hc,hd⟩:=id hit;obtain⟨u,hu,_,n,du⟩:=ht;unfold Q3;refine wpAny_bind (Rc (name:=QO "__next__") hit.typeIs R3 (wpAny_call_entry R3 hit.typeIs T4 ?_ (T2 _)));show ni _ _ (field (.ref it) 0 >>= _) _ _ s;refine wpAny_bind (wpAny_field ho hd (x:=.ref t) rfl ?_);show ni _ _ (if(zt t==Q4)=true then _ else _) _ _ s;rw[if_neg (show ¬ ((zt t==Q4)=true)from Qn)];show ni _ _ (field (.ref it) 1 >>= _) _ _ s;refine wpAny_bind (wpAny_field ho hd (x:=.int i 0) rfl ?_);show ni _ _ (VF (.ref t) >>= _) _ _ s;refine wpAny_bind (wpAny_seqItems hu du ?_);simp only[Qp,hx];refine wpAny_bind (wpAny_rule (wpAny_bind (wpAny_setField ho hd (by simp) ?_)));show ni _ _ (newExc (.type "StopIteration") [] >>= _) _ _ _;refine wpAny_bind ?_;simp only[newExc,Yy];refine wpAny_bind (wpAny_newObj_type ?_ (by size_fits));refine wpAny_bind (m:=UG _ _) (wpAny_of_eq (a:=Q4) (by first|rfl|(simp only[UG];rfl)) ?_);refine wpAny_newObj_type ?_ (by size_fits);simp only[Wg];refine wpAny_bind (wpAny_handled ?_)
 first|rw[hh]|rw[show A.in1.handled=none from hh]
 exact wpAny_bind (wpAny_pure (wpAny_throw (q _ _ (((Q0 ..).extBut.push _).push _) ⟨_,rl _ rfl,rfl⟩)))
def ItK:Bool->Qg->dk->dk->Nat->Prop
 |true,h,i,l,k=>h.IsListIter i l k
 |false,h,i,l,k=>h.IsTupleIter i l k
def SqH:Bool->Qg->dk->Array cT->Prop
 |true,h,l,xs=>h.IsList l xs
 |false,h,l,xs=>h.IsTuple l xs
theorem ItK.at(x:ItK q h i l k)(e:∀o,h.get? i=some o->h'.get? i=some o):ItK q h' i l k:=by
 cases q with
 |true=>exact Heap.IsListIter.at x e
 |false=>exact Heap.IsTupleIter.at x e
theorem SqH.at(x:SqH q h l xs)(e:∀o,h.get? l=some o->h'.get? l=some o):SqH q h' l xs:=by
 cases q with
 |true=>exact Heap.IsList.at x e
 |false=>
  obtain⟨o,ho,r⟩:=(show h.IsTuple l xs from x);exact⟨o,e _ ho,r⟩
theorem ItK.obj(x:ItK q h i l k):∃o vs,h.get? i=some o/\o.data=.fields vs:=by
 cases q with
 |true=>obtain⟨o,e,_,d⟩:=(show h.IsListIter i l k from x);exact⟨o,_,e,d⟩
 |false=>obtain⟨o,e,_,d⟩:=(show h.IsTupleIter i l k from x);exact⟨o,_,e,d⟩
theorem SqH.obj(x:SqH q h l xs):∃o,h.get? l=some o:=by
 cases q with
 |true=>obtain⟨o,e,_⟩:=(show h.IsList l xs from x);exact⟨o,e⟩
 |false=>obtain⟨o,e,_⟩:=(show h.IsTuple l xs from x);exact⟨o,e⟩
theorem ItK.item(h1:ItK q s.heap i l k)(h2:SqH q s.heap l xs)(hx:xs[k]?=some x)(hQ:∀h',ItK q h' i l (k+ 1)->Rf i s.heap h'->Q x {s with heap:=h'}):ni (model prog w) A (Q3 (.ref i)) Q E s:=by
 cases q with
 |true=>exact wpAny_nextOf_list_item h1 h2 hx hQ
 |false=>exact JD h1 h2 hx hQ
theorem ItK.fin(hh:A.handled=none)(h1:ItK q s.heap i l k)(h2:SqH q s.heap l xs)(hx:xs[k]?=none)(hE:∀h' e,Th i s.heap h'->(∃o,h'.get? e=some o/\o.cls=.type "StopIteration")->E (.ref e) {s with heap:=h'}):ni (model prog w) A (Q3 (.ref i)) Q E s:=by
 cases q with
 |true=>exact wpAny_nextOf_list_end hh h1 h2 hx hE
 |false=>exact Fp hh h1 h2 hx hE
theorem HS{TI TO:dk}{a:cT}(D:Wq z TI TO i1 i2 l1 l2)(hz:IsZip s.heap z TI TO .none)(hI:IsPair s.heap TI (.ref i1) (.ref i2))(hO:IsPair s.heap TO a b)(h1:ItK q s.heap i1 l1 k)(h2:ItK q s.heap i2 l2 k)(g1:SqH q s.heap l1 xs)(g2:SqH q s.heap l2 ys)(hx:xs[k]?=some x)(hy:ys[k]?=some y)(hQ:∀h',IsZip h' z TI TO (rawInt s.heap.objs.size)->IsPair h' TO x y->ItK q h' i1 l1 (k+ 1)->ItK q h' i2 l2 (k+ 1)->IsPair h' s.heap.objs.size x y->(∀c o,c∉[z,TO,i1,i2]->s.heap.get? c=some o->h'.get? c=some o)->Q (.ref s.heap.objs.size) {s with heap:=h'}):
  ni (model prog w) A (QU.«zip.__next__» ⟨[.ref z],[]⟩) (fun fin s'=>∃v,fin=.done (.ret v)/\Q v s') E s:=by
 show ni _ _ (field (.ref z) 2 >>= _) _ _ _;refine wpAny_bind (wpAny_field hz rfl (x:=.bool false) rfl ?_);show ni _ _ (field (.ref z) 3 >>= _) _ _ _;refine wpAny_bind (wpAny_field hz rfl (x:=.ref TI) rfl (wpAny_bind (wpAny_seqItems hI rfl ?_)));show ni _ _ (RS (.ref z) >>= _) _ _ _;refine wpAny_bind ?_;unfold RS;refine wpAny_bind (wpAny_field hz rfl (x:=.none) rfl (wpAny_pure ?_));simp only[if_true];refine wpAny_bind (wpAny_rule (wpAny_bind (wpAny_field hz rfl (x:=.ref TO) rfl (wpAny_bind (wpAny_setField_rec hz (by simp) fun A1 (z1:IsZip A1 z TI TO .ellipsis) e1=>wpAny_bind ?_)))));simp only[Xz,X3,VE,Yi];have u1:∀c o,c≠z->s.heap.get? c=some o->A1.get? c=some o:=fun c o n e=>e1.extBut _ _ n e;refine wpAny_bind (wpAny_bind (wpAny_onRaise ?_));show ni _ _ (Q3 (.ref i1) >>= _) _ _ _;refine wpAny_bind (ItK.item (h1.at fun o e=>u1 _ o D.i1z e) (g1.at fun o e=>u1 _ o D.l1z e) hx fun A2 j1 e2=>wpAny_pure ?_);have u2:∀c o,c≠z->c≠i1->s.heap.get? c=some o->A2.get? c=some o:=fun c o n m e=>e2.extBut _ _ m (u1 c o n e);have o2:IsPair A2 TO a b:=u2 _ _ D.TOz D.TOi1 hO;refine wpAny_bind (wpAny_seqItems o2 rfl (wpAny_bind (wpAny_updateSeq_pair o2 fun A3 (o3:IsPair A3 TO x b) e3=>wpAny_bind (wpAny_letGo (wpAny_pure ?_)))));have u3:∀c o,c≠z->c≠i1->c≠TO->s.heap.get? c=some o->A3.get? c=some o:=fun c o n m r e=>e3.extBut _ _ r (u2 c o n m e);refine wpAny_bind (wpAny_bind (wpAny_onRaise ?_));show ni _ _ (Q3 (.ref i2) >>= _) _ _ _;refine wpAny_bind (ItK.item (h2.at fun o e=>u3 _ o D.i2z D.i12.symm D.TOi2.symm e) (g2.at fun o e=>u3 _ o D.l2z D.l2i1 D.l2TO e) hy fun A4 j2 e4=>wpAny_pure ?_);have o4:IsPair A4 TO x b:=e4.extBut _ _ D.TOi2 o3;refine wpAny_bind (wpAny_seqItems o4 rfl (wpAny_bind (wpAny_updateSeq_pair o4 fun A5 (o5:IsPair A5 TO x y) e5=>wpAny_bind (wpAny_letGo (wpAny_pure (wpAny_pure ?_))))));refine wpAny_bind (wpAny_seqItems o5 rfl (wpAny_bind (wpAny_newTuple ?_)));have sz:A5.objs.size=s.heap.objs.size:=by rw[e5.1,e4.1,e3.1,e2.1,e1.1]
 have z5:IsZip A5 z TI TO .ellipsis:=e5.extBut _ _ D.TOz.symm (e4.extBut _ _ D.i2z.symm (e3.extBut _ _ D.TOz.symm (e2.extBut _ _ D.i1z.symm z1)));have u5:∀c o,c∉[z,TO,i1,i2]->s.heap.get? c=some o->A5.get? c=some o:=fun c o n e=>by
  simp only[uc,Qy,or_false,not_or]at n;exact e5.extBut _ _ n.2.1 (e4.extBut _ _ n.2.2.2 (u3 c o n.1 n.2.2.1 n.2.1 e))
 have k1:ItK q A5 i1 l1 (k+ 1):=j1.at fun o e=>e5.extBut _ _ D.TOi1.symm (e4.extBut _ _ D.i12 (e3.extBut _ _ D.TOi1.symm e));have k2:ItK q A5 i2 l2 (k+ 1):=j2.at fun o e=>e5.extBut _ _ D.TOi2.symm e;have zl:z<A5.objs.size:=vc z5;show ni _ _ (TJ (.ref z) (.ref A5.objs.size) >>= _) _ _ _;refine wpAny_bind ?_;unfold TJ;have z6:IsZip (A5.push {cls:=.type "tuple",data:=.seq #[x,y]}) z TI TO .ellipsis:=gf _ z5;refine wpAny_bind (wpAny_setField_rec z6 (by simp) fun A7 (z7:IsZip A7 z TI TO (rawInt A5.objs.size)) e7=>?_);refine wpAny_setField_rec z7 (by simp) fun A8 (z8:IsZip A8 z TI TO (rawInt A5.objs.size)) e8=>?_;have up:∀c o,c≠z->A5.get? c=some o->A8.get? c=some o:=fun c o n e=>e8.extBut _ _ n (e7.extBut _ _ n (gf _ e));have t8:IsPair A8 A5.objs.size x y:=e8.extBut _ _ (RC zl) (e7.extBut _ _ (RC zl) (rl _ rfl));rw[sz]at z8 t8;refine wpAny_pure ⟨_,rfl,?_⟩;show Q (.ref A5.objs.size) _;rw[sz];exact hQ A8 z8 (up _ _ D.TOz o5) (k1.at fun o e=>up _ o D.i1z e) (k2.at fun o e=>up _ o D.i2z e) t8 fun c o n e=>up c o (fun z'=>n (by simp[z'])) (u5 c o n e)
theorem JJ{TI TO:dk}{a:cT}{Q:U5->lr->Prop}(hh:A.handled=none)(D:Wq z TI TO i1 i2 l1 l2)(hz:IsZip s.heap z TI TO .none)(hI:IsPair s.heap TI (.ref i1) (.ref i2))(hO:IsPair s.heap TO a b)(h1:ItK q s.heap i1 l1 k)(h2:ItK q s.heap i2 l2 k)(g1:SqH q s.heap l1 xs)(g2:SqH q s.heap l2 ys)(hend:xs[k]?=none)(hE:∀h' e,(∀c o,c∉[z,TO,i1,i2]->s.heap.get? c=some o->h'.get? c=some o)->(∃o,h'.get? e=some o/\o.cls=.type "StopIteration")->E (.ref e) {s with heap:=h'}):
  ni (model prog w) A (QU.«zip.__next__» ⟨[.ref z],[]⟩) Q E s:=by
 show ni _ _ (field (.ref z) 2 >>= _) _ _ _;refine wpAny_bind (wpAny_field hz rfl (x:=.bool false) rfl ?_);show ni _ _ (field (.ref z) 3 >>= _) _ _ _;refine wpAny_bind (wpAny_field hz rfl (x:=.ref TI) rfl (wpAny_bind (wpAny_seqItems hI rfl ?_)));show ni _ _ (RS (.ref z) >>= _) _ _ _;refine wpAny_bind ?_;unfold RS;refine wpAny_bind (wpAny_field hz rfl (x:=.none) rfl (wpAny_pure ?_));simp only[if_true];refine wpAny_bind (wpAny_rule (wpAny_bind (wpAny_field hz rfl (x:=.ref TO) rfl (wpAny_bind (wpAny_setField_rec hz (by simp) fun A1 (z1:IsZip A1 z TI TO .ellipsis) e1=>wpAny_bind ?_)))));simp only[Xz,X3,VE,Yi];have u1:∀c o,c≠z->s.heap.get? c=some o->A1.get? c=some o:=fun c o n e=>e1.extBut _ _ n e;refine wpAny_bind (wpAny_bind (wpAny_onRaise ?_));show ni _ _ (Q3 (.ref i1) >>= _) _ _ _;refine wpAny_bind (ItK.fin hh (h1.at fun o e=>u1 _ o D.i1z e) (g1.at fun o e=>u1 _ o D.l1z e) hend fun A2 e e2 he=>?_);obtain⟨oe,hoe,hce⟩:=he;have z2:IsZip A2 z TI TO .ellipsis:=e2 _ _ D.i1z.symm z1;have ne:e≠z:=fun x=>by
  subst x;rw[z2]at hoe;cases hoe;simp at hce
 refine wpAny_setField_rec z2 (by simp) fun A3 _ e3=>hE A3 e (fun c o n x=>?_) ⟨oe,e3.extBut _ _ ne hoe,hce⟩;simp only[uc,Qy,or_false,not_or]at n;exact e3.extBut _ _ n.1 (e2 _ _ n.2.2.1 (u1 _ _ n.1 x))
theorem M9{TI TO:dk}{a:cT}{Q:Option cT->lr->Prop}(D:Wq z TI TO i1 i2 l1 l2)(hz:IsZip s.heap z TI TO .none)(hI:IsPair s.heap TI (.ref i1) (.ref i2))(hO:IsPair s.heap TO a b)(h1:ItK q s.heap i1 l1 k)(h2:ItK q s.heap i2 l2 k)(g1:SqH q s.heap l1 xs)(g2:SqH q s.heap l2 ys)(hx:xs[k]?=some x)(hy:ys[k]?=some y)(hQ:∀h',IsZip h' z TI TO (rawInt s.heap.objs.size)->IsPair h' TO x y->ItK q h' i1 l1 (k+ 1)->ItK q h' i2 l2 (k+ 1)->IsPair h' s.heap.objs.size x y->(∀c o,c∉[z,TO,i1,i2]->s.heap.get? c=some o->h'.get? c=some o)->Q (some (.ref s.heap.objs.size)) {s with heap:=h'}):
  ni (model prog w) A (pyNext (.ref z)) Q E s:=by
 have T:s.TypeIs (.ref z) "zip":=⟨_,hz,rfl⟩;unfold pyNext;exact wpAny_bind (wpAny_attempt (Rc (name:=QO "__next__") T S6 (wpAny_call_entry S6 T VT (HS D hz hI hO h1 h2 g1 g2 hx hy fun h' a b c d e f=>wpAny_pure (hQ h' a b c d e f)) (Vz _))))
theorem JC{TI TO:dk}{a:cT}{Q:Option cT->lr->Prop}(hh:A.handled=none)(D:Wq z TI TO i1 i2 l1 l2)(hz:IsZip s.heap z TI TO .none)(hI:IsPair s.heap TI (.ref i1) (.ref i2))(hO:IsPair s.heap TO a b)(h1:ItK q s.heap i1 l1 k)(h2:ItK q s.heap i2 l2 k)(g1:SqH q s.heap l1 xs)(g2:SqH q s.heap l2 ys)(hend:xs[k]?=none)(hQ:∀h',(∀c o,c∉[z,TO,i1,i2]->s.heap.get? c=some o->h'.get? c=some o)->Q none {s with heap:=h'}):ni (model prog w) A (pyNext (.ref z)) Q E s:=by
 have T:s.TypeIs (.ref z) "zip":=⟨_,hz,rfl⟩;unfold pyNext;refine wpAny_bind (wpAny_attempt (Rc (name:=QO "__next__") T S6 (wpAny_call_entry S6 T VT (JJ hh D hz hI hO h1 h2 g1 g2 hend fun h' e hk he=>?_) (Vz _))));obtain⟨o,ho,hc⟩:=he;exact wpAny_bind (wpAny_isInstance (T:="StopIteration") (b:=true) ⟨o,ho,hc⟩ V5 (wpAny_pure (hQ _ hk)))
end
theorem Inv.turnLays{o:HO}(I:Inv X pins σ H s)(k:∀b o,b∉ch->s.heap.get? b=some o->h'.get? b=some o)(hf:∀b∈ch,kE X pins H b)(ha:s.heap.objs.size<=a)(new:ObjOk X.prog X.w (upd H a o) h' a o):Inv X pins σ (upd H a o) {s with heap:=h'}:=by
 have hn:H a=none:=I.hok.fresh ha;have nea:∀b ob,s.heap.get? b=some ob->b≠a:=fun b ob e z=>by
  have:=vc e;rw[z]at this;exact absurd (Qr this ha) (QD _)
 have nch:∀b u,H b=some u->b∉ch:=fun b u e z=>by rw[(hf b z).1]at e;cases e
 have nl:X.env.locals∉ch:=fun z=>(hf _ z).2.1 rfl;refine I.step (g':=s.gens) (d':=s.drawn) (t':=s.toks) (ch:=ch) (fun b hb=>?_) (fun b o _ _ hc e _=>k b o hc e) (fun b o _ _ hc e _=>⟨o.slots,k b o hc e⟩) (fun b ob _ e n=>by rw[aj (nea b ob e)];exact n)
  (fun b o hc e=>⟨o,k b o hc e⟩) (fun b xs e=>by rw[aj (ai e hn)];exact e) (fun b o u e=>by rw[aj (ai e hn)];exact e) (fun b ps e=>⟨#[],by rw[aj (ai e hn),e];simp⟩) (fun m hm=>?_) (fun b u e=>?_) I.bare
 ·obtain⟨f0,f1,f2,f3,f4,f5⟩:=hf b hb;exact⟨f3,f1,f4,f5⟩
 ·obtain⟨ob,es,ep,ho,r⟩:=hm;exact⟨ob,es,ep,k _ ob nl ho,r⟩
 ·by_cases hb:b=a
  ·subst hb;rw[af]at e;cases e;exact new
  ·rw[aj hb]at e;refine(I.hok b u e).stay (fun c v hc q=>k c v ?_ q) (fun c q=>by rw[aj (ai q hn)];exact q) fun c xs q=>by rw[aj (ai q hn)];exact q
   rcases hc with z|z
   ·rw[z];exact nch b u e
   ·exact nch c _ z
theorem Inv.turneds(I:Inv X pins σ H s)(k:∀b o,b∉ch->s.heap.get? b=some o->h'.get? b=some o)(hf:∀b∈ch,kE X pins H b):Inv X pins σ H {s with heap:=h'}:=by
 have nch:∀b u,H b=some u->b∉ch:=fun b u e z=>by rw[(hf b z).1]at e;cases e
 have nl:X.env.locals∉ch:=fun z=>(hf _ z).2.1 rfl;refine I.step (g':=s.gens) (d':=s.drawn) (t':=s.toks) (ch:=ch) (fun b hb=>?_) (fun b o _ _ hc e _=>k b o hc e) (fun b o _ _ hc e _=>⟨o.slots,k b o hc e⟩) (fun _ _ _ _ n=>n)
  (fun b o hc e=>⟨o,k b o hc e⟩) (fun _ _ e=>e) (fun _ _ _ e=>e) (fun b ps e=>⟨#[],by rw[e];simp⟩) (fun m hm=>?_) (fun b u e=>?_) I.bare
 ·obtain⟨f0,f1,f2,f3,f4,f5⟩:=hf b hb;exact⟨f3,f1,f4,f5⟩
 ·obtain⟨ob,es,ep,ho,r⟩:=hm;exact⟨ob,es,ep,k _ ob nl ho,r⟩
 ·refine(I.hok b u e).stay (fun c v hc q=>k c v ?_ q) (fun _ q=>q) fun _ _ q=>q;rcases hc with z|z
  ·rw[z];exact nch b u e
  ·exact nch c _ z
def Sqk(K:cw):Bool->Hp->dk->List V->Prop
 |true=>SqL K
 |false=>SqT K
theorem wk{xs:List V}(I:Inv X pins σ H s)(h:Sqk X.K q H a xs):∃its:List cT,Vals xs its/\SqH q s.heap a its.toArray:=by
 cases q with
 |true=>
  obtain⟨its,r,p,_⟩:=I.list h;exact⟨its,r,p.isList⟩
 |false=>
  obtain⟨its,r,p,_⟩:=I.tuple h;exact⟨its,r,p⟩
theorem Cs{xs ys:List V}(I:Inv X pins σ H s)(h:Sqk X.K q H a xs)(h':Sqk X.K q H a ys):xs=ys:=by
 cases q with
 |true=>exact I.list_inj h h'
 |false=>exact I.tuple_inj h h'
def Itz(K:cw)(q:Bool)(a b:dk):It:=
 ⟨fun i H=>∃xs ys x y,Sqk K q H a xs/\Sqk K q H b ys/\xs[i]?=some x/\ys[i]?=some y,fun i H v H'=>∃x y t,(∀xs,Sqk K q H a xs->xs[i]?=some x)/\(∀ys,Sqk K q H b ys->ys[i]?=some y)/\H t=none/\v=.ref t/\H'=upd H t (.tup [x,y]),fun i H=>∃xs ys,Sqk K q H a xs/\Sqk K q H b ys/\xs.length<=i⟩
theorem FL{K:cw}{b TI TO:dk}(D:Wq z TI TO i1 i2 a b):
  Turn P w K (.Tuple elts x1 tp) (Itz K q a b) [z,TI,TO,i1,i2] z (fun i h=>IsZip h z TI TO .none/\IsPair h TI (.ref i1) (.ref i2)/\(∃u v,IsPair h TO u v)/\ItK q h i1 a i/\ItK q h i2 b i) where
 mem:=by simp
 obj:=fun i h st c hc=>by
  obtain⟨hz,hI,⟨u,v,hO⟩,h1,h2⟩:=st;obtain⟨o1,v1,e1,d1⟩:=h1.obj;obtain⟨o2,v2,e2,d2⟩:=h2.obj;simp only[uc,Qy,or_false]at hc;rcases hc with rfl|rfl|rfl|rfl|rfl
  ·exact⟨_,hz,fun v z=>by have z':Data.fields _=Data.cell v:=z;cases z'⟩
  ·exact⟨_,hI,fun v z=>by have z':Data.seq _ _=Data.cell v:=z;cases z'⟩
  ·exact⟨_,hO,fun v z=>by have z':Data.seq _ _=Data.cell v:=z;cases z'⟩
  ·exact⟨_,e1,fun v z=>by rw[d1]at z;cases z⟩
  ·exact⟨_,e2,fun v z=>by rw[d2]at z;cases z⟩
 keep:=fun i h h' st k=>by
  obtain⟨hz,hI,⟨u,v,hO⟩,h1,h2⟩:=st;exact⟨k _ (by simp) _ hz,k _ (by simp) _ hI,⟨u,v,k _ (by simp) _ hO⟩,h1.at fun o e=>k _ (by simp) o e,h2.at fun o e=>k _ (by simp) o e⟩
 item:=by
  intro X hP hw hK hc i pins s σ H E I hf st hg;subst hP hw hK;obtain⟨hz,hI,⟨u0,v0,hO⟩,h1,h2⟩:=st;obtain⟨xs,ys,x,y,qa,qb,hx,hy⟩:=hg;obtain⟨ia,ra,pa⟩:=wk I qa;obtain⟨ib,rb,pb⟩:=wk I qb;obtain⟨u,hu,ru⟩:=ra.get hx;obtain⟨v,hv,rv⟩:=rb.get hy;have fw:∀c∈[z,TO,i1,i2],kE X pins H c:=fun c hc=>hf c (by
   simp only[uc,Qy,or_false]at hc⊢;rcases hc with z|z|z|z<;>simp[z])
  refine M9 D hz hI hO h1 h2 pa pb (by simpa using hu) (by simpa using hv) fun h' c1 c2 c3 c4 c5 kp=>?_;have sne:∀c o,s.heap.get? c=some o->s.heap.objs.size≠c:=fun c o e z=>by
   have:=vc e;rw[←z]at this;exact QD _ this
  obtain⟨o1,_,e1,_⟩:=h1.obj;obtain⟨o2,_,e2,_⟩:=h2.obj;have I1:Inv X pins σ (upd H s.heap.objs.size (.tup [x,y])) {s with heap:=h'}:=
   I.turnLays (ch:=[z,TO,i1,i2]) kp fw (oh _) ⟨by show 2<=sizeLine;decide,[u,v],.cons ru (.cons rv .nil),_,c5,rfl,0,rfl,rfl,rfl⟩
  have fn:∀c∈[z,TI,TO,i1,i2],(upd H s.heap.objs.size (.tup [x,y])) c=none:=fun c hc=>by
   rw[aj]
   ·exact(hf c hc).1
   ·simp only[uc,Qy,or_false]at hc;rcases hc with rfl|rfl|rfl|rfl|rfl
    ·exact(sne _ _ hz).symm
    ·exact(sne _ _ hI).symm
    ·exact(sne _ _ hO).symm
    ·exact(sne _ _ e1).symm
    ·exact(sne _ _ e2).symm
  refine⟨_,rfl,wpAny_letOwnedTupleGo_zip c1 fun h2' d1 sb=>?_⟩;obtain⟨f0,f1,f2,f3,f4,f5⟩:=hf z (by simp);have kI:IsPair h' TI (.ref i1) (.ref i2):=kp _ _ (by simp[D.TIz,D.TITO,D.TIi1,D.TIi2]) hI;exact⟨.ref s.heap.objs.size,_,I1.turned (t':=s.toks) (fun b o hb e=>(sb.2 b hb).trans e) (fn z (by simp)) f1 f3 f4 f5,rfl,⟨x,y,_,fun xs' h=>by rw[Cs I h qa];exact hx,fun ys' h=>by rw[Cs I h qb];exact hy,I.hok.fresh (oh _),rfl,rfl⟩,
   ⟨d1,(sb.2 _ D.TIz).trans kI,⟨_,_,(sb.2 _ D.TOz).trans c2⟩,c3.at fun o e=>(sb.2 _ D.i1z).trans e,c4.at fun o e=>(sb.2 _ D.i2z).trans e⟩,fn⟩
 done:=by
  intro X hP hw hK hc i pins s σ H E I hf st hg;subst hP hw hK;obtain⟨hz,hI,⟨u0,v0,hO⟩,h1,h2⟩:=st;obtain⟨xs,ys,qa,qb,hl⟩:=hg;obtain⟨ia,ra,pa⟩:=wk I qa;obtain⟨ib,rb,pb⟩:=wk I qb;have fw:∀c∈[z,TO,i1,i2],kE X pins H c:=fun c hc=>hf c (by
   simp only[uc,Qy,or_false]at hc⊢;rcases hc with z|z|z|z<;>simp[z])
  have la:=ra.length;exact JC (I.ok.hd hc) D hz hI hO h1 h2 pa pb (by simp;omega) fun h' kp=>⟨rfl,I.turneds kp fw⟩
 self:=fun _ _ _ _ _ st h=>XA st.1 h
abbrev zt1(h:Qg)(l1:dk):Qg:=h.push {cls:=.type "tuple_iterator",data:=.fields #[.ref l1,.int 0 0]}
abbrev zt2(h:Qg)(l1 l2:dk):Qg:=(zt1 h l1).push {cls:=.type "tuple_iterator",data:=.fields #[.ref l2,.int 0 0]}
abbrev zt3(h:Qg)(l1 l2:dk):Qg:=(zt2 h l1 l2).push {cls:=.type "tuple",data:=.seq #[.ref h.objs.size,.ref (zt1 h l1).objs.size]}
abbrev zt4(h:Qg)(l1 l2:dk):Qg:=(zt3 h l1 l2).push {cls:=.type "tuple",data:=.seq #[.none,.none]}
abbrev zt5(h:Qg)(l1 l2:dk):Qg:=(zt4 h l1 l2).push {cls:=.type "zip",data:=.fields #[.none,.bool false,.bool false,.ref (zt2 h l1 l2).objs.size,.ref (zt3 h l1 l2).objs.size]}
theorem HH(l1 l2:dk)(xs ys:Array cT):Meets (QU.«zip.__new__» ⟨[.type "zip",.ref l1,.ref l2],[]⟩) (fun _ R s=>s.heap.IsTuple l1 xs/\s.heap.IsTuple l2 ys/\R (.ok (.ret (.ref (zt4 s.heap l1 l2).objs.size))) {s with heap:=zt5 s.heap l1 l2}):=
 .of_wp fun prog w A R s h=>by
  obtain⟨hp,g,d,tk,os⟩:=s;obtain⟨a1,a2,h⟩:=h;have hsub:=sub_zip;have b1:YA (YM ⟨hp,g,d,tk,os⟩) l1 xs:=a1;have b2:YA (YM ⟨hp.push {cls:=.type "tuple_iterator",data:=.fields #[.ref l1,.int 0 0]},g,d,tk,os⟩) l2 ys:=Heap.IsTuple.push a2 _
  wp_walk using wpAny_pyIter_tuple b1,wpAny_pyIter_tuple b2
  exact⟨_,rfl,h⟩
theorem Ex(g1:SqH q s.heap l1 xs)(g2:SqH q s.heap l2 ys)(h:∀h',IsZip h' (s.heap.objs.size+ 4) (s.heap.objs.size+ 2) (s.heap.objs.size+ 3) .none->IsPair h' (s.heap.objs.size+ 2) (.ref s.heap.objs.size) (.ref (s.heap.objs.size+ 1))->IsPair h' (s.heap.objs.size+ 3) .none .none->ItK q h' s.heap.objs.size l1 0->ItK q h' (s.heap.objs.size+ 1) l2 0->
   (∀c o,s.heap.get? c=some o->h'.get? c=some o)->Q (.ref (s.heap.objs.size+ 4)) {s with heap:=h'}):ni (model prog w) A (call (.type "zip") [.ref l1,.ref l2]) Q E s:=by
 cases q with
 |true=>exact call_zip_2 g1 g2 fun h' a b c d e _ k=>h h' a b c d e k
 |false=>
  refine callType_new PySem.F.called_zip (by decide) (PySem.F.typeCall_zip_2 _ _) (PySem.F.newCall_zip_2 _ _) (fun obj=>PySem.F.args_object_init_3 obj _ _) PySem.F.entry_zip_new (HH l1 l2 xs ys) ⟨g1,g2,?_⟩;have z1:(zt1 s.heap l1).objs.size=s.heap.objs.size+ 1:=Rl ..;have z2:(zt2 s.heap l1 l2).objs.size=s.heap.objs.size+ 2:=by rw[Rl,z1]
  have z3:(zt3 s.heap l1 l2).objs.size=s.heap.objs.size+ 3:=by rw[Rl,z2]
  have z4:(zt4 s.heap l1 l2).objs.size=s.heap.objs.size+ 4:=by rw[Rl,z3]
  have k45:∀c o,(zt4 s.heap l1 l2).get? c=some o->(zt5 s.heap l1 l2).get? c=some o:=fun c o e=>gf _ e;have k35:∀c o,(zt3 s.heap l1 l2).get? c=some o->(zt5 s.heap l1 l2).get? c=some o:=fun c o e=>k45 c o (gf _ e);have k25:∀c o,(zt2 s.heap l1 l2).get? c=some o->(zt5 s.heap l1 l2).get? c=some o:=fun c o e=>k35 c o (gf _ e);have k15:∀c o,(zt1 s.heap l1).get? c=some o->(zt5 s.heap l1 l2).get? c=some o:=fun c o e=>k25 c o (gf _ e);have p5:(zt5 s.heap l1 l2).get? (zt4 s.heap l1 l2).objs.size=some _:=rl _ rfl;have p4:(zt5 s.heap l1 l2).get? (zt3 s.heap l1 l2).objs.size=some _:=k45 _ _ (rl _ rfl);have p3:(zt5 s.heap l1 l2).get? (zt2 s.heap l1 l2).objs.size=some _:=k35 _ _ (rl _ rfl);have p2:(zt5 s.heap l1 l2).get? (zt1 s.heap l1).objs.size=some _:=k25 _ _ (rl _ rfl);have p1:(zt5 s.heap l1 l2).get? s.heap.objs.size=some _:=k15 _ _ (rl _ rfl);show _/\_;rw[z2,z3,z4]at p5;rw[z1,z2]at p3;rw[z3]at p4;rw[z1]at p2;rw[z4];exact⟨⟨_,p5,rfl⟩,h _ p5 p3 p4 ⟨_,p1,rfl,rfl⟩ ⟨_,p2,rfl,rfl⟩ fun c o x=>k15 c o (gf _ x)⟩
section
def LX(K:cw)(ta:TA):TI:=fun σ H R=>ta σ H fun vs H1=>∃q a b xs ys,vs=[.ref a,.ref b]/\Sqk K q H1 a xs/\Sqk K q H1 b ys/\R (Itz K q a b) H1
theorem MA{a b:QC}(hg:Gl X "zip")(hm:X.mg "zip"=none)(ha:PA X [a,b] ta)(hs:starEach [a,b] X.env=[(false,eval a X.env),(false,eval b X.env)]:=by rfl)(hs2:starEach [b] X.env=[(false,eval b X.env)]:=by rfl):
  PI X (.Tuple elts x1 tp) (.Call (.Name "zip" p) [a,b] [] pos) (LX X.K ta):=by
 intro pins s σ H R I h;refine Call_ (my I hg hm boot_zip (S7 (thn (ha pos pins s σ H _ I h) fun us s1 ⟨vs,H1,I1,r1,q1⟩=>?_) (by rw[hs,hs2]) (by rw[hs2];rfl)));obtain⟨q,a1,b1,xs,ys,e,qa,qb,R1⟩:=q1;subst e;cases r1 with
 |cons r rr=>
  cases rr with
  |cons r' rr=>
   cases rr;cases r;cases r';obtain⟨ia,ra,pa⟩:=wk I1 qa;obtain⟨ib,rb,pb⟩:=wk I1 qb;obtain⟨oa,ea⟩:=pa.obj;obtain⟨ob,eb⟩:=pb.obj;refine Ex pa pb fun h' c1 c2 c3 c4 c5 k=>XA c1 ?_;refine⟨_,_,_,_,H1,rfl,I1.kept (t':=s1.toks) k,FL (zipApart_new (vc ea) (vc eb)),⟨c1,c2,⟨_,_,c3⟩,c4,c5⟩,fun c hc=>?_,R1⟩;have hc':s1.heap.objs.size<=c:=by
    simp only[uc,Qy,or_false]at hc;rcases hc with rfl|rfl|rfl|rfl|rfl
    ·exact Ud _ 4
    ·exact Ud _ 2
    ·exact Ud _ 3
    ·exact oh _
    ·exact Ud _ 1
   exact I1.fpOk hc' (I1.hok.fresh hc')
end
theorem yU{K:cw}{b:dk}{xs ys:List V}(Pv:Nat->St->Hp->Prop)(le:xs.length=ys.length)(h0:Pv 0 σ H)(hl:∀i σ H,i<=xs.length->Pv i σ H->Sqk K q H a xs/\Sqk K q H b ys)(hs:∀i x y t σ H,xs[i]?=some x->ys[i]?=some y->H t=none->Pv i σ H->eR g tt te D (Pv (i+ 1)) (.ref t) σ (upd H t (.tup [x,y])))(hd:∀σ H,Pv xs.length σ H->Qe H):
  ∃W:Nat->Nat->St->Hp->Prop,(∃m,W 0 m σ H)/\∀i m σ' H',W i m σ' H'->((Itz K q a b).stop i H'/\Qe H')∨((Itz K q a b).go i H'/\∃N:St->Hp->Prop,(∀σ2 H2,N σ2 H2->∃m',m'<m/\W (i+ 1) m' σ2 H2)/\
   ∀x H'',(Itz K q a b).yld i H' x H''->eR g tt te D N x σ' H''):=by
 refine⟨fun i m σ H=>m=xs.length-i/\i<=xs.length/\Pv i σ H,⟨xs.length,by simp,Qt _,h0⟩,?_⟩;rintro i m σ H ⟨rfl,hi,p⟩;obtain⟨qa,qb⟩:=hl i σ H hi p;by_cases hlt:i<xs.length
 ·have e1:xs[i]?=some xs[i]:=xi hlt;have e2:ys[i]?=some (ys[i]'(le▸hlt)):=xi _;refine .inr ⟨⟨xs,ys,_,_,qa,qb,e1,e2⟩,Pv (i+ 1),fun σ' H' p'=>⟨xs.length-(i+ 1),by omega,rfl,hlt,p'⟩,fun v H' y=>?_⟩;obtain⟨x,y,t,h1,h2,ht,rfl,rfl⟩:=y;exact hs i x y t σ H (h1 xs qa) (h2 ys qb) ht p
 ·have e:i=xs.length:=by omega
  subst e;exact .inl ⟨⟨xs,ys,qa,qb,oh _⟩,hd σ H p⟩
theorem NG{K:cw}(h:ta σ H fun vs H1=>∃q a b xs ys,vs=[.ref a,.ref b]/\Sqk K q H1 a xs/\Sqk K q H1 b ys/\R (Itz K q a b) H1):LX K ta σ H R:=h
section
theorem Inv.laid2{b:dk}{o u:HO}{t':Nat}(I:Inv X pins σ H s)(k:∀c v,s.heap.get? c=some v->h'.get? c=some v)(ha:s.heap.objs.size<=a)(hb:s.heap.objs.size<=b)(ne:a≠b)(n1:ObjOk X.prog X.w (upd (upd H a o) b u) h' a o)(n2:ObjOk X.prog X.w (upd (upd H a o) b u) h' b u):Inv X pins σ (upd (upd H a o) b u) {s with heap:=h',toks:=t'}:=by
 have na:H a=none:=I.hok.fresh ha;have nb:H b=none:=I.hok.fresh hb;have old:∀c v,s.heap.get? c=some v->(upd (upd H a o) b u) c=H c:=fun c v e=>by
  have l:=vc e;have h1:c≠b:=xy (Qr l hb);have h2:c≠a:=xy (Qr l ha);rw[aj h1,aj h2]
 have up:∀c v,H c=some v->(upd (upd H a o) b u) c=some v:=fun c v e=>by rw[aj (ai e nb),aj (ai e na)];exact e
 refine I.step (g':=s.gens) (d':=s.drawn) (ch:=[]) (fun c hc=>nomatch hc) (fun c v _ _ _ e _=>k c v e) (fun c v _ _ _ e _=>⟨v.slots,k c v e⟩) (fun c v _ e n=>by rw[old c v e];exact n)
  (fun c v _ e=>⟨v,k c v e⟩) (fun c xs e=>up c _ e) (fun c v w e=>up c _ e) (fun c ps e=>⟨#[],by rw[up c _ e];simp⟩) (fun m hm=>?_) (fun c v e=>?_) I.bare
 ·obtain⟨ob,es,ep,ho,r⟩:=hm;exact⟨ob,es,ep,k _ ob ho,r⟩
 ·by_cases z:c=b
  ·subst z;rw[af]at e;cases e;exact n2
  ·rw[aj z]at e;by_cases y:c=a
   ·subst y;rw[af]at e;cases e;exact n1
   ·rw[aj y]at e;exact(I.hok c v e).stay (fun d w _ q=>k d w q) (fun d q=>up d _ q) fun d xs q=>up d _ q
def ViO(v d:dk):HO:=.ext fun h=>h.IsItemsView v d
theorem EV:MtR X "dict.items" (fun x vs H Q=>∃d kvs,x=.ref d/\vs=[]/\H d=some (.dK kvs)/\∀v,H v=none->Q (.ref v) (upd H v (ViO v d))):=by
 intro pins s σ H x xs v us Q I rx rv h;obtain⟨d,kvs,rfl,rfl,hd,q⟩:=h;cases rx;cases rv;obtain⟨z,hS,vs,rel,dd⟩:=Dg I.hok hd;obtain⟨h1,h2⟩:=qZ (T:="dict") I (x:=.ref d) rfl (.inr (.inr (.inl ⟨rfl,.inl ⟨kvs,hd⟩⟩)));refine S4 S1 h1 V9 (VR _) (meets_dict_items (aO X.prog X.w) d hS) ⟨⟨vs,dd⟩,?_⟩;exact⟨.ref s.heap.objs.size,_,I.laid (o:=ViO s.heap.objs.size d) (t':=s.toks) (fun b ob e=>gf _ e) (oh _) ⟨⟨_,rl _ rfl,rfl,rfl⟩,⟨_,rl _ rfl⟩,fun h1 h2 ⟨o,e1,e2,e3⟩ k=>⟨o,k o e1,e2,e3⟩⟩,rfl,q _ (I.hok.fresh (oh _))⟩
theorem Bd(hc:X.calm=true):cE X (.type "list") (fun xs H Q=>∃(v d:dk) (k:Key) (y:V),xs=[.ref v]/\H v=some (ViO v d)/\Rd H d (.dK [(k,y)])/\∀l t,H l=none->H t=none->t≠l->Q (.ref l) (upd (upd H t (.tup [kV k,y])) l (.lst [.ref t]))):=by
 intro pins s σ H xs us Q I r h;obtain⟨v,d,k,y,rfl,hv,hd,q⟩:=h;obtain⟨u,rfl,rx⟩:=vals1 r;cases rx;obtain⟨z,hS,vs,rel,dd⟩:=jm I.hok hd;obtain⟨ep,hat⟩:=dd.dictAt;have hl:vs.length=1:=(KV.length rel).symm;have hvw:s.heap.IsItemsView v d:=(I.hok v _ hv).1;refine PySem.W.kdx_call (A:=X.A) (knd:=aO X.prog X.w) (kvs:=vs) (ep:=ep) (I.ok.hd hc) hvw hat (by rw[hl];exact QG (aD (by omega))) fun h' tk acc c as hk he la hG hacc=>?_;rw[hl]at la;obtain⟨a,rfl⟩:∃a,as=[a]:=List.length_eq_one_iff.mp la;obtain⟨key,k',x,e1,e2,e3⟩:=hG.pairs 0 a rfl;obtain⟨u',hu',ru⟩:=rel.get (i:=0) (k:=k) (v:=y) rfl;rw[e1]at hu';cases hu';have lt:s.heap.objs.size<a:=hG.above a (by simp);have ee:acc=#[zt a]:=by
  have:acc.toList=[zt a]:=hacc;rw[←Wr (xs:=acc),this]
 rw[ee]at he;exact⟨.ref s.heap.objs.size,_,I.laid2 (o:=.tup [kV k,y]) (u:=.lst [.ref a]) (t':=tk) hk (QG lt) (oh _) (RC lt) ⟨by show 2<=sizeLine;decide,[key,x],.cons (IS e2) (.cons ru .nil),_,e3,rfl,0,rfl,rfl,rfl⟩ ⟨by show 1<=sizeLine;decide,[.ref a],c,.cons rfl .nil,he⟩,rfl,
  q _ _ (I.hok.fresh (oh _)) (I.hok.fresh (QG lt)) (RC lt)⟩
theorem EC:MtR X "list.clear" (fun x vs H Q=>∃l xs,x=.ref l/\vs=[]/\H l=some (.lst xs)/\Q .non (upd H l (.lst []))):=by
 intro pins s σ H x vs v us Q I rx rv h;obtain⟨l,xs,rfl,rfl,hH,q⟩:=h;cases rx;cases rv;obtain⟨z,its,n,r,hl,e⟩:=I.lstM hH;refine TL VA ⟨_,e,rfl⟩ PySem.F.entry_list_clear (PySem.F.args_list_clear_1 _) (PySem.AutoSeq1.list_clear_list_0 l its.toArray n (by rw[xu];omega)) ⟨e,?_⟩;exact⟨.non,_,I.lset (its':=[]) (ys:=[]) hH e rfl .nil (Qt _),rfl,q⟩
theorem zQ(hc:X.calm=true):cE X (.type "list") (fun xs H Q=>∃(d:dk),xs=[.ref d]/\H d=some (.dT [])/\∀l,H l=none->Q (.ref l) (upd H l (.lst []))):=by
 intro pins s σ H xs us Q I r h;obtain⟨d,rfl,hd,q⟩:=h;obtain⟨u,rfl,rx⟩:=vals1 r;cases rx;obtain⟨z,hS,es,kt,o,fs,ep,ho,hx,hdat,he,_⟩:=I.hok d _ hd;cases kt;have hat:s.heap.DictAt (aO X.prog X.w) d [] ep:=by
  refine⟨o,fs,ho,?_⟩;have ef:fs=#[]:=by rw[←Wr (xs:=fs),he];rfl
  subst ef;exact⟨hx,hdat,fun e he=>absurd he (by simp),.nil,.nil⟩
 refine Uc (A:=X.A) (Vo (knd:=aO X.prog X.w) (kvs:=[]) (ep:=ep) hS) (I.ok.hd hc) hat (Qt _) fun h' tk acc c hk he hacc=>?_;have ea:acc=#[]:=Array.eq_empty_of_size_eq_zero hacc.1;rw[ea]at he;exact⟨.ref s.heap.objs.size,_,I.laid (o:=.lst []) (t':=tk) hk (oh _) ⟨Qt _,[],c,.nil,he⟩,rfl,q _ (I.hok.fresh (oh _))⟩
end
theorem JF{K:cw}{a b:QC}(hK:X.K=K)(hg:Gl X "zip")(hm:X.mg "zip"=none)(ha:PA X [a,b] ta)(hs:starEach [a,b] X.env=[(false,eval a X.env),(false,eval b X.env)]:=by rfl)(hs2:starEach [b] X.env=[(false,eval b X.env)]:=by rfl):
  PI X (.Tuple elts x1 tp) (.Call (.Name "zip" p) [a,b] [] pos) (LX K ta):=by subst hK;exact MA hg hm ha hs hs2
end L2
local macro_rules | `(tactic| sizeOf_list_dec) => `(tactic| first | (with_reducible first | exact L2.MJ | exact L2.BL | exact L2.EM | exact L2.Fn | exact L2.Hj | exact L2.Gr | exact L2.He | exact L2.D9 | exact L2.Es | exact L2.ym | exact L2.zh | exact L2.mM | exact L2.Hq | exact L2.vx | exact L2.Gm | exact L2.Il | exact L2.AJ | exact L2.Gk | exact L2.DM | exact L2.GL | exact L2.AQ | exact L2.KP) | (with_reducible first | exact L2.D8 | exact L2.Ib | exact L2.IB | exact L2.Ir | exact L2.Ja) | (with_reducible first | exact L2.BS | exact L2.AZ | exact L2.EB | exact L2.Ic | exact L2.Ca | exact L2.GC | exact L2.zu | exact L2.uP | exact L2.Hr | exact L2.G7 | exact L2.HL | exact L2.Hv) | (first | assumption | decide | exact ⟨by decide, by decide⟩ | exact ⟨by decide, by decide, by decide⟩ | exact Nat.le_of_ble_eq_true rfl | exact L2.aD (by omega) | exact L2.HF | omega))
local macro_rules | `(tactic| decreasing_trivial_pre_omega) => `(tactic| first | assumption | (apply L2.SqL.of; assumption) | (apply L2.SqT.of; assumption) | (refine Or.inl ?_; assumption) | (refine Or.inl ?_; apply L2.SqL.of; assumption) | (refine Or.inr ?_; apply L2.SqT.of; assumption))
local macro_rules | `(tactic| bv_omega) => `(tactic| first | assumption | exact L2.eD (j := 0) rfl | exact L2.eD (j := 1) rfl | exact L2.eD (j := 2) rfl | exact L2.eD (j := 3) rfl | exact L2.eD (j := 4) rfl | exact L2.eD (j := 5) rfl)
local macro_rules | `(tactic| array_get_dec) => `(tactic| first | (with_reducible refine L2.M4 fun R hR => ?_) | (with_reducible first | refine L2.Mo ?_ | refine L2.Mt ?_ | refine L2.Nb ?_ | refine L2.Ng ?_ | refine L2.MF ?_ | refine L2.Ny ?_ | refine L2.Mw ?_ | refine L2.OL ?_ | refine L2.PL ?_ | refine L2.x_c ?_ | refine L2.Og ?_ | refine L2.Pl ?_ | refine L2.MK ?_ | refine L2.MR ?_ | refine L2.OZ ?_ | refine L2.x_call ?_ | refine L2.PJ ?_ | refine L2.PQ ?_ | refine L2.M5 ?_ | refine L2.NS ?_ | refine L2.x_b ?_ | refine L2.MB ?_ | refine L2.JN ?_ | refine L2.NV ?_ | refine L2.PF ?_ | refine L2.OV ?_ | refine L2.Nf ?_ | refine L2.OX ?_ | refine L2.NL ?_ | refine L2.Pj ?_ | refine L2.NF ?_ | refine L2.LY ?_ | refine L2.NP ?_ | refine L2.OY ?_ | refine L2.Ph ?_ | refine L2.OF ?_ | refine L2.Oe ?_ | refine L2.OS ?_ | refine L2.NX ?_ | refine L2.Nl ?_ | refine L2.Qb ?_ | refine L2.Gv ?_ | refine L2.Lu ?_ | refine L2.Ky ?_ | refine L2.Ni ?_ | refine L2.N1 ?_ | refine L2.L9 ?_ | refine L2.Pe ?_ | refine L2.Kn ?_ | refine L2.P7 ?_ | refine L2.N3 ?_ | refine L2.Mc ?_ | refine L2.Kl ?_ | refine L2.Mz ?_ | refine L2.ON ?_ | refine L2.MT ?_ | refine L2.NZ ?_ | refine L2.Pn ?_ | refine L2.O3 ?_) | array_mem_dec)
local macro_rules | `(tactic| array_mem_dec) => `(tactic| first | with_reducible refine L2.NG ?_ | with_reducible refine L2.Ei ?_ | with_reducible refine L2.Jx ?_ | with_reducible refine L2.NH ?_ | ((with_reducible apply L2.O7); (focus assumption)) | (with_reducible first | refine L2.J0 ?_ | refine L2.M7 ?_) | ((with_reducible apply L2.HU); (focus decreasing_trivial_pre_omega)) | ((with_reducible apply L2.Kp); (focus assumption); (focus assumption); (focus sizeOf_list_dec)) | ((with_reducible apply L2.Lz); (focus decreasing_trivial_pre_omega)) | ((with_reducible apply L2.OO); (focus decreasing_trivial_pre_omega); (focus assumption)) | ((with_reducible apply L2.Pd); (focus assumption); (focus sizeOf_list_dec); (focus sizeOf_list_dec); (focus sizeOf_list_dec)) | ((with_reducible apply L2.Nz); (focus assumption); (focus sizeOf_list_dec); (focus sizeOf_list_dec); (focus sizeOf_list_dec)) | ((with_reducible apply L2.Bt); (focus assumption); (focus sizeOf_list_dec)) | ((with_reducible refine L2.Cb ?_); (with_reducible apply L2.Bt); (focus assumption); (focus sizeOf_list_dec)) | ((with_reducible refine L2.Cb ?_); (with_reducible refine L2.Cb ?_); (with_reducible apply L2.Bt); (focus assumption); (focus sizeOf_list_dec)) | (with_reducible first | refine L2.Qc ?_ | refine L2.Oi ?_ | refine L2.Ma ?_ | refine L2.Nc ?_ | refine L2.Oo ?_ | refine L2.LO ?_ | refine L2.IW ?_ | refine L2.LI ?_ | refine L2.PZ ?_) | ((with_reducible apply L2.Od); (focus decreasing_trivial_pre_omega); (focus bv_omega)) | ((with_reducible apply L2.JV); (focus decreasing_trivial_pre_omega)) | with_reducible refine L2.FO ?_ | ((with_reducible apply L2.G0); (focus decreasing_trivial_pre_omega)) | ((with_reducible apply L2.G4); (focus assumption); (focus assumption); (focus sizeOf_list_dec)) | ((with_reducible apply L2.Ft); (focus assumption); (focus sizeOf_list_dec)) | ((with_reducible apply L2.Om); (focus sizeOf_list_dec)) | ((with_reducible apply L2.Oa); (focus sizeOf_list_dec)) | ((with_reducible apply L2.Mq); (focus decreasing_trivial_pre_omega)) | ((with_reducible apply L2.OT); (focus decreasing_trivial_pre_omega)) | ((with_reducible apply L2.NA); (focus decreasing_trivial_pre_omega)) | ((with_reducible apply L2.Lr); (focus decreasing_trivial_pre_omega)) | ((with_reducible apply L2.Pb); (focus decreasing_trivial_pre_omega); (focus bv_omega)) | ((with_reducible apply L2.NR); (focus decreasing_trivial_pre_omega); (focus bv_omega)) | ((with_reducible apply L2.x_I); (focus sizeOf_list_dec)) | ((with_reducible apply L2.OP); (focus exact rfl)) | ((with_reducible apply L2.LJ); (focus decreasing_trivial_pre_omega); (focus rfl)) | ((with_reducible apply L2.Ov); (focus assumption)))
local macro_rules | `(tactic| clean_wf) => `(tactic| repeat' (first | array_get_dec | fail))
namespace L2
open PySem PySem.Spec PyProof.Rows
variable{N:List pe}{u:TS}{D:Ends}{σ:St}{H:Hp}
theorem fsc{P:List pe}{sc:SU}(a:sc.kind=.function:=by rfl)(b:sc.isCoroutine=false:=by rfl)(c:sc.isGenerator=false:=by rfl)(d:N.Nodup:=by decide +kernel)(e:N.take P.length=P:=by rfl)(f:∀x∈P,sc.names.lookup x=some .local∨sc.names.lookup x=some .cell:=by decide +kernel)(g:∀y∈sc.names,y.2≠.free:=by decide +kernel):FnScope N P sc:=⟨a,b,c,d,e,f,g⟩
def Tg(_:Qo)(_:Qu)(_:pe->Option cT)(_:Qg):Prop:=True
abbrev nI(K:cw)(x:pe)(f:dk):Prop:=Sg K Qz x=some (some (.ref f))
def qa:List pe->(List cT->Prop)->Prop
 |[],p=>p []
 |_::r,p=>∀v,qa r fun us=>p (v::us)
theorem Lq:∀{ps:List pe} {p:List cT->Prop},qa ps p->∀us:List cT,us.length=ps.length->p us
 |[],_,h,[],_=>h
 |_::_,_,h,v::us,e=>Lq (h v) us (Nat.succ.inj e)
section
variable{P:Qo}{w:Qu}{K:cw}{mg:pe->Option cT}{base h:Qg}{x qual:pe}{st:QB}{f:dk}{fd:xw}{ps:List pe}{k:Nat}{sp:Sp}
theorem Fun.oj(F:Fun K x qual st f fd)(S:FnScope N ps (aw st))
  (hbody:∀(cdv:cT) (A:QR) (outer:List S2) (s:lr) (H:Hp) (vs:List V) (Q:VK) (E:XK),Room k (A.deeper (envOfC qual (aw st) s.heap.objs.size f cdv))->(A.deeper (envOfC qual (aw st) s.heap.objs.size f cdv)).units+ 64<RM->(A.deeper (envOfC qual (aw st) s.heap.objs.size f cdv)).units<RM->(A.deeper (envOfC qual (aw st) s.heap.objs.size f cdv)).units+ 1<RM->sp vs H Q E->
   ∃t,PSs (lM CX0 P w K mg base N qual (aw st) f cdv A outer s H E).nox (fA st) t/\t {nx:=fun _ H'=>Q .non H',rt:=Q} (start N vs) H)
  (len:∀vs H Q E,sp vs H Q E->vs.length=ps.length:=by intro _ _ _ _ h;(repeat obtain⟨_,h⟩:=h);subst_vars;rfl):FnOk P w K mg base CX0 (k+ 1) f fd ps sp:=F.ok S len fun c A o s H vs Q E hr h=>hbody c A o s H vs Q E hr hr.units hr.units0 (FW hr) h
theorem Fun.bq(F:Fun K x qual st f fd)(h:∀(kV doc pm:cT) (an:Option dk) (cdv ct:cT),qa ps fun us=>Xm (SA x qual (jS st) (fA st) (aw st) .none kV doc pm an cdv ct) ⟨us,[]⟩=pure (ps.zip us):=by(repeat refine fun _=>?_);rfl):Binds K fd ps []:=F.binds fun a b c d e g us hl=>Lq (h a b c d e g) us hl
theorem Fun.cal(F:Fun K x qual st f fd)(X:K.In h)(G:h.Ns Qz mg)(a:nI K x f)(q:∀(kV doc pm:cT) (an:Option dk) (cdv ct:cT),qa ps fun us=>Xm (SA x qual (jS st) (fA st) (aw st) .none kV doc pm an cdv ct) ⟨us,[]⟩=pure (ps.zip us):=by(repeat refine fun _=>?_);rfl):Cal K mg x f fd ps:=⟨To X G a,F.kp,F.bq q⟩
end
theorem M4{a b c:TS}(h:∀R:TS,R=kO c u->kO a (kO b R) D σ H):kO a (kO b (kO c u)) D σ H:=h _ rfl
theorem Ov{R:TS}(e:R=u)(h:u D σ H):R D σ H:=e▸h
end L2
namespace K41
open PySem L2
variable{f b p a ao aq ah l:dk}{fd:xw}{H H' A B:Hp}{v r x1 x2 x3 x4 x5:V}{Q:VK}{m j m' m0:List (Int×Int)}{hs:List Int}{xs ws qs ds:List V}{ps:List (List Key×V)}{ns gs:List Nm}{last:Option Int}{tb:List (Int×List (Int×Int))}{h:Int}{i:Nat}{rs:List (Int×V)}{F:List dk}{u:HO}
def top(i:Nat):QB:=PySem.Challenge.pw_groupcall_k41_a_page_alone.main.body.getD i (.Pass ⟨0,0,0,0⟩)
abbrev oq:QB:=top 2
abbrev iY:QB:=top 3
abbrev uN:QB:=top 4
abbrev ox:QB:=top 9
abbrev vm:QB:=top 5
abbrev i9:QB:=top 10
abbrev fQ:QB:=inClass (top 24) 0
abbrev d4:QB:=inClass (top 25) 0
abbrev ot:QB:=top 17
abbrev ri:QB:=top 28
abbrev lK:QB:=top 29
abbrev gP:QB:=inClass (top 24) 4
abbrev l8:QB:=inClass (top 24) 5
abbrev fb:QB:=inClass (top 26) 1
abbrev jC:QB:=top 35
abbrev qT:QB:=top 36
abbrev kL:QB:=inClass (top 24) 1
abbrev kT:QB:=inClass (top 24) 2
abbrev eW:QB:=inClass (top 24) 6
abbrev dz:QB:=inClass (top 27) 1
abbrev qE:QB:=top 33
abbrev gX:QB:=top 37
abbrev fT:QB:=top 38
abbrev ip:QB:=top 39
abbrev FE:QB:=top 40
abbrev gU:QB:=top 41
section
variable{P:Qo}{w:Qu}{K:cw}{mg:pe->Option cT}{base:Qg}
def mj(K:cw):Sp:=fun vs H Q _=>∃(d:dk) (m:List (Int×Int)) (h:Int),vs=[.ref d,.int h]/\Rd H d (.dK (dI m))/\Q (.int (ct m h)) H
abbrev Eu:List pe:=["counts","hand"]
theorem Ad:FnScope ["counts","hand"] Eu (aw oq):=fsc
variable(eV:Tg P w mg base)
include eV in
theorem zm(F:Fun K "count_of" "count_of" oq f fd):FnOk P w K mg base CX0 1 f fd Eu (mj K):=by
 refine F.oj Ad ?_;rintro _ _ _ _ H _ Q _ _ _ _ hu ⟨d,m,h,rfl,h⟩;refine⟨_,(ax (aL (GZ hu (pv 0) (pv 1) aM ⟨rfl,rfl,rfl,rfl⟩))),?_⟩;obtain⟨hd,k⟩:=h;refine⟨_,rfl,d,rfl,.inl ⟨_,hd⟩,_,rfl,_,.inl ⟨_,GV h,hd,rfl,rfl⟩,?_⟩;show Q ((dP (dI m) (GV h:Key)).getD (.int 0)) H;rw[Kz];exact k
def iq(K:cw):Sp:=fun vs H Q _=>∃(a:dk) (xs:List V) (ms:List (List (Int×Int))),vs=[.ref a]/\SqL K H a xs/\Dcs H xs ms/\(∀m∈ms,Ck m)/\ms.length<=10/\
 ∀(H':Hp) (l:dk) (S:List Int),Same H H'->H' l=some (.lst (S.map V.int))->S.Nodup->(∀k,k∈S↔∃m∈ms,k∈m.map (·.1))->Q (.ref l) H'
abbrev t9:List pe:=["some"]
theorem sc_hands_among:FnScope ["some","hands","counts"] t9 (aw iY):=fsc
variable(cM:mg "list"=none)(Du:mg "set"=none)(dS:mg "sorted"=none)
include eV cM Du dS in
theorem t5(F:Fun K "hands_among" "hands_among" iY f fd):FnOk P w K mg base CX0 1 f fd t9 (iq K):=by
 refine F.oj sc_hands_among ?_;rintro _ _ _ _ H _ _ _ _ _ _ _ ⟨a,xs,ms,rfl,h⟩;refine⟨_,(ak (aY (i:=1) sc_hands_among.nd rfl (Ql rfl) (dN ae))
   (ak (vp Sh rfl (bx (K:=K) rfl (pv 0)) (bg (i:=2) sc_hands_among.nd rfl (Ql rfl))
   (ax (cH (pU QY V1 PySem.F.type_list_extend E6 (pv 1) (aa (bF (Bq rfl) (by rfl) cM Q5 (aa (pv 2) ae)) ae)))))
   (ax (aL (aQ (qw rfl) (by rfl) dS Sf (aa (bF (wH rfl) (by rfl) Du (show R8 "set"=some (.type "set") by decide +kernel) (aa (pv 1) ae)) ae)))))),?_⟩
 obtain⟨hS,dc,ck,l10,k⟩:=h;refine⟨Qt _,fun hl hhl=>?_⟩;have lx:xs.length=ms.length:=Qk dc;refine⟨_,rfl,a,rfl,⟨_,(aB hhl).seq hS⟩,lU (K:=K) (a:=a) (xs:=xs) (fun i σ H'=>∃v ns,σ=[some (.ref a),some (.ref hl),v]/\Same H H'/\H' hl=some (.lst (ns.map V.int))/\ns.length<=63*i/\∀k,k∈ns↔∃m∈ms.take i,k∈m.map (·.1))
  ⟨none,[],rfl,aB hhl,af,Qt _,fun k=>by simp⟩ (fun i σ H' _ ⟨_,_,_,sm,_⟩=>sm.seq hS) ?_ ?_⟩
 ·rintro i x σ H' hx ⟨v,ns,rfl,sm,hH,hlen,hm⟩;obtain⟨m,hmi,d,rfl,hd⟩:=Dcs.get dc hx;have hi:=(pk.mp hmi).1;have cm:=ck m (QA hmi);have lm:=cm.len;refine⟨_,rfl,.inl ⟨rfl,_,SqL.of hH⟩,_,rfl,d,m,rfl,bT sm hd,by omega,fun l hl2=>?_⟩;have nl:hl≠l:=ai hH hl2;refine⟨hl,l,_,_,rfl,rfl,by rw[aj nl];exact hH,af,?_,some (.ref d),ns++m.map (·.1),rfl,fun b o e=>?_,?_,?_,fun k=>?_⟩
  ·rw[gm,gm,gm];exact QG (aD (by omega))
  ·rw[aj (ai e hhl),aj (ai (sm b o e) hl2)];exact sm b o e
  ·rw[af,xt]
  ·rw[xp,gm];omega
  ·rw[aP hmi,Qw,hm k];constructor
   ·rintro(⟨m',q1,q2⟩|q)
    ·exact⟨m',Ro _ q1,q2⟩
    ·exact⟨m,Qi _ (by simp),q⟩
   ·rintro⟨m',q1,q2⟩;rcases Qw.mp q1 with z|z
    ·exact .inl ⟨m',z,q2⟩
    ·rw[tw.mp z]at q2;exact .inr q2
 rintro σ H' ⟨v,ns,rfl,sm,hH,hlen,hm⟩;rw[lx,Qq]at hm;refine⟨_,rfl,hl,ns,rfl,SqL.of hH,by omega,fun q ks hq nd mem=>?_⟩;have rg:∀k∈ks,0<=k/\k<63:=fun k hk=>by
  obtain⟨m,h1,h2⟩:=(hm k).mp ((mem k).mp hk);exact(ck m h1).keys k h2
 refine⟨q,ks,rfl,af,nd,jF nd rg,fun l S hl3 pm so=>?_⟩;refine k _ l S (sm.trans ((aB hq).trans (aB hl3))) af (pm.nodup_iff.mpr nd) fun j=>?_;rw[pm.mem_iff,mem j,hm j]
def qR(K:cw):Sp:=fun vs H Q _=>∃(d e:dk) (m n:List (Int×Int)),vs=[.ref d,.ref e]/\Rd H d (.dK (dI m))/\Rd H e (.dK (dI n))/\Ck m/\Ck n/\∀H',Same H H'->Q (.bl (cov m n)) H'
abbrev uW:List pe:=["one","other"]
theorem EY:FnScope ["one","other"] uW (aw uN):=fsc
variable{oT:dk}{jc:dk}{lP:xw}{gS:xw}(bN:FnOk P w K mg base CX0 1 oT lP Eu (mj K))(bp:Cal K mg "count_of" oT lP Eu)(fu:FnOk P w K mg base CX0 1 jc gS t9 (iq K))(de:Cal K mg "hands_among" jc gS t9)(wR:mg "all"=none)
include eV bN bp fu de wR in
theorem EF(F:Fun K "covers" "covers" uN f fd):FnOk P w K mg base CX0 2 f fd uW (qR K):=by
 refine F.oj EY ?_;rintro _ _ _ _ _ _ _ _ hr _ _ _ ⟨d,e,m,n,rfl,h⟩;refine⟨_,(ax (aL (aQ (yz rfl) (by rfl) wR Wa (aa (bV ["one","other","hand"] [some 0,some 1,none] rfl rfl (by kernel_rfl) (bx (K:=K) rfl (aT fu de hr (aa (dN (aa (pv 0) (aa (pv 1) ae))) ae))) (fun _ _ _ _ _ nd=>bg (i:=2) nd rfl (Ql rfl)) (fun _ _ _ _ _=>eJ) (fun _ _ _ _ _=>(gN y4 (aT bN bp hr (aa (pv 0) (aa (pv 2) ae))) (aT bN bp hr (aa (pv 1) (aa (pv 2) ae))) (bw _)))) ae)))),?_⟩;obtain⟨hd,he,cm,cn,k⟩:=h;refine⟨_,rfl,_,rfl,by show 2<=sizeLine;decide,fun l0 hl0=>?_⟩;have s0:=aB (o:=.lst [V.ref d,.ref e]) hl0;refine⟨l0,_,[m,n],rfl,SqL.of af,.cons ⟨d,rfl,bT s0 hd⟩ (.cons ⟨e,rfl,bT s0 he⟩ .nil),fun x hx=>?_,by show 2<=10;decide,fun H1 l S sm hl nd mem=>?_⟩
 ·rcases uc.mp hx with z|z
  ·rw[z];exact cm
  ·rw[tw.mp z];exact cn
 have s1:=s0.trans sm;have rg:∀j∈S,0<=j/\j<63:=fun j hj=>by
  rcases two.mp ((mem j).mp hj)with z|z
  ·exact cm.keys j z
  ·exact cn.keys j z
 have lS:=jF nd rg;refine⟨l,rfl,⟨_,SqL.of hl⟩,fun D hD=>?_⟩;refine bz (K:=K) (a:=l) (xs:=S.map V.int) (fun i σ H'=>∃v,σ=[some (.ref d),some (.ref e),v]/\Same H1 H'/\H' D=some (.lst (((S.take i).map fun j=>decide (ct n j<=ct m j)).map V.bl))) ⟨none,rfl,aB hD,af⟩ ?_ ?_ ?_
 ·rintro i σ H' _ ⟨_,_,q,_⟩;exact SqL.of (q _ _ hl)
 ·rintro i x σ H' hx ⟨v,rfl,q,hDx⟩;obtain⟨j,hj,rfl⟩:=iP hx;have hil:=(pk.mp hj).1;have s2:=s1.trans q;refine xB ⟨_,rfl,_,rfl,d,m,j,rfl,bT s2 hd,_,rfl,_,rfl,e,n,j,rfl,bT s2 he,_,_,rfl,rfl,_,hDx,?_,some (.int j),rfl,fun b o z=>?_,?_⟩
  ·rw[gm,gm,Q9];exact aD (by omega)
  ·rw[aj (ai z hD)];exact q b o z
  ·rw[af,aP hj,xt,xt];rfl
 rintro σ H' ⟨v,rfl,q,hDx⟩;rw[show S.take (S.map V.int).length=S by rw[gm,Qq]]at hDx;refine⟨D,_,rfl,SqL.of hDx,?_⟩;have ev:((S.map fun j=>decide (ct n j<=ct m j)).all fun b=>b)=cov m n:=by
  rw[Su,Jv cm cn,Vq];constructor
  ·intro h j;by_cases hj:j∈S
   ·exact of_decide_eq_true (h _ (QZ (f:=fun j=>decide (ct n j<=ct m j)) hj))
   ·rw[oN (fun z=>hj ((mem j).mpr (two.mpr (.inr z))))];exact cm.ct j
  ·intro h b hb;obtain⟨j,_,rfl⟩:=QE.mp hb;exact decide_eq_true (h j)
 rw[ev];exact k _ (s1.trans q)
def kQ(K:cw):Sp:=fun vs H Q _=>∃(a:dk) (xs:List V) (ps:List (Int×Int)),vs=[.ref a]/\(SqL K H a xs∨SqT K H a xs)/\Prs H xs ps/\ps.length<=1000/\(ps.map (·.1)).Nodup/\
 ∀(H':Hp) (d:dk),Same H H'->H d=none->H' d=some (.dK (dI (dJ ps)))->Q (.ref d) H'
abbrev ET:List pe:=["pairs"]
theorem Ax:FnScope ["pairs"] ET (aw ox):=fsc
variable(fR:mg "dict"=none)
include eV fR in
theorem y3(F:Fun K "unpacked" "unpacked" ox f fd):FnOk P w K mg base CX0 1 f fd ET (kQ K):=by
 refine F.oj Ax ?_;rintro _ _ _ _ H _ Q _ _ _ _ _ ⟨a,xs,ps,rfl,h⟩;refine⟨_,(ax (aL (bF (Bf rfl) (by rfl) fR RY (aa (bV ["hand","count"] [none,none] rfl rfl (by kernel_rfl) (Di (K:=K) rfl (pv 0)) (fun _ _ _ _ _ nd=>wZ (K:=K) (n:=2) rfl rfl (jr (bg (i:=0) nd rfl (Ql rfl)) (jr (bg (i:=1) nd rfl (Ql rfl)) yq))) (fun _ _ _ _ _=>(fF (bD IC (pv 1) aM (bw _)))) (fun _ _ _ _ _=>(cg (aa (pv 0) (aa (pv 1) ae))))) ae)))),?_⟩;obtain⟨hS,hp,hlen,nd,k⟩:=h;have lx:=hp.len
 -- one turn
 have turn:∀(D:dk) (_:H D=none) (i:Nat) (x:V) (σ:St) (H':Hp),xs[i]?=some x->(∃v v2 ys,σ=[v,v2]/\Same H H'/\H' D=some (.lst ys)/\ys.length<=i/\Prs H' ys (dJ (ps.take i)))->
   eR (Jg K 2 (Dz (uv 0) (Dz (uv 1) MS))) (FU (tOp (rI0 fun i j=>.bl (decide (j<i))) (DY 1) (tC (.int 0)))) (LL (um (DY 0) (um (DY 1) AD))) D
    (fun σ H'=>∃v v2 ys,σ=[v,v2]/\Same H H'/\H' D=some (.lst ys)/\ys.length<=i+ 1/\Prs H' ys (dJ (ps.take (i+ 1)))) x σ H':=by
  rintro D hD i x σ H' hx ⟨v,v2,ys,rfl,sm,hDx,ly,pr⟩;obtain⟨p,hpi,b,rfl,hb⟩:=hp.get hx;have hil:=(pk.mp hpi).1;refine⟨b,_,rfl,SqT.of (sm _ _ hb),rfl,_,_,rfl,_,_,rfl,rfl,_,rfl,_,_,rfl,rfl,_,rfl,dO (fun h=>?_) fun h=>?_⟩
  ·have h':0<p.2:=of_decide_eq_true h;refine⟨_,rfl,_,rfl,by show 2<=sizeLine;decide,fun q hq=>?_⟩;have nDq:D≠q:=ai hDx hq;refine⟨ys,by rw[aj nDq];exact hDx,aD (by omega),some (.int p.1),some (.int p.2),_,rfl,fun b o e=>?_,af,by rw[xp];exact Sl ly,?_⟩
   ·rw[aj (ai e hD),aj (ai (sm b o e) hq)];exact sm b o e
   ·rw[aP hpi,Kt h'];refine Prs.snoc (pr.mono fun a ys e=>?_) ⟨q,rfl,?_⟩
    ·rw[aj (cR e hDx (by intro z;cases z)),aj (ai e hq)];exact e
    ·rw[aj (QH nDq),af]
  ·have h':¬ 0<p.2:=fun z=>h (decide_eq_true z);refine⟨some (.int p.1),some (.int p.2),ys,rfl,sm,hDx,TZ ly,?_⟩;rw[aP hpi,Nd h'];exact pr
 have fin:∀(D:dk) (_:H D=none) (σ:St) (H':Hp),(∃v v2 ys,σ=[v,v2]/\Same H H'/\H' D=some (.lst ys)/\ys.length<=xs.length/\Prs H' ys (dJ (ps.take xs.length)))->
   ∃(a:dk) (ys:List V) (qs:List (Int×Int)),[V.ref D]=[.ref a]/\H' a=some (.lst ys)/\Prs H' ys qs/\(qs.map (·.1)).Nodup/\qs.length<=1000/\∀p,H' p=none->Q (.ref p) (upd H' p (.dK (dI qs))):=by
  rintro D hD σ H' ⟨v,v2,ys,rfl,sm,hDx,ly,pr⟩;rw[lx,Qq]at pr;refine⟨D,ys,dJ ps,rfl,hDx,pr,xv nd,QT (IE ps) hlen,fun p hp'=>?_⟩;exact k _ p (sm.trans (aB hp')) (sm.free hp') af
 rcases hS with hS|hS
 ·refine⟨_,rfl,a,rfl,.inl ⟨⟨_,hS⟩,fun D hD=>?_⟩⟩;exact bz (K:=K) (a:=a) (xs:=xs) (fun i σ H'=>∃v v2 ys,σ=[v,v2]/\Same H H'/\H' D=some (.lst ys)/\ys.length<=i/\Prs H' ys (dJ (ps.take i))) ⟨none,none,[],rfl,aB hD,af,oh _,.nil⟩
   (fun i σ H' _ ⟨_,_,_,_,sm,_⟩=>sm.seq hS) (turn D hD) (fin D hD)
 ·refine⟨_,rfl,a,rfl,.inr ⟨⟨_,hS⟩,fun D hD=>?_⟩⟩;exact Gf (K:=K) (a:=a) (xs:=xs) (fun i σ H'=>∃v v2 ys,σ=[v,v2]/\Same H H'/\H' D=some (.lst ys)/\ys.length<=i/\Prs H' ys (dJ (ps.take i))) ⟨none,none,[],rfl,aB hD,af,oh _,.nil⟩
   (fun i σ H' _ ⟨_,_,_,_,sm,_⟩=>Fs sm hS) (turn D hD) (fin D hD)
def qH(K:cw):Sp:=fun vs H Q _=>∃(d e:dk) (m n:List (Int×Int)),vs=[.ref d,.ref e]/\Rd H d (.dK (dI m))/\Rd H e (.dK (dI n))/\Ck m/\Ck n/\
 ∀(H':Hp) (p:dk) (j:List (Int×Int)),Same H H'->H p=none->H' p=some (.dK (dI j))->Td j->(∀k,Gh [m,n] k (ct j k))->Q (.ref p) H'
theorem DN:FnScope ["one","other"] uW (aw vm):=fsc
variable{oJ:dk}{md:xw}(uV:FnOk P w K mg base CX0 1 oJ md ET (kQ K))(fj:Cal K mg "unpacked" oJ md ET)(Le:mg "max"=none)
include eV bN bp fu de uV fj Le in
theorem EZ(F:Fun K "joined" "joined" vm f fd):FnOk P w K mg base CX0 2 f fd uW (qH K):=by
 refine F.oj DN ?_;rintro _ _ _ _ _ _ _ _ hr _ _ _ ⟨d,e,m,n,rfl,h⟩;refine⟨_,(ax (aL (aT uV fj hr (aa (bV ["one","other","hand"] [some 0,some 1,none] rfl rfl (by kernel_rfl) (bx (K:=K) rfl (aT fu de hr (aa (dN (aa (pv 0) (aa (pv 1) ae))) ae))) (fun _ _ _ _ _ nd=>bg (i:=2) nd rfl (Ql rfl)) (fun _ _ _ _ _=>eJ) (fun _ _ _ _ _=>(cg (aa (pv 2) (aa (aQ (Et rfl) (by rfl) Le YQ (aa (aT bN bp hr (aa (pv 0) (aa (pv 2) ae))) (aa (aT bN bp hr (aa (pv 1) (aa (pv 2) ae))) ae))) ae))))) ae)))),?_⟩;obtain⟨hd,he,cm,cn,k⟩:=h;refine⟨_,rfl,_,rfl,by show 2<=sizeLine;decide,fun l0 hl0=>?_⟩;have s0:=aB (o:=.lst [V.ref d,.ref e]) hl0;refine⟨l0,_,[m,n],rfl,SqL.of af,.cons ⟨d,rfl,bT s0 hd⟩ (.cons ⟨e,rfl,bT s0 he⟩ .nil),fun x hx=>?_,by show 2<=10;decide,fun H1 l S sm hl nd mem=>?_⟩
 ·rcases uc.mp hx with z|z
  ·rw[z];exact cm
  ·rw[tw.mp z];exact cn
 have s1:=s0.trans sm;have rg:∀j∈S,0<=j/\j<63:=fun j hj=>by
  rcases two.mp ((mem j).mp hj)with z|z
  ·exact cm.keys j z
  ·exact cn.keys j z
 have lS:=jF nd rg;refine⟨l,rfl,⟨_,SqL.of hl⟩,fun D hD=>?_⟩;refine bz (K:=K) (a:=l) (xs:=S.map V.int) (fun i σ H'=>∃v ys,σ=[some (.ref d),some (.ref e),v]/\Same H1 H'/\H' D=some (.lst ys)/\ys.length<=i/\Prs H' ys (prs (S.take i) fun j=>if ct n j>ct m j then ct n j else ct m j)) ⟨none,[],rfl,aB hD,af,oh _,.nil⟩ ?_ ?_ ?_
 ·rintro i σ H' _ ⟨_,_,_,q,_⟩;exact SqL.of (q _ _ hl)
 ·rintro i x σ H' hx ⟨v,ys,rfl,q,hDx,ly,pr⟩;obtain⟨j,hj,rfl⟩:=iP hx;have hil:=(pk.mp hj).1;have s2:=s1.trans q;refine xB ⟨_,rfl,_,rfl,_,rfl,d,m,j,rfl,bT s2 hd,_,rfl,_,rfl,e,n,j,rfl,bT s2 he,_,_,rfl,by show 2<=sizeLine;decide,fun p hp=>?_⟩;have nDp:D≠p:=ai hDx hp;refine⟨ys,by rw[aj nDp];exact hDx,aD (by omega),some (.int j),_,rfl,fun b o z=>?_,af,by rw[xp];exact Sl ly,?_⟩
  ·rw[aj (ai z hD),aj (ai (q b o z) hp)];exact q b o z
  ·rw[aP hj];show Prs _ _ (XB _ (_++[j]));rw[xt];refine Prs.snoc (pr.mono fun a ys z=>?_) ⟨p,rfl,?_⟩
   ·rw[aj (cR z hDx (by intro z;cases z)),aj (ai z hp)];exact z
   ·rw[aj (QH nDp),af]
 rintro σ H' ⟨v,ys,rfl,q,hDx,ly,pr⟩;rw[show S.take (S.map V.int).length=S by rw[gm,Qq]]at pr;refine⟨D,ys,_,rfl,.inl (SqL.of hDx),pr,?_,by rw[js];exact nd,fun H2 p sm2 hp0 hp=>?_⟩
 ·show(XB _ S).length<=1000;rw[gm];omega
 refine k _ p _ ((s1.trans q).trans sm2) ((s1.trans q).free hp0) hp (Fv nd rg) fun j=>?_;have mx:Gh [m,n] j (if ct n j>ct m j then ct n j else ct m j):=by
  by_cases z:ct n j>ct m j
  ·rw[if_pos z];refine⟨⟨n,by simp,rfl⟩,fun x hx=>?_⟩;rcases uc.mp hx with y|y
   ·rw[y];omega
   ·rw[tw.mp y];omega
  ·rw[if_neg z];refine⟨⟨m,by simp,rfl⟩,fun x hx=>?_⟩;rcases uc.mp hx with y|y
   ·rw[y];omega
   ·rw[tw.mp y];omega
 by_cases hj:j∈S
 ·rw[GP nd j hj (by have:=cm.ct j;have:=cn.ct j;split<;>omega)];exact mx
 ·have z1:ct m j=0:=oN fun z=>hj ((mem j).mpr (two.mpr (.inl z)));have z2:ct n j=0:=oN fun z=>hj ((mem j).mpr (two.mpr (.inr z)));rw[CL hj];rw[z1,z2]at mx;exact mx
def gW(K:cw):Sp:=fun vs H Q _=>∃(d a:dk),vs=[.ref d,.ref a]/\∃m n h c,Rd H d (.dK (dI m))/\SqT K H a [.int n,.int h,.int c]/\Q (.bl (decide (c<=ct m h))) H
abbrev EW:List pe:=["counts","name"]
theorem vk:FnScope ["counts","name"] EW (aw i9):=fsc
include eV bN bp in
theorem u9(F:Fun K "covers_name" "covers_name" i9 f fd):FnOk P w K mg base CX0 2 f fd EW (gW K):=by
 refine F.oj vk ?_;rintro _ _ _ _ _ _ _ _ hr _ _ _ ⟨d,a,rfl,h⟩;refine⟨_,(ax (aL (gN y4 (aT bN bp hr (aa (pv 0) (aa (fX (dX (K:=K) rfl) (pv 1) aM (fun _ _=>rfl)) ae))) (fX (dX (K:=K) rfl) (pv 1) aM (fun _ _=>rfl)) (bw _)))),?_⟩;obtain⟨m,n,h,c,hd,ha,k⟩:=h;clean_wf;refine⟨d,m,h,rfl,hd,?_⟩;clean_wf;exact k
def yM(K:cw)(v:V):Prop:=∃a,v=.ref a/\∀H,SqT K H a [.str "own",.str "heard",.str "one"]
def fg(K:cw):Sp:=fun vs H Q _=>∃(p:dk) (n c k w cs:V),vs=[.ref p,n,c,k,w,cs]/\∃C dx,TCall K C/\H p=some (.ins C dx [])/\∀H',But p H H'->H' p=some (.ins C dx (cfl n c k w cs))->Q .non H'
def fY(K:cw):Sp:=fun vs H Q _=>∃(p:dk) (n c k w cs:V),vs=[.ref p,n,c,k,w,cs]/\∃C dx,TCall K C/\H p=some (.ins C dx [])/\∀H' t,(∀b o,H b=some o->b≠p->H' b=some o)->H' t=some (.tup [])->H' p=some (.ins C dx (cfl n c k w (.ref t)))->Q .non H'
abbrev vb:List pe:=["self","number","caller","count","word","causes"]
theorem qV:FnScope ["self","number","caller","count","word","causes"] vb (aw fQ):=fsc
include eV in
theorem qK(F:Fun K "__init__" "Call.__init__" fQ f fd):FnOk P w K mg base CX0 1 f fd vb (fg K):=by
 refine F.oj qV ?_;rintro _ _ _ _ _ _ _ _ _ _ _ _ ⟨p,n,c,k,w,cs,rfl,h⟩;refine⟨_,(ak (bL (K:=K) rfl (pv 0) (pv 1) rfl)
   (ak (bL (K:=K) rfl (pv 0) (pv 2) rfl)
   (ak (bL (K:=K) rfl (pv 0) (pv 3) rfl)
   (ak (bL (K:=K) rfl (pv 0) (pv 4) rfl)
   (ax (bL (K:=K) rfl (pv 0) (pv 5) rfl)))))),?_⟩
 obtain⟨C,dx,⟨cl,n1,n2,n3,n4,n5⟩,hp,q⟩:=h;clean_wf;intro H1 b1 g1;clean_wf;intro H2 b2 g2;clean_wf;intro H3 b3 g3;clean_wf;intro H4 b4 g4;clean_wf;intro H5 b5 g5;rw[Jn]at g5;exact q _ (fun b h=>(b5 b h).trans ((b4 b h).trans ((b3 b h).trans ((b2 b h).trans (b1 b h))))) g5
theorem m6:FnScope ["self","number","caller","count","word","causes"] vb (aw d4):=fsc
variable{c6:dk}{oG:dk}{fq:xw}(j8:FnOk P w K mg base CX0 1 c6 fq vb (fg K))(c7:Binds K fq vb [])(Bw:TCall K oG)(yl:mg "Call"=some (.ref oG))(dF:ClsFn K oG "__init__" c6)
include eV j8 c7 Bw yl dF in
theorem m7(F:Fun K "__init__" "OwnCall.__init__" d4 f fd):FnOk P w K mg base CX0 2 f fd vb (fY K):=by
 refine F.oj m6 ?_;rintro _ _ _ _ _ _ _ _ hr _ _ _ ⟨p,n,c,k,w,cs,rfl,h⟩;refine⟨_,(ax (cH (HI rfl yl dF j8 c7 hr (aa (pv 0) (aa (pv 1) (aa (pv 2) (aa (pv 3) (aa (pv 4) (aa (cg ae) ae))))))))),?_⟩;obtain⟨C,dx,T,hp,q⟩:=h;clean_wf;intro t H1 ht s1 g1;clean_wf;refine⟨p,n,c,k,w,_,rfl,C,dx,T,s1 _ _ hp,fun H2 b2 g2=>?_⟩;clean_wf;exact q _ t (fun b o e hb=>b2.at hb (s1 _ _ e)) (b2.of (s1 _ _ hp) g1 (by intro z;cases z)) g2
def uR(K:cw):Sp:=fun vs H Q _=>∃(w:Int),vs=[.int w]/\Q (.bl (decide ((if w<0 then-w else w)<10^(60:Int).toNat))) H
def KdC(mg:pe->Option cT)(kd:pe)(C:dk):Prop:=(kd="own"/\mg "OwnCall"=some (.ref C))∨(kd="heard"/\mg "HeardCall"=some (.ref C))∨(kd="one"/\mg "OneCall"=some (.ref C))
def qr(K:cw)(mg:pe->Option cT):Sp:=fun vs H Q _=>∃(n c k:Int) (kd:pe) (w:Int) (t:dk),vs=[.int n,.int c,.int k,.str kd,.int w,.ref t]/\∃xs,(kd="own"∨kd="heard"∨kd="one")/\(if w<0 then-w else w)<10^(60:Int).toNat/\H t=some (.tup xs)/\
 ∀H' p C dx t',Same H H'->H p=none->KdC mg kd C->TCall K C->H' p=some (.ins C dx (cfl (.int n) (.int c) (.int k) (.int w) (.ref t')))->H' t'=some (.tup (if kd="own"then[]else xs))->Q (.ref p) H'
def sh(K:cw):Sp:=fun vs H Q _=>∃(w:Int),vs=[.int w]/\Q (.bl true) H
theorem yN:FnScope ["value"] ["value"] (aw ot):=fsc
variable(qG:mg "bool"=none)(uT:mg "int"=none)(aU:mg "isinstance"=none)
include eV qG uT aU in
theorem yD(F:Fun K "is_whole" "is_whole" ot f fd):FnOk P w K mg base CX0 1 f fd ["value"] (sh K):=by
 refine F.oj yN ?_;rintro _ _ _ _ _ _ _ _ _ _ _ _ ⟨w,rfl,h⟩;refine⟨_,(ax (aL (oR (aQ (bZ (K:=K) rfl) (by rfl) aU Qv (aa (pv 0) (aa (dE uT Uk) ae))) (lN (GU (aQ (bZ (K:=K) rfl) (by rfl) aU Qv (aa (pv 0) (aa (dE qG VU) ae)))))))),?_⟩;clean_wf;refine⟨_,_,_,true,rfl,.int _,(by kernel_rfl),?_⟩;clean_wf;refine⟨_,_,_,false,rfl,.int _,(by kernel_rfl),?_⟩;clean_wf;exact h
theorem AS:FnScope ["word"] ["word"] (aw ri):=fsc
variable{vh:dk}{rT:xw}(uz:FnOk P w K mg base CX0 1 vh rT ["value"] (sh K))(u7:Cal K mg "is_whole" vh rT ["value"])(KU:mg "abs"=none)
include eV uz u7 KU in
theorem BP(F:Fun K "is_word" "is_word" ri f fd):FnOk P w K mg base CX0 2 f fd ["word"] (uR K):=by
 refine F.oj AS ?_;rintro _ _ _ _ _ _ _ _ hr _ _ _ ⟨w,rfl,h⟩;refine⟨_,(ax (aL (oR (aT uz u7 hr (aa (pv 0) ae)) (lN (gN yK (aQ GW (by rfl) KU YR (aa (pv 0) ae)) (bH yg aM aM) (bw _)))))),?_⟩;clean_wf;refine⟨w,rfl,?_⟩;clean_wf;refine⟨_,rfl,?_⟩;clean_wf;exact h
abbrev GN:List pe:=["number","caller","count","kind","word","causes"]
theorem xk:FnScope ["number","caller","count","kind","word","causes"] GN (aw lK):=fsc
variable{ik:dk}{vR:dk}{aR:dk}{bf:dk}{bc:dk}{fW:xw}{tV:xw}{zG:V}{yF:cT}(d3:FnOk P w K mg base CX0 2 c6 fq vb (fg K))(hW:FnOk P w K mg base CX0 2 ik fW vb (fY K))(gZ:Binds K fW vb [])(v3:FnOk P w K mg base CX0 3 vR tV ["word"] (uR K))(wu:Cal K mg "is_word" vR tV ["word"])(au:TCall K aR)(az:TCall K bf)(ay:TCall K bc)(av:mg "HeardCall"=some (.ref aR))(aA:mg "OneCall"=some (.ref bf))(aC:mg "OwnCall"=some (.ref bc))(iI:Mk K aR c6)(mO:Mk K bf c6)(mN:Mk K bc ik)(pB:mg "KINDS"=some yF)(ql:RelV zG yF)(p9:yM K zG)
include eV d3 c7 hW gZ v3 wu au az ay av aA aC iI mO mN pB ql p9 in
theorem w8(F:Fun K "make_call" "make_call" lK f fd):FnOk P w K mg base CX0 4 f fd GN (qr K mg):=by
 refine F.oj xk ?_;rintro _ _ _ _ H _ _ _ hr hu64 _ _ ⟨n,c,k,kd,w,t,rfl,h⟩;refine⟨_,(ak (d7 (bD (JY (K:=K) rfl hu64) (pv 3) (Cp rfl pB ql) (by rfl)) (ax zE) bS)
   (ak (d7 (jR (br K rfl (aT v3 wu hr (aa (pv 4) ae)))) (ax zE) bS)
   (ak (d7 (bD wN (pv 3) eu (bw _)) (ax (aL (mR mN hW hr rfl aC gZ .nil nZ (aa (pv 0) (aa (pv 1) (aa (pv 2) (aa (pv 4) (aa (pv 5) ae)))))))) bS)
   (ak (d7 (bD wN (pv 3) eu (bw _)) (ax (aL (mR iI d3 hr rfl av c7 .nil nZ (aa (pv 0) (aa (pv 1) (aa (pv 2) (aa (pv 4) (aa (pv 5) ae)))))))) bS)
   (ax (aL (mR mO d3 hr rfl aA c7 .nil nZ (aa (pv 0) (aa (pv 1) (aa (pv 2) (aa (pv 4) (aa (pv 5) ae)))))))))))),?_⟩
 obtain⟨xs,hkd,hw,ht,q⟩:=h;obtain⟨aK,rfl,hK⟩:=p9;have hKH:=hK H;clean_wf;refine KD hkd hKH ?_;clean_wf;refine⟨w,rfl,?_⟩;clean_wf;rw[decide_eq_true hw];clean_wf;rcases hkd with rfl|rfl|rfl
 ·rw[Ob];clean_wf;intro p dx H1 hp s1 g1;refine⟨p,_,_,_,_,_,rfl,_,dx,ay,g1,fun H2 t' k2 g2 g3=>⟨rfl,?_⟩⟩;refine q _ p _ dx t' (fun b o e=>k2 _ _ (s1 _ _ e) (ai e hp)) hp (.inl ⟨rfl,aC⟩) ay g3 ?_;rw[if_pos rfl];exact g2
 ·rw[Px];clean_wf;rw[NU];clean_wf;intro p dx H1 hp s1 g1;refine⟨p,_,_,_,_,_,rfl,_,dx,au,g1,fun H2 b2 g2=>⟨rfl,?_⟩⟩;have s2:Same H H2:=fun b o e=>b2.at (ai e hp) (s1 _ _ e);refine q _ p _ dx t s2 hp (.inr (.inl ⟨rfl,av⟩)) au g2 ?_;rw[if_neg (by decide +kernel)];exact s2 _ _ ht
 ·rw[NY];clean_wf;rw[Ot];clean_wf;intro p dx H1 hp s1 g1;refine⟨p,_,_,_,_,_,rfl,_,dx,az,g1,fun H2 b2 g2=>⟨rfl,?_⟩⟩;have s2:Same H H2:=fun b o e=>b2.at (ai e hp) (s1 _ _ e);refine q _ p _ dx t s2 hp (.inr (.inr ⟨rfl,aA⟩)) az g2 ?_;rw[if_neg (by decide +kernel)];exact s2 _ _ ht
def fV(K:cw):Sp:=fun vs H Q _=>∃(p d:dk),vs=[.ref p,.ref d]/\∃C dx m n c k w cs,TCall K C/\H p=some (.ins C dx (cfl n (.int c) (.int k) w cs))/\Rd H d (.dK (dI m))/\Q (.bl (decide (ct m c=k-1))) H
def qg(K:cw)(mg:pe->Option cT):Sp:=fun vs H Q _=>∃(p d:dk),vs=[.ref p,.ref d]/\∃C dx m n c k w cs,mg "OwnCall"=some (.ref C)/\H p=some (.ins C dx (cfl n (.int c) (.int k) w cs))/\Rd H d (.dK (dI m))/\Q (.bl (decide (ct m c=k-1))) H
def iE(K:cw)(mg:pe->Option cT):Sp:=fun vs H Q _=>∃(p d:dk),vs=[.ref p,.ref d]/\∃C dx m n c k w t xs ps,(mg "HeardCall"=some (.ref C)∨mg "OneCall"=some (.ref C))/\H p=some (.ins C dx (cfl n (.int c) (.int k) w (.ref t)))/\Rd H d (.dK (dI m))/\H t=some (.tup xs)/\Prs H xs ps/\Ck m/\Ck ps/\∀H',Same H H'->Q (.bl (decide (ct m c=k-1)&&cov m (dJ ps))) H'
theorem Ms{ps:List (Int×Int)}(c:Ck ps):Ck (dJ ps):=⟨xv c.nd,fun p hp=>c.nn p ((QS.mp hp).1),fun p hp=>c.rg p ((QS.mp hp).1)⟩
abbrev oK:List pe:=["self","counts"]
theorem sR:FnScope ["self","counts"] oK (aw gP):=fsc
include eV bN bp in
theorem sW(F:Fun K "in_turn" "Call.in_turn" gP f fd):FnOk P w K mg base CX0 2 f fd oK (fV K):=by
 refine F.oj sR ?_;rintro _ _ _ _ _ _ _ _ hr _ _ _ ⟨p,d,rfl,h⟩;refine⟨_,(ax (aL (gN wN (aT bN bp hr (aa (pv 1) (aa (aF (K:=K) rfl (pv 0) rfl) ae))) (bH vn (aF (K:=K) rfl (pv 0) rfl) aM) (bw _)))),?_⟩;obtain⟨C,dx,m,n,c,k,w,cs,⟨cl,n1,n2,n3,n4,n5⟩,hp,hd,q⟩:=h;clean_wf;refine⟨d,m,c,rfl,hd,?_⟩;clean_wf;exact q
theorem xO:FnScope ["self","counts"] oK (aw l8):=fsc
variable{eO:dk}{ku:xw}(dj:FnOk P w K mg base CX0 2 eO ku oK (fV K))(dq:Binds K ku oK [])(cV:Meth K bc "in_turn" eO)
include eV dj dq ay aC cV in
theorem yi(F:Fun K "free" "Call.free" l8 f fd):FnOk P w K mg base CX0 3 f fd oK (qg K mg):=by
 refine F.oj xO ?_;rintro _ _ _ _ _ _ _ _ hr _ _ _ ⟨p,d,rfl,h⟩;refine⟨_,(ax (aL (dU (MOk.cons ay.cl cV dj dq MOk.nil) (pv 0) hr (aa (pv 1) ae)))),?_⟩;obtain⟨C,dx,m,n,c,k,w,cs,e,hp,hd,q⟩:=h;rw[aC]at e;cases e;clean_wf;exact⟨p,d,rfl,_,dx,m,n,c,k,w,cs,ay,hp,hd,q⟩
theorem pG:FnScope ["self","counts"] oK (aw fb):=fsc
variable{ze:dk}{wM:xw}(zK:FnOk P w K mg base CX0 2 ze wM uW (qR K))(zo:Cal K mg "covers" ze wM uW)(fG:FnOk P w K mg base CX0 2 oJ md ET (kQ K))(cJ:Meth K aR "in_turn" eO)(cY:Meth K bf "in_turn" eO)
include eV zK zo fG fj dj dq au az av aA cJ cY in
theorem qj(F:Fun K "free" "HeardCall.free" fb f fd):FnOk P w K mg base CX0 3 f fd oK (iE K mg):=by
 refine F.oj pG ?_;rintro _ _ _ _ H _ _ _ hr _ _ _ ⟨p,d,rfl,h⟩;refine⟨_,(ax (aL (oR (dU (MOk.cons au.cl cJ dj dq (MOk.cons az.cl cY dj dq MOk.nil)) (pv 0) hr (aa (pv 1) ae)) (lN (aT zK zo hr (aa (pv 1) (aa (aT fG fj hr (aa (aF (K:=K) rfl (pv 0) rfl) ae)) ae))))))),?_⟩;obtain⟨C,dx,m,n,c,k,w,t,xs,ps,e,hp,hd,ht,hx,cm,cp,q⟩:=h;have T:TCall K C:=by
  rcases e with e|e
  ·rw[av]at e;cases e;exact au
  ·rw[aA]at e;cases e;exact az
 have go:∀{Q':VK},(Q' (.bl (decide (ct m c=k-1))) H)->fV K [.ref p,.ref d] H Q' E0:=fun z=>⟨p,d,rfl,_,dx,m,n,c,k,w,_,T,hp,hd,z⟩;obtain⟨cl,n1,n2,n3,n4,n5⟩:=id T;have tail:∀{Q':VK},(∀H',Same H H'->Q' (.bl (cov m (dJ ps))) H')->∀e H1,Same H H1->H1 e=some (.dK (dI (dJ ps)))->qR K [.ref d,.ref e] H1 Q' E0:=fun z e H1 s1 g1=>⟨d,e,m,dJ ps,rfl,bT s1 hd,.inl g1,cm,Ms cp,fun H2 s2=>z _ (s1.trans s2)⟩;rcases e with e|e
 ·rw[av]at e;cases e;clean_wf;refine go ?_;clean_wf;refine dO (fun h1=>?_) fun h1=>?_
  ·clean_wf;refine⟨t,xs,ps,rfl,.inr (SqT.of ht),hx,by have:=cp.len;omega,cp.nd,fun H1 e1 s1 he1 g1=>?_⟩;clean_wf;refine tail (fun H2 s2=>?_) _ _ s1 g1;have:=q _ s2;rw[h1,Ww]at this;exact this
  ·have h1:=Sj.mpr h1;have:=q _ (Same.refl H);rw[h1,SH]at this;exact this
 ·rw[aA]at e;cases e;clean_wf;refine go ?_;clean_wf;refine dO (fun h1=>?_) fun h1=>?_
  ·clean_wf;refine⟨t,xs,ps,rfl,.inr (SqT.of ht),hx,by have:=cp.len;omega,cp.nd,fun H1 e1 s1 he1 g1=>?_⟩;clean_wf;refine tail (fun H2 s2=>?_) _ _ s1 g1;have:=q _ s2;rw[h1,Ww]at this;exact this
  ·have h1:=Sj.mpr h1;have:=q _ (Same.refl H);rw[h1,SH]at this;exact this
abbrev cvd(m:List (Int×Int))(p:Nm):Prop:=p.2.2<=ct m p.2.1
def i0(K:cw):Sp:=fun vs H Q _=>∃(a d:dk) (i:Nat),vs=[.ref a,.ref d,.int i]/\∃xs m ns,(SqL K H a xs∨SqT K H a xs)/\Rd H d (.dK (dI m))/\Nms H xs ns/\i<=ns.length/\(∀k (hk:k<ns.length),k<i->cvd m ns[k])/\
 ∀j:Nat,j<=ns.length->(∀k (hk:k<ns.length),k<j->cvd m ns[k])->(∀hj:j<ns.length,¬ cvd m ns[j])->Q (.int j) H
abbrev Eh:List pe:=["places","counts","start"]
theorem sc_first_open:FnScope ["places","counts","start","at"] Eh (aw jC):=fsc
variable{i4:dk}{hZ:xw}(fy:FnOk P w K mg base CX0 2 i4 hZ EW (gW K))(c9:Cal K mg "covers_name" i4 hZ EW)(d5:mg "len"=none)
include eV fy c9 d5 in
theorem vN(F:Fun K "first_open" "first_open" jC f fd):FnOk P w K mg base CX0 3 f fd Eh (i0 K):=by
 refine F.oj sc_first_open ?_;rintro _ _ _ _ H _ _ _ hr _ _ _ ⟨a,d,i,rfl,h⟩;refine⟨_,(ak (aY (i:=3) sc_first_open.nd rfl (Ql rfl) (pv 2))
   (ak (vg Sh (PW.pt (xJ (bD yK (pv 3) (aQ (dD (K:=K) rfl) (by rfl) d5 RG (aa (pv 0) ae)) (bw _)) (tf (br K rfl (aT fy c9 hr (aa (pv 1) (aa (fX (CZ (K:=K) rfl) (pv 0) (pv 3) (fun _ _=>rfl)) ae)))))))
   (ax (aY (i:=3) sc_first_open.nd rfl (Ql rfl) (bH jD (pv 3) aM))))
   (ax (aL (pv 3))))),?_⟩
 obtain⟨xs,m,ns,hS,hd,hn,hi,hc0,k⟩:=h;clean_wf;have hl:=hn.len;refine⟨fun M σ H'=>∃j:Nat,M=ns.length-j/\j<=ns.length/\σ=[some (.ref a),some (.ref d),some (.int i),some (.int j)]/\H'=H/\(∀k (hk:k<ns.length),k<j->cvd m ns[k]),⟨_,i,rfl,hi,rfl,rfl,hc0⟩,?_⟩;rintro M σ H' ⟨j,rfl,hj,rfl,rfl,hc⟩;clean_wf;refine dO (fun h1=>?_) fun h1=>?_
 ·have h1:(j:Int)<(xs.length:Nat):=of_decide_eq_true h1;have hj2:j<ns.length:=by omega
  obtain⟨x,hx,b,rfl,hb⟩:=hn.at hj2;have hat:atI xs (j:Int)=some (.ref b):=eD hx;clean_wf;refine⟨d,b,rfl,m,_,_,_,hd,SqT.of hb,?_⟩;clean_wf;refine dO (fun h2=>?_) fun h2=>?_
  ·have h2:cvd m ns[j]:=of_decide_eq_true h2;refine⟨_,fun _ _ z=>z,?_⟩;clean_wf;refine⟨ns.length-(j+ 1),by omega,j+ 1,rfl,hj2,rfl,rfl,fun k hk h=>?_⟩;rcases TB k j with z|z
   ·exact hc k hk z
   ·obtain rfl:k=j:=by omega
    exact h2
  ·have h2:¬ cvd m ns[j]:=fun z=>h2 (decide_eq_true z);clean_wf;exact k j hj hc fun _=>h2
 ·have h1:¬ (j:Int)<(xs.length:Nat):=fun z=>h1 (decide_eq_true z);clean_wf;exact k j hj hc fun z=>absurd z (by omega)
def oM(K:cw):Sp:=fun vs H Q _=>∃(a:dk) (i:Int),vs=[.ref a,.int i]/\∃xs,(SqL K H a xs∨SqT K H a xs)/\0<=i/\(∀v,xs[i.toNat]?=some v->Q v H)/\(xs.length<=i.toNat->Q .non H)
abbrev Iz:List pe:=["places","at"]
theorem BX:FnScope ["places","at"] Iz (aw qT):=fsc
include eV d5 in
theorem Cd(F:Fun K "name_at" "name_at" qT f fd):FnOk P w K mg base CX0 1 f fd Iz (oM K):=by
 refine F.oj BX ?_;rintro _ _ _ _ _ _ _ _ _ _ _ _ ⟨a,i,rfl,h⟩;refine⟨_,(ax (aL (uI (bD yK (pv 1) (aQ (dD (K:=K) rfl) (by rfl) d5 RG (aa (pv 0) ae)) (bw _)) (fX (CZ (K:=K) rfl) (pv 0) (pv 1) (fun _ _=>rfl)) oU))),?_⟩;obtain⟨xs,hS,hi,k1,k2⟩:=h;clean_wf;refine dO (fun h1=>?_) fun h1=>?_
 ·have h1:i<(xs.length:Nat):=of_decide_eq_true h1;have hx:i.toNat<xs.length:=by omega
  have hat:atI xs i=some xs[i.toNat]:=CO hi (xi hx);clean_wf;exact k1 _ (xi hx)
 ·have h1:¬ i<(xs.length:Nat):=fun z=>h1 (decide_eq_true z);clean_wf;exact k2 (by omega)
structure Cll where
 kd:pe
 n:Int
 c:Int
 k:Int
 w:Int
 cs:List (Int×Int)
variable{L:Int->Int->Option (V×Cll)}{cs co cq ch cd:List Cll}{q:V×Cll}{zs rw kp' row:List (V×Cll)}{n:Int}{c:Cll}{kd:pe}
def CllA(K:cw)(mg:pe->Option cT)(H:Hp)(v:V)(x:Cll):Prop:=∃p C dx t xs,v=.ref p/\KdC mg x.kd C/\TCall K C/\H p=some (.ins C dx (cfl (.int x.n) (.int x.c) (.int x.k) (.int x.w) (.ref t)))/\H t=some (.tup xs)/\Prs H xs x.cs/\Ck x.cs
def KpC(H H':Hp):Prop:=(∀p C dx fs,H p=some (.ins C dx fs)->H' p=some (.ins C dx fs))/\SmH H H'
theorem KpC.same(s:Same H H'):KpC H H':=⟨fun _ _ _ _ e=>s _ _ e,.same s⟩
theorem CllA.up(s:KpC H H'){x:Cll}(h:CllA K mg H v x):CllA K mg H' v x:=by
 obtain⟨p,C,dx,t,xs,e1,e2,e3,e4,e5,e6,e7⟩:=h;exact⟨p,C,dx,t,xs,e1,e2,e3,s.1 _ _ _ _ e4,s.2 _ _ e5,e6.mono s.2,e7⟩
def gz(K:cw):Sp:=fun vs H Q _=>∃(p:dk),vs=[.ref p]/\∃C dx n c k w cs,TCall K C/\H p=some (.ins C dx (cfl n c k w cs))/\∀H' t,Same H H'->H t=none->H' t=some (.tup [n,c,k])->Q (.ref t) H'
abbrev aJ:List pe:=["self"]
theorem yj:FnScope ["self"] aJ (aw kL):=fsc
include eV in
theorem xW(F:Fun K "name" "Call.name" kL f fd):FnOk P w K mg base CX0 1 f fd aJ (gz K):=by
 refine F.oj yj ?_;rintro _ _ _ _ _ _ _ _ _ _ _ _ ⟨p,rfl,h⟩;refine⟨_,(ax (aL (cg (aa (aF (K:=K) rfl (pv 0) rfl) (aa (aF (K:=K) rfl (pv 0) rfl) (aa (aF (K:=K) rfl (pv 0) rfl) ae)))))),?_⟩;obtain⟨C,dx,n,c,k,w,cs,⟨cl,n1,n2,n3,n4,n5⟩,hp,q⟩:=h;clean_wf;intro t H1 ht s1 g1;exact q H1 t s1 ht g1
def o8(K:cw):Sp:=fun vs H Q _=>∃(p:dk),vs=[.ref p]/\∃C dx n c k w cs,TCall K C/\H p=some (.ins C dx (cfl n c k w cs))/\∀H' t,Same H H'->H t=none->H' t=some (.tup [c,k])->Q (.ref t) H'
theorem xK:FnScope ["self"] aJ (aw kT):=fsc
include eV in
theorem xZ(F:Fun K "rank" "Call.rank" kT f fd):FnOk P w K mg base CX0 1 f fd aJ (o8 K):=by
 refine F.oj xK ?_;rintro _ _ _ _ _ _ _ _ _ _ _ _ ⟨p,rfl,h⟩;refine⟨_,(ax (aL (cg (aa (aF (K:=K) rfl (pv 0) rfl) (aa (aF (K:=K) rfl (pv 0) rfl) ae))))),?_⟩;obtain⟨C,dx,n,c,k,w,cs,⟨cl,n1,n2,n3,n4,n5⟩,hp,q⟩:=h;clean_wf;intro t H1 ht s1 g1;exact q H1 t s1 ht g1
def cS(K:cw):Sp:=fun vs H Q _=>∃(p:dk),vs=[.ref p]/\Q (.bl false) H
def cC(K:cw):Sp:=fun vs H Q _=>∃(p:dk),vs=[.ref p]/\Q (.bl true) H
theorem oy:FnScope ["self"] aJ (aw eW):=fsc
include eV in
theorem oF(F:Fun K "asks_place" "Call.asks_place" eW f fd):FnOk P w K mg base CX0 1 f fd aJ (cS K):=by
 refine F.oj oy ?_;rintro _ _ _ _ _ _ _ _ _ _ _ _ ⟨p,rfl,h⟩;refine⟨_,(ax (aL rN)),?_⟩;clean_wf;exact h
theorem kF:FnScope ["self"] aJ (aw dz):=fsc
include eV in
theorem kD(F:Fun K "asks_place" "OneCall.asks_place" dz f fd):FnOk P w K mg base CX0 1 f fd aJ (cC K):=by
 refine F.oj kF ?_;rintro _ _ _ _ _ _ _ _ _ _ _ _ ⟨p,rfl,h⟩;refine⟨_,(ax (aL rN)),?_⟩;clean_wf;exact h
def frb(m:List (Int×Int))(x:Cll):Bool:=decide (ct m x.c=x.k-1)&&(decide (x.kd="own")||cov m (dJ x.cs))
def tkb(m:List (Int×Int))(x:Cll)(o:Option Nm):Bool:=frb m x&&(!decide (x.kd="one")||decide (o=some (x.n,x.c,x.k)))
def NaV(H:Hp)(v:V):Option Nm->Prop
 |none=>v=.non
 |some q=>NmAt H v q
theorem NaV.up(s:SmH H H'){o:Option Nm}(h:NaV H v o):NaV H' v o:=by
 cases o with
 |none=>exact h
 |some q=>obtain⟨a,e1,e2⟩:=h;exact⟨a,e1,s _ _ e2⟩
def naD:Option Nm->Rp
 |none=>.none
 |some q=>nmD q
theorem OG{K:cw}{o:Option Nm}(h:NaV H v o):Dl K H v (naD o):=by
 cases o with
 |none=>obtain rfl:v=.non:=h;exact .inl .none
 |some q=>exact .inl (NmAt.dp h)
theorem MX(o:Option Nm):(naD o).canLay0=true:=by
 cases o with
 |none=>rfl
 |some q=>exact FZ q
theorem Mr(o:Option Nm):(naD o).depth<=60:=by
 cases o with
 |none=>show 0<=60;decide
 |some q=>show 1<=60;decide
theorem Oz(q r:Nm):(nmD q).eqv (nmD r)=decide (r=q):=by
 have e:(nmD q).eqv (nmD r)=(decide (q.1=r.1)&&(decide (q.2.1=r.2.1)&&(decide (q.2.2=r.2.2)&&true))):=by rfl
 rw[e];obtain⟨a,b,c⟩:=q;obtain⟨x,y,z⟩:=r;by_cases h:(x,y,z)=(a,b,c)
 ·cases h;simp
 ·rw[decide_eq_false h];simp at h⊢;intro h1 h2 h3;exact h h1.symm h2.symm h3.symm
theorem NN(q:Nm)(o:Option Nm):(nmD q).eqv (naD o)=decide (o=some q):=by
 cases o with
 |none=>rfl
 |some r=>
  show(nmD q).eqv (nmD r)=_;rw[Oz];by_cases z:r=q
  ·rw[z,decide_eq_true rfl,decide_eq_true rfl]
  ·rw[decide_eq_false z,decide_eq_false (fun w=>z (Qj w))]
def ou(K:cw)(mg:pe->Option cT):Sp:=fun vs H Q _=>∃(v:V),vs=[v]/\∃x,CllA K mg H v x/\∀H' t,Same H H'->H t=none->H' t=some (.tup [.int x.c,.int x.k])->Q (.ref t) H'
abbrev kW:List pe:=["call"]
theorem Bo:FnScope ["call"] kW (aw qE):=fsc
variable{iH:dk}{p7:xw}(iO:FnOk P w K mg base CX0 1 iH p7 aJ (o8 K))(iT:Binds K p7 aJ [])(dg:Meth K aR "rank" iH)(d0:Meth K bf "rank" iH)(dY:Meth K bc "rank" iH)
include eV iO iT au az ay av aA aC dg d0 dY in
theorem AY(F:Fun K "rank_of" "rank_of" qE f fd):FnOk P w K mg base CX0 2 f fd kW (ou K mg):=by
 refine F.oj Bo ?_;rintro _ _ _ _ _ _ _ _ hr _ _ _ ⟨v,rfl,h⟩;refine⟨_,(ax (aL (aX (MOk.cons ay.cl dY iO iT (MOk.cons au.cl dg iO iT (MOk.cons az.cl d0 iO iT MOk.nil))) (pv 0) hr))),?_⟩;obtain⟨x,⟨p,C,dx,t,xs,rfl,hk,hT,hp,ht,hx,hc⟩,kk⟩:=h;rcases hk with⟨_,e⟩|⟨_,e⟩|⟨_,e⟩
 ·rw[aC]at e;cases e;clean_wf;exact⟨p,rfl,_,dx,_,_,_,_,_,hT,hp,kk⟩
 ·rw[av]at e;cases e;clean_wf;exact⟨p,rfl,_,dx,_,_,_,_,_,hT,hp,kk⟩
 ·rw[aA]at e;cases e;clean_wf;exact⟨p,rfl,_,dx,_,_,_,_,_,hT,hp,kk⟩
theorem Oh:decide (("own":pe)="own")=true:=by decide +kernel
theorem Oj:decide (("heard":pe)="own")=false:=by decide +kernel
theorem Ie:decide (("one":pe)="own")=false:=by decide +kernel
theorem K5:decide (("own":pe)="one")=false:=by decide +kernel
theorem Ln:decide (("heard":pe)="one")=false:=by decide +kernel
theorem KS:decide (("one":pe)="one")=true:=by decide +kernel
def j6(K:cw)(mg:pe->Option cT):Sp:=fun vs H Q _=>∃(v:V) (d:dk) (y:V),vs=[v,.ref d,y]/\∃x m o,CllA K mg H v x/\Rd H d (.dK (dI m))/\Ck m/\NaV H y o/\∀H',Same H H'->Q (.bl (tkb m x o)) H'
abbrev Ag:List pe:=["call","counts","name"]
theorem sr:FnScope ["call","counts","name"] Ag (aw gX):=fsc
variable{rA:dk}{eY:dk}{d6:dk}{cF:dk}{cG:dk}{pX:xw}{iR:xw}{gj:xw}{cU:xw}{cD:xw}(iB:FnOk P w K mg base CX0 3 rA pX oK (qg K mg))(iS:Binds K pX oK [])(bY:FnOk P w K mg base CX0 3 eY iR oK (iE K mg))(bX:Binds K iR oK [])(iL:FnOk P w K mg base CX0 3 d6 gj aJ (gz K))(bE:Binds K gj aJ [])(bM:FnOk P w K mg base CX0 3 cF cU aJ (cS K))(aN:Binds K cU aJ [])(cK:FnOk P w K mg base CX0 3 cG cD aJ (cC K))(aW:Binds K cD aJ [])(aE:Meth K aR "asks_place" cF)(bB:Meth K aR "free" eY)(a7:Meth K aR "name" d6)(aG:Meth K bf "asks_place" cG)(bQ:Meth K bf "free" eY)(bj:Meth K bf "name" d6)(aH:Meth K bc "asks_place" cF)(bO:Meth K bc "free" rA)(bo:Meth K bc "name" d6)
include eV iB iS bY bX iL bE bM aN cK aW au az ay av aA aC aE bB a7 aG bQ bj aH bO bo in
theorem sO(F:Fun K "can_be_taken" "can_be_taken" gX f fd):FnOk P w K mg base CX0 4 f fd Ag (j6 K mg):=by
 refine F.oj sr ?_;rintro _ _ _ _ H _ _ _ hr hu64 _ _ ⟨v,d,y,rfl,h⟩;refine⟨_,(ax (aL (oR (dU (MOk.cons ay.cl bO iB iS (MOk.cons au.cl bB bY bX (MOk.cons az.cl bQ bY bX MOk.nil))) (pv 0) hr (aa (pv 1) ae)) (lN (NW (GU (aX (MOk.cons ay.cl aH bM aN (MOk.cons au.cl aE bM aN (MOk.cons az.cl aG cK aW MOk.nil))) (pv 0) hr)) (lN (gN (Ba (K:=K) rfl hu64) (aX (MOk.cons ay.cl bo iL bE (MOk.cons au.cl a7 iL bE (MOk.cons az.cl bj iL bE MOk.nil))) (pv 0) hr) (pv 2) (bw _)))))))),?_⟩;obtain⟨x,m,o,⟨p,C,dx,t,xs,rfl,hk,hT,hp,ht,hx,hc⟩,hd,cm,hy,kk⟩:=h;obtain⟨kd,n,c,k,w,cs⟩:=x;have hk:KdC mg kd C:=hk;have hp:H p=some (.ins C dx (cfl (.int n) (.int c) (.int k) (.int w) (.ref t))):=hp;have hx:Prs H xs cs:=hx;have hc:Ck cs:=hc;rcases hk with⟨rfl,e⟩|⟨rfl,e⟩|⟨rfl,e⟩
 ·have ev:tkb m ⟨"own",n,c,k,w,cs⟩ o=decide (ct m c=k-1):=by
   unfold tkb frb;rw[Oh,K5];simp
  rw[ev]at kk;rw[aC]at e;cases e;clean_wf;refine⟨p,d,rfl,_,dx,m,_,c,k,_,_,aC,hp,hd,?_⟩;clean_wf;refine dO (fun h1=>?_) fun h1=>?_
  ·clean_wf;refine⟨p,rfl,?_⟩;clean_wf;have:=kk H (.refl _);rw[h1]at this;exact this
  ·have h1:=Sj.mpr h1;have:=kk H (.refl _);rw[h1]at this;exact this
 ·have ev:tkb m ⟨"heard",n,c,k,w,cs⟩ o=(decide (ct m c=k-1)&&cov m (dJ cs)):=by
   unfold tkb frb;rw[Oj,Ln];simp
  rw[ev]at kk;rw[av]at e;cases e;clean_wf;refine⟨p,d,rfl,_,dx,m,_,c,k,_,t,xs,cs,.inl av,hp,hd,ht,hx,cm,hc,fun H1 s1=>?_⟩;have hp1:=s1 _ _ hp;clean_wf;refine dO (fun h1=>?_) fun h1=>?_
  ·clean_wf;refine⟨p,rfl,?_⟩;clean_wf;have:=kk H1 s1;rw[h1]at this;exact this
  ·have h1:=Sj.mpr h1;have:=kk H1 s1;rw[h1]at this;exact this
 ·have ev:tkb m ⟨"one",n,c,k,w,cs⟩ o=((decide (ct m c=k-1)&&cov m (dJ cs))&&decide (o=some (n,c,k))):=by
   unfold tkb frb;rw[Ie,KS];simp
  rw[ev]at kk;rw[aA]at e;cases e;clean_wf;refine⟨p,d,rfl,_,dx,m,_,c,k,_,t,xs,cs,.inr aA,hp,hd,ht,hx,cm,hc,fun H1 s1=>?_⟩;have hp1:=s1 _ _ hp;clean_wf;refine dO (fun h1=>?_) fun h1=>?_
  ·clean_wf;refine⟨p,rfl,?_⟩;clean_wf;refine⟨p,rfl,_,dx,_,_,_,_,_,hT,hp1,fun H2 u s2 hu2 g2=>?_⟩;clean_wf;refine⟨nmD (n,c,k),naD o,.inl (NmAt.dp ⟨u,rfl,g2⟩),OG (hy.up (.same (s1.trans s2))),FZ _,MX _,by have:=Mr o;omega,?_⟩;rw[NN];have:=kk H2 (s1.trans s2);rw[h1,Ww]at this;exact this
  ·have h1:=Sj.mpr h1;have:=kk H1 s1;rw[h1,SH]at this;exact this
theorem Jh{td ty:TE}{σ:St}(h:td σ H fun x H1=>∃a,x=.ref a/\IsD H1 a/\ty σ H1 fun y H2=>∃o,DGet H2 a y o/\Q (o.getD .non) H2):HZ td ty σ H Q:=h
structure RkA(K:cw)(mg:pe->Option cT)(H:Hp)(D:dk)(L:Int->Int->Option (V×Cll)):Prop where
 dc:∃kvs,H D=some (.dT kvs)/\∀a b,dP kvs [GV a,GV b]=(L a b).map (·.1)
 cl:∀a b v x,L a b=some (v,x)->CllA K mg H v x/\x.c=a/\x.k=b
theorem RkA.same{D:dk}(h:RkA K mg H D L)(s:Same H H'):RkA K mg H' D L:=by
 obtain⟨⟨kvs,e1,e2⟩,e3⟩:=h;exact⟨⟨kvs,s _ _ e1,e2⟩,fun a b v x e=>⟨(e3 a b v x e).1.up (.same s),(e3 a b v x e).2⟩⟩
def tk1(L:Int->Int->Option (V×Cll))(m:List (Int×Int))(o:Option Nm)(h:Int):Option (V×Cll):=(L h (ct m h+ 1)).bind fun q=>if tkb m q.2 o=true then some q else none
def fst(hs:List Int)(L:Int->Int->Option (V×Cll))(m:List (Int×Int))(o:Option Nm):Option (V×Cll):=hs.findSome? (tk1 L m o)
def fsv:Option (V×Cll)->V
 |none=>.non
 |some q=>q.1
def jy(K:cw)(mg:pe->Option cT):Sp:=fun vs H Q _=>∃(a D d:dk) (y:V),vs=[.ref a,.ref D,.ref d,y]/\∃hs L m o,SqL K H a (hs.map V.int)/\RkA K mg H D L/\Rd H d (.dK (dI m))/\Ck m/\NaV H y o/\∀H',Same H H'->Q (fsv (fst hs L m o)) H'
abbrev Az:List pe:=["callers","ranked","counts","name"]
theorem sc_first_to_take:FnScope ["callers","ranked","counts","name","caller","call"] Az (aw fT):=fsc
variable{lq:dk}{jZ:xw}(fK:FnOk P w K mg base CX0 4 oT lP Eu (mj K))(kH:FnOk P w K mg base CX0 4 lq jZ Ag (j6 K mg))(lT:Cal K mg "can_be_taken" lq jZ Ag)
include eV fK bp kH lT au az ay av aA aC in
theorem qB(F:Fun K "first_to_take" "first_to_take" fT f fd):FnOk P w K mg base CX0 5 f fd Az (jy K mg):=by
 refine F.oj sc_first_to_take ?_;rintro _ A _ _ H _ _ _ hr _ _ hu ⟨a,D,d,y,rfl,h⟩;refine⟨_,(ak (vp Sh rfl (bx (K:=K) rfl (pv 0)) (bg (i:=4) sc_first_to_take.nd rfl (Ql rfl))
   (ak (aY (i:=5) sc_first_to_take.nd rfl (Ql rfl) (Hb hu (pv 1) (cg (aa (pv 4) (aa (bH jD (aT fK bp hr (aa (pv 2) (aa (pv 4) ae))) aM) ae))) ⟨rfl,rfl,rfl,rfl⟩))
   (ax (d7 (PW.pt (xJ (bD xC (pv 5) oU (bw _)) (tf (br K rfl (aT kH lT hr (aa (pv 5) (aa (pv 2) (aa (pv 3) ae)))))))) (ax (aL (pv 5))) bS))))
   (ax (aL oU))),?_⟩
 obtain⟨hs,L,m,o,hS,R,hd,cm,hy,kk⟩:=h;refine qq ?_;clean_wf;refine lU (xs:=hs.map V.int) (fun i σ A=>∃v4 v5,σ=[some (.ref a),some (.ref D),some (.ref d),some y,v4,v5]/\Same H A/\(hs.take i).findSome? (tk1 L m o)=none) ⟨none,none,rfl,.refl _,rfl⟩ (fun i σ A _ z=>by obtain⟨_,_,_,z,_⟩:=z;exact z.seq hS) ?_ ?_
 ·rintro i x σ A hx ⟨v4,v5,rfl,sA,hn⟩;obtain⟨h,hh,rfl⟩:=iP hx;have RA:=R.same sA;have hdA:=bT sA hd;obtain⟨⟨kvs,gD,gv⟩,gc⟩:=id RA;have ff:fst hs L m o=((tk1 L m o h).or ((hs.drop (i+ 1)).findSome? (tk1 L m o))):=by
   unfold fst;have hi:=(pk.mp hh).1;have e:hs=hs.take i++(h::hs.drop (i+ 1)):=by
    conv=>lhs;rw[←List.take_append_drop i hs,List.drop_eq_getElem_cons hi,(pk.mp hh).2]
   conv=>lhs;rw[e,Ul,hn,TN,UB]
   cases tk1 L m o h<;>rfl
  refine qq ?_;clean_wf;refine Jh ?_;clean_wf;refine⟨D,rfl,.inr ⟨kvs,.inl gD⟩,?_⟩;clean_wf;refine⟨d,m,h,rfl,hdA,?_⟩;clean_wf;intro t A1 ht s1 g1;have gD1:=s1 _ _ gD;refine⟨_,DGet.t (k:=[GV h,GV (ct m h+ 1)]) gD1 g1,?_⟩;rw[gv];cases z:L h (ct m h+ 1)with
  |none=>
   have tn:tk1 L m o h=none:=by unfold tk1;rw[z];rfl
   rw[Option.map_none,Vj];clean_wf;rw[show decide (V.non=V.non)=true from decide_eq_true rfl];clean_wf;refine⟨_,_,rfl,sA.trans s1,?_⟩;rw[aP hh,Ul,hn,TN,UB,tn];rfl
  |some q=>
   obtain⟨v,x⟩:=q;have cx:=(gc _ _ _ _ z).1;obtain⟨p,C,dx,t',xs',ev,_⟩:=id cx;have cx1:=cx.up (.same s1);subst ev;rw[Sw,Xo];clean_wf;rw[show decide (V.ref p=V.non)=false from decide_eq_false (by intro z;cases z)];clean_wf;refine⟨.ref p,d,y,rfl,x,m,o,cx1,bT s1 hdA,cm,hy.up (.same (sA.trans s1)),fun A2 s2=>?_⟩;clean_wf;refine dO (fun h2=>?_) fun h2=>?_
   ·have ts:tk1 L m o h=some (.ref p,x):=by unfold tk1;rw[z];show(if tkb m x o=true then _ else _)=_;rw[if_pos h2]
    clean_wf;have:=kk A2 (sA.trans (s1.trans s2));rw[ff,ts]at this;exact this
   ·have tn:tk1 L m o h=none:=by unfold tk1;rw[z];show(if tkb m x o=true then _ else _)=_;rw[if_neg h2]
    refine⟨_,_,rfl,sA.trans (s1.trans s2),?_⟩;rw[aP hh,Ul,hn,TN,UB,tn];rfl
 rintro σ A ⟨v4,v5,rfl,sA,hn⟩;rw[show hs.take (hs.map V.int).length=hs by rw[gm,Qq]]at hn;clean_wf;have:=kk A sA;unfold fst at this;rw[hn]at this;exact this
def frl(hs:List Int)(l:Int):List Int:=(hs.filter fun h=>decide (l<=h))++hs.filter fun h=>decide (h<l)
def ka(K:cw):Sp:=fun vs H Q _=>∃(a:dk) (l:Int),vs=[.ref a,.int l]/\∃hs:List Int,SqL K H a (hs.map V.int)/\hs.length<=400/\∀H' q,Same H H'->H q=none->H' q=some (.lst ((frl hs l).map V.int))->Q (.ref q) H'
abbrev Aq:List pe:=["callers","last"]
theorem sv:FnScope ["callers","last"] Aq (aw ip):=fsc
include eV in
theorem sM(F:Fun K "callers_from" "callers_from" ip f fd):FnOk P w K mg base CX0 1 f fd Aq (ka K):=by
 refine F.oj sv ?_;rintro _ A _ _ H _ _ _ _ _ _ _ ⟨a,l,rfl,h⟩;refine⟨_,(ax (aL (bH q8 (bV ["last","caller"] [some 1,none] rfl rfl (by kernel_rfl) (bx (K:=K) rfl (pv 0)) (fun _ _ _ _ _ nd=>bg (i:=1) nd rfl (Ql rfl)) (fun _ _ _ _ _=>(fF (bD y4 (pv 1) (pv 0) (bw _)))) (fun _ _ _ _ _=>(pv 1))) (bV ["last","caller"] [some 1,none] rfl rfl (by kernel_rfl) (bx (K:=K) rfl (pv 0)) (fun _ _ _ _ _ nd=>bg (i:=1) nd rfl (Ql rfl)) (fun _ _ _ _ _=>(fF (bD yK (pv 1) (pv 0) (bw _)))) (fun _ _ _ _ _=>(pv 1)))))),?_⟩;obtain⟨hs,hS,lh,kk⟩:=h;clean_wf;intro D hD;refine bz (K:=K) (a:=a) (xs:=hs.map V.int) (fun i σ A=>∃v,σ=[some (.int l),v]/\Same H A/\A D=some (.lst (((hs.take i).filter fun h=>decide (l<=h)).map V.int))) ⟨none,rfl,aB hD,af⟩ ?_ ?_ ?_
 ·rintro i σ A _ ⟨_,_,z,_⟩;exact z.seq hS
 ·rintro i x σ A hx ⟨v,rfl,sA,gA⟩;obtain⟨h,hh,rfl⟩:=iP hx;have hi:=(pk.mp hh).1;have lf:=Qf (fun h=>decide (l<=h)) (hs.take i);have lt:=RW i hs;clean_wf;refine dO (fun h1=>?_) fun h1=>?_
  ·clean_wf;refine⟨_,gA,by rw[gm];exact aD (by omega),_,rfl,fun b o z=>?_,?_⟩
   ·rw[aj (ai z hD)];exact sA b o z
   ·rw[af,aP hh,Qm,xt];congr 2;simp at h1;simp[h1]
  ·refine⟨_,rfl,sA,?_⟩;rw[gA,aP hh,Qm,xt];congr 1;simp at h1;simp[h1]
 rintro σ A ⟨v,rfl,sA,gA⟩;rw[show hs.take (hs.map V.int).length=hs by rw[gm,Qq]]at gA;have hS1:=sA.seq hS;clean_wf;intro D2 hD2;refine bz (K:=K) (a:=a) (xs:=hs.map V.int) (fun i σ B=>∃v,σ=[some (.int l),v]/\Same A B/\B D2=some (.lst (((hs.take i).filter fun h=>decide (h<l)).map V.int))) ⟨none,rfl,aB hD2,af⟩ ?_ ?_ ?_
 ·rintro i σ B _ ⟨_,_,z,_⟩;exact z.seq hS1
 ·rintro i x σ B hx ⟨v,rfl,sB,gB⟩;obtain⟨h,hh,rfl⟩:=iP hx;have hi:=(pk.mp hh).1;have lf:=Qf (fun h=>decide (h<l)) (hs.take i);have lt:=RW i hs;clean_wf;refine dO (fun h1=>?_) fun h1=>?_
  ·clean_wf;refine⟨_,gB,by rw[gm];exact aD (by omega),_,rfl,fun b o z=>?_,?_⟩
   ·rw[aj (ai z hD2)];exact sB b o z
   ·rw[af,aP hh,Qm,xt];congr 2;simp at h1;simp[h1]
  ·refine⟨_,rfl,sB,?_⟩;rw[gB,aP hh,Qm,xt];congr 1;simp at h1;simp[h1]
 rintro σ B ⟨v,rfl,sB,gB⟩;rw[show hs.take (hs.map V.int).length=hs by rw[gm,Qq]]at gB;have l1:=Qf (fun h=>decide (l<=h)) hs;have l2:=Qf (fun h=>decide (h<l)) hs;refine we (sB _ _ gA) gB (by rw[gm,gm];omega) fun q B1 hq s1 g1=>?_;rw[←xt]at g1;exact kk B1 q (sA.trans (sB.trans s1)) ((sA.trans sB).free hq) g1
def nxo(ns:List Nm)(m:List (Int×Int)):Option Nm:=ns.find? fun p=>!decide (cvd m p)
theorem Hd{m:List (Int×Int)}:∀{ns:List Nm} {j:Nat},(∀k (hk:k<ns.length),k<j->cvd m ns[k])->(∀hj:j<ns.length,¬ cvd m ns[j])->j<=ns.length->nxo ns m=ns[j]?
 |[],j,_,_,_=>by simp[nxo]
 |p::ns,0,_,h,_=>by
  have:=h (by simp);unfold nxo;rw[T5 (by simpa using this)];rfl
 |p::ns,j+ 1,h1,h2,h3=>by
  have hp:=h1 0 (by simp) (by omega);have ih:=Hd (m:=m) (ns:=ns) (j:=j) (fun k hk hkj=>h1 (k+ 1) (XC hk) (by omega)) (fun hj=>h2 (XC hj)) (by simpa using h3);unfold nxo at ih⊢;rw[List.find?_cons_of_neg (by simpa using hp),ih];simp
def frm(hs:List Int):Option Int->List Int
 |none=>hs
 |some l=>frl hs l
def LkC(cs:List (V×Cll))(a b:Int):Option (V×Cll):=cs.reverse.find? fun q=>decide (q.2.c=a/\q.2.k=b)
inductive Fw (hs:List Int) (L:Int->Int->Option (V×Cll)) (ns:List Nm) (m0:List (Int×Int)):List (V×Cll)->Option Int->List (Int×Int)->Prop
 |start:Fw hs L ns m0 [] none m0
 |step {rw:List (V×Cll)} {last:Option Int} {m:List (Int×Int)} {v:V} {x:Cll}:Fw hs L ns m0 rw last m->fst (frm hs last) L m (nxo ns m)=some (v,x)->Fw hs L ns m0 (rw++[(v,x)]) (some x.c) (dh m x.c x.k)
theorem flt{α:Type}{p q:α->Bool}:∀{l:List α},(∀a∈l,q a=true->p a=true)->∀{x:α},x∈l->p x=true->q x=false->(l.filter q).length<(l.filter p).length
 |a::l,h,x,hx,px,qx=>by
  have hl:(l.filter q).length<=(l.filter p).length:=by
   have:∀(l':List α),(∀a∈l',q a=true->p a=true)->(l'.filter q).length<=(l'.filter p).length:=by
    intro l'
    induction l' with
    |nil=>intro _;exact oh _
    |cons b l' ih=>
     intro hb;have i:=ih fun a ha=>hb a (xj _ ha);have:=hb b xl;rw[Rb,Rb];cases z:q b
     ·cases w:p b<;>simp<;>omega
     ·rw[this z];simp;omega
   exact this l fun b hb=>h b (xj _ hb)
  rcases uc.mp hx with z|z
  ·rw[←z,Rb,Rb,px,qx];simp;omega
  ·have i:=flt (l:=l) (fun b hb=>h b (xj _ hb)) z px qx;have ha:=h a xl;rw[Rb,Rb];cases y:q a
   ·cases w:p a<;>simp<;>omega
   ·rw[ha y];simp;omega
def mz(cs:List Cll)(m:List (Int×Int)):Nat:=(cs.filter fun q=>decide (ct m q.c<q.k)).length
theorem K6{x:Cll}(hx:x∈cs)(hk:x.k=ct m x.c+ 1):mz cs (dh m x.c x.k)<mz cs m:=by
 unfold mz;refine flt (fun q _ h=>?_) hx (decide_eq_true (by omega)) (decide_eq_false ?_)
 ·have h:=of_decide_eq_true h;rw[qL]at h;refine decide_eq_true ?_;by_cases z:q.c=x.c
  ·rw[if_pos z]at h;rw[z];omega
  ·rw[if_neg z]at h;exact h
 ·rw[qL,if_pos rfl];omega
theorem sX{o:Option Nm}{x:Cll}(h:fst hs L m o=some (v,x)):∃h∈hs,L h (ct m h+ 1)=some (v,x)/\tkb m x o=true:=by
 unfold fst at h;obtain⟨h',hm,e⟩:=List.exists_of_findSome?_eq_some h;refine⟨h',hm,?_⟩;unfold tk1 at e;cases z:L h' (ct m h'+ 1)with
 |none=>rw[z]at e;cases e
 |some q=>
  rw[z]at e;have e:(if tkb m q.2 o=true then some q else none)=some (v,x):=e;by_cases w:tkb m q.2 o=true
  ·rw[if_pos w]at e;cases e;exact⟨rfl,w⟩
  ·rw[if_neg w]at e;cases e
theorem mW{cs:List (V×Cll)}{a b:Int}(h:LkC cs a b=some q):q∈cs/\q.2.c=a/\q.2.k=b:=by
 unfold LkC at h;have h1:=List.mem_of_find?_eq_some h;have h2:=List.find?_some h;have h2:=of_decide_eq_true h2;exact⟨XD.mp h1,h2⟩
theorem D7{k:List Key}:∀(ps:List (List Key×V)) (acc:List (List Key×V)),dP (ps.foldl (fun acc p=>putK acc p.1 p.2) acc) k=((ps.reverse.find? fun p=>decide (p.1=k)).map (·.2)).or (dP acc k):=by
 intro ps
 induction ps with
 |nil=>intro acc;rfl
 |cons p ps ih=>
  intro acc;rw[Sb,ih,Xd,Xh];cases z:ps.reverse.find? fun p=>decide (p.1=k)with
  |some q=>rfl
  |none=>
   rw[TN,Gu,Sv];by_cases w:k=p.1
   ·rw[if_pos w,decide_eq_true w.symm];rfl
   ·rw[if_neg w,decide_eq_false (fun u=>w u.symm)];rfl
abbrev xU(K:cw)(mg:pe->Option cT)(H:Hp):List V->List Cll->Prop:=Paired (CllA K mg H)
theorem mw(s:KpC H H'){vs:List V}(h:xU K mg H vs cs):xU K mg H' vs cs:=Paired.mapP h fun _ _ z=>z.up s
def rkp(q:V×Cll):List Key×V:=([GV q.2.c,GV q.2.k],q.1)
theorem Km(cs:List (V×Cll))(a b:Int):dP (hV (cs.map rkp)) [GV a,GV b]=(LkC cs a b).map (·.1):=by
 unfold hV;rw[D7];have e:(dP ([]:List (List Key×V)) [GV a,GV b])=none:=rfl;rw[e,Option.or_none,←List.map_reverse,List.find?_map,Yb];unfold LkC;have e2:((fun p:List Key×V=>decide (p.1=[GV a,GV b]))∘rkp)=fun q:V×Cll=>decide (q.2.c=a/\q.2.k=b):=by
  funext q;show decide (([GV q.2.c,GV q.2.k]:List Key)=[GV a,GV b])=_;congr 1;simp
 rw[e2];rfl
theorem xS(s:SmH H H')(h:AE H xs ps):AE H' xs ps:=Paired.mapP h fun _ _ ⟨a,b,e1,e2,e3⟩=>⟨a,b,e1,s _ _ e2,s _ _ e3⟩
theorem qP{H:Hp}:∀{xs:List V} {ps:List (List Key×V)} {x:V} {p:List Key×V},AE H xs ps->(∃a b,x=.ref a/\H a=some (.tup [.ref b,p.2])/\H b=some (.tup (p.1.map kV)))->AE H (xs++[x]) (ps++[p])
 |_,_,_,_,.nil,h=>.cons h .nil
 |_,_,_,_,.cons r t,h=>.cons r (qP t h)
theorem zC{α β:Type}:∀(l:List α) (m:List β) (i:Nat) {a:α} {b:β},l[i]?=some a->m[i]?=some b->(l.zip m).take (i+ 1)=(l.zip m).take i++[(a,b)]:=by
 intro l m i a b h1 h2;exact aP (by rw[Va];exact⟨h1,h2⟩)
theorem Em{n:List (Int×Int)}{k b:Int}(h:Gh [m,n] k b):b=max (ct m k) (ct n k):=by
 obtain⟨⟨q,hq,e⟩,u⟩:=h;have u1:=u m (by simp);have u2:=u n (by simp);simp at hq;rcases hq with z|z<;>rw[z]at e<;>omega
theorem oW{α β:Type}{F:α->β->Prop}:∀{l:List α} {m:List β} {q:α×β},Paired F l m->q∈l.zip m->F q.1 q.2
 |_,_,_,.nil,h=>by simp at h
 |_,_,q,.cons r t,h=>by
  rw[UN]at h;rcases uc.mp h with z|z
  ·rw[z];exact r
  ·exact oW t z
theorem Au{K:cw}(s:∀o,H b=some o->A b=some o)(h:SqL K H b xs∨SqT K H b xs):SqL K A b xs∨SqT K A b xs:=by
 rcases h with h|h
 ·refine .inl ?_;rcases h with(h|⟨z,h⟩)|h
  ·exact .inl (.inl (s _ h))
  ·exact .inl (.inr ⟨z,s _ h⟩)
  ·exact .inr h
 ·refine .inr ?_;rcases h with(h|⟨z,h⟩)|h
  ·exact .inl (.inl (s _ h))
  ·exact .inl (.inr ⟨z,s _ h⟩)
  ·exact .inr h
theorem FV{k v:Int}(t:Td m)(k0:0<=k)(k1:k<63)(hv:0<v):Td (dh m k v):=by
 refine⟨t.toCk.put k0 k1 (by omega),fun e he=>?_⟩;rcases pC _ _ _ _ he with z|z
 ·rw[z];exact hv
 ·exact t.ps e z
theorem zF{K:cw}{Q':VK}{j:Nat}(hP:SqL K A b xs∨SqT K A b xs)(hn:Nms A xs ns)(h1:j<=ns.length)(h2:∀k (hk:k<ns.length),k<j->cvd m ns[k])(h3:∀hj:j<ns.length,¬ cvd m ns[j])(q:∀y,NaV A y (nxo ns m)->Q' y A):oM K [.ref b,.int j] A Q' E0:=by
 have e:=Hd h2 h3 h1;refine⟨b,j,rfl,xs,hP,by omega,fun v hv=>q v ?_,fun hv=>q .non ?_⟩
 ·rw[Qp]at hv;obtain⟨p,hp,na⟩:=hn.get hv;rw[e,hp];exact na
 ·rw[Qp]at hv;have:=hn.len;rw[e,Sx (by omega)];rfl
def BY(K:cw)(mg:pe->Option cT):Sp:=fun vs H Q _=>∃(d a b:dk),vs=[.ref d,.ref a,.ref b]/\∃m ws cs xs ns,Rd H d (.dK (dI m))/\Ck m/\SqL K H a ws/\xU K mg H ws cs/\cs.length<=60/\(∀x∈cs,0<=x.c/\x.c<63)/\(SqL K H b xs∨SqT K H b xs)/\Nms H xs ns/\
 ∀H' t l r hs m0 rw last m',Same H H'->H l=none->H r=none->H' t=some (.tup [.ref l,.ref r])->H' l=some (.lst ((rw:List (V×Cll)).map (·.1)))->H' r=some (.dK (dI m'))->Td m'->hs.Pairwise (·<·)->(∀h,h∈hs↔∃x∈cs,x.c=h)->Td m0->(∀k,ct m0 k=ct m k)->Fw hs (LkC (ws.zip cs)) ns m0 rw last m'->fst (frm hs last) (LkC (ws.zip cs)) m' (nxo ns m')=none->Q (.ref t) H'
abbrev kU:List pe:=["counts","calls","places"]
theorem sc_run:FnScope ["counts","calls","places","reached","ranked","callers","row","at","call"] kU (aw FE):=fsc
variable{vf:dk}{jM:dk}{wG:dk}{qY:dk}{ke:dk}{lV:dk}{qX:xw}{je:xw}{uK:xw}{oC:xw}{ju:xw}{kq:xw}(zS:FnOk P w K mg base CX0 5 vf qX uW (qH K))(pS:Cal K mg "joined" vf qX uW)(jG:FnOk P w K mg base CX0 5 jM je Eh (i0 K))(eA:Cal K mg "first_open" jM je Eh)(qO:FnOk P w K mg base CX0 5 wG uK Iz (oM K))(qJ:Cal K mg "name_at" wG uK Iz)(vT:FnOk P w K mg base CX0 5 qY oC kW (ou K mg))(el:Cal K mg "rank_of" qY oC kW)(fS:FnOk P w K mg base CX0 5 ke ju Az (jy K mg))(fM:Cal K mg "first_to_take" ke ju Az)(lL:FnOk P w K mg base CX0 5 lV kq Aq (ka K))(kX:Cal K mg "callers_from" lV kq Aq)
include eV zS pS jG eA qO qJ vT el fS fM lL kX fR Du dS au az ay av aA aC in
theorem MC(F:Fun K "run" "run" FE f fd):FnOk P w K mg base CX0 6 f fd kU (BY K mg):=by
 refine F.oj sc_run ?_;rintro _ A _ _ H _ _ E hr hu64 _ hu ⟨d,a,b,rfl,h⟩;refine⟨_,(ak (aY (i:=3) sc_run.nd rfl (Ql rfl) (aT zS pS hr (aa (pv 0) (aa uY ae))))
   (ak (aY (i:=4) sc_run.nd rfl (Ql rfl) (bF (rC rfl (SW (Tj (by decide) _) hu64)) (by rfl) fR RY (aa (bV ["call"] [none] rfl rfl (by kernel_rfl) (bx (K:=K) rfl (pv 1)) (fun _ _ _ _ _ nd=>bg (i:=0) nd rfl (Ql rfl)) (fun _ _ _ _ _=>eJ) (fun _ _ _ _ _=>(cg (aa (aT vT el hr (aa (pv 0) ae)) (aa (pv 0) ae))))) ae)))
   (ak (aY (i:=5) sc_run.nd rfl (Ql rfl) (aQ (qw rfl) (by rfl) dS Sf (aa (bF (wH rfl) (by rfl) Du (show R8 "set"=some (.type "set") by decide +kernel) (aa (bV ["call"] [none] rfl rfl (by kernel_rfl) (bx (K:=K) rfl (pv 1)) (fun _ _ _ _ _ nd=>bg (i:=0) nd rfl (Ql rfl)) (fun _ _ _ _ _=>eJ) (fun _ _ _ _ _=>(aF (K:=K) rfl (pv 0) rfl))) ae)) ae)))
   (ak (aY (i:=6) sc_run.nd rfl (Ql rfl) (dN ae))
   (ak (aY (i:=7) sc_run.nd rfl (Ql rfl) (aT jG eA hr (aa (pv 2) (aa (pv 3) (aa aM ae)))))
   (ak (aY (i:=8) sc_run.nd rfl (Ql rfl) (aT fS fM hr (aa (pv 5) (aa (pv 4) (aa (pv 3) (aa (aT qO qJ hr (aa (pv 2) (aa (pv 7) ae))) ae))))))
   (ak (vg Sh (bD xC (pv 8) oU (bw _))
   (ak (cH (dw (K:=K) rfl (pU QY Q6 Rj dH (pv 6) (aa (pv 8) ae))))
   (ak (qt hu (pv 3) (aF (K:=K) rfl (pv 8) rfl) (aF (K:=K) rfl (pv 8) rfl) rfl)
   (ak (aY (i:=7) sc_run.nd rfl (Ql rfl) (aT jG eA hr (aa (pv 2) (aa (pv 3) (aa (pv 7) ae)))))
   (ax (aY (i:=8) sc_run.nd rfl (Ql rfl) (aT fS fM hr (aa (aT lL kX hr (aa (pv 5) (aa (aF (K:=K) rfl (pv 8) rfl) ae))) (aa (pv 4) (aa (pv 3) (aa (aT qO qJ hr (aa (pv 2) (aa (pv 7) ae))) ae)))))))))))
   (ax (aL (cg (aa (pv 6) (aa (pv 3) ae)))))))))))),?_⟩
 obtain⟨m,ws,cs,xs,ns,hd,cm,hS,hc,lc,rg,hP,hn,kk⟩:=h;have lw:ws.length=cs.length:=Qk hc;have lx:=hn.len;clean_wf;intro e0 H1 he0 s1 g1;clean_wf;refine⟨d,e0,m,[],rfl,bT s1 hd,.inl g1,cm,Ck.nil,fun H2 r m0 s2 hr g2 tm0 mx=>?_⟩;have ctm0:∀k,ct m0 k=ct m k:=fun k=>by
  have:=Em (mx k);have c0:=cm.ct k;have e:ct [] k=0:=rfl;rw[e]at this;omega
 have s02:=s1.trans s2;have hS2:=s02.seq hS;have hc2:=mw (.same s02) hc;clean_wf;intro E hE;refine bz (K:=K) (a:=a) (xs:=ws) (fun i σ A=>∃v ys,σ=[v]/\Same H2 A/\A E=some (.lst ys)/\ys.length=i/\AE A ys (((ws.zip cs).take i).map rkp)) ⟨none,[],rfl,aB hE,af,rfl,.nil⟩ ?_ ?_ ?_
 ·rintro i σ A _ ⟨_,_,_,z,_⟩;exact z.seq hS2
 ·rintro i x σ A hx ⟨v,ys,rfl,sA,gE,ly,pr⟩;obtain⟨y,hy,cy⟩:=c8 hc2 hx;have hi:=(pk.mp hy).1;clean_wf;refine⟨x,rfl,y,cy.up (.same sA),fun A1 t t1 ht g1'=>?_⟩;clean_wf;intro u A2 hu2 t2 g2';have gE2:=t2 _ _ (t1 _ _ gE);have kp:SmH A2 (upd A2 E (.lst (ys++[V.ref u]))):=SmH.lst gE2;refine⟨ys,gE2,aD (by omega),_,ys++[.ref u],rfl,fun b' o z=>?_,af,by rw[xp,ly];rfl,?_⟩
  ·rw[aj (ai z hE)];exact t2 _ _ (t1 _ _ (sA b' o z))
  ·rw[zC ws cs i hx hy,xt];exact qP (xS (fun a xs z=>kp _ _ (t2 _ _ (t1 _ _ z))) pr) ⟨u,t,rfl,kp _ _ g2',kp _ _ (t2 _ _ g1')⟩
 rintro σ H3 ⟨v,ys,rfl,s3,gE,ly,pr⟩;rw[show(ws.zip cs).take ws.length=ws.zip cs by rw[VV];rw[X4];omega]at pr;refine⟨E,ys,_,rfl,gE,pr,by have:=Qk pr;omega,fun D hD=>?_⟩;have s4:=aB (o:=.dT (hV ((ws.zip cs).map rkp))) hD;have gD:(upd H3 D (.dT (hV ((ws.zip cs).map rkp)))) D=some (.dT (hV ((ws.zip cs).map rkp))):=af;generalize upd H3 D (.dT (hV ((ws.zip cs).map rkp)))=H4 at s4 gD⊢;have s24:Same H2 H4:=s3.trans s4;have hc4:=mw (.same s24) hc2;have RK:RkA K mg H4 D (LkC (ws.zip cs)):=⟨⟨_,gD,Km _⟩,fun a b v x e=>by
  obtain⟨e1,e2,e3⟩:=mW e;exact⟨oW hc4 e1,e2,e3⟩⟩
 have hS4:=s24.seq hS2;clean_wf;intro E2 hE2;refine bz (K:=K) (a:=a) (xs:=ws) (fun i σ A=>∃v,σ=[v]/\Same H4 A/\A E2=some (.lst (((cs.take i).map (·.c)).map V.int))) ⟨none,rfl,aB hE2,af⟩ ?_ ?_ ?_
 ·rintro i σ A _ ⟨_,_,z,_⟩;exact z.seq hS4
 ·rintro i x σ A hx ⟨v,rfl,sA,gA⟩;obtain⟨y,hy,cy⟩:=c8 hc4 hx;have hi:=(pk.mp hy).1;obtain⟨p,C,dx,t,xs',rfl,hk,hT,hp,_⟩:=cy.up (.same sA);obtain⟨cl,n1,n2,n3,n4,n5⟩:=id hT;clean_wf;refine⟨_,gA,?_,_,rfl,fun b o z=>?_,?_⟩
  ·rw[gm,gm,Q9];exact aD (by omega)
  ·rw[aj (ai z hE2)];exact sA b o z
  ·rw[af,aP hy,xt,xt];rfl
 rintro σ H5 ⟨v,rfl,s5,gE2⟩;rw[lw,Qq]at gE2;refine⟨E2,cs.map (·.c),rfl,SqL.of gE2,by rw[gm];omega,fun q ks hq ndk mk=>?_⟩;refine⟨q,ks,rfl,af,ndk,?_,fun cl hs hcl pm so=>?_⟩
 ·exact jF ndk fun k hk=>by
   obtain⟨x,hx,e⟩:=QE.mp ((mk k).mp hk);rw[←e];exact rg x hx
 generalize Ia _ _ q ks=so' at hcl⊢;have s56:=aB (o:=so') hq;have s6:=aB (o:=.lst (hs.map V.int)) hcl;have g6:(upd (upd H5 q so') cl (.lst (hs.map V.int))) cl=some (.lst (hs.map V.int)):=af;generalize upd (upd H5 q so') cl (.lst (hs.map V.int))=H6 at s6 g6⊢;generalize upd H5 q so'=H5' at s56 s6 hcl;have s46:Same H4 H6:=s5.trans (s56.trans s6);have hsl:hs.Pairwise (·<·):=by
  have:=List.pairwise_and_iff.mpr ⟨so,pm.nodup_iff.mpr ndk⟩;exact this.imp fun h=>by omega
 have hsm:∀h,h∈hs↔∃x∈cs,x.c=h:=fun h=>by
  rw[pm.mem_iff,mk h];exact QE
 have lhs:hs.length<=400:=by
  have:hs.length<64:=jF (pm.nodup_iff.mpr ndk) fun k hk=>by
   obtain⟨x,hx,e⟩:=(hsm k).mp hk;rw[←e];exact rg x hx
  omega
 clean_wf;intro l H7 hl s7 g7;have s27:Same H2 H7:=s24.trans (s46.trans s7);have s07:=s02.trans s27;have gr7:=s27 _ _ g2;have hP7:SqL K H7 b xs∨SqT K H7 b xs:=Au (fun o e=>s07 _ _ e) hP;have hn7:Nms H7 xs ns:=hn.up (.same s07);have gc7:=s7 _ _ g6;have RK7:=RK.same (s46.trans s7);have nlr:l≠r:=fun z=>by rw[z,(s24.trans s46) _ _ g2]at hl;cases hl
 have ncl:cl≠l:=fun z=>by rw[←z,g6]at hl;cases hl
 clean_wf;refine⟨b,r,0,rfl,xs,m0,ns,hP7,.inl gr7,hn7,Qt _,fun k _ h=>absurd h (Uv _),fun j j1 j2 j3=>?_⟩;clean_wf;refine zF hP7 hn7 j1 j2 j3 fun y hy=>?_;clean_wf;refine⟨cl,D,r,y,rfl,hs,_,m0,nxo ns m0,SqL.of gc7,RK7,.inl gr7,tm0.toCk,hy,fun H8 s8=>?_⟩;have hl8:=s8 _ _ g7;have gr8:=s8 _ _ gr7;have gc8:=s8 _ _ gc7;have RK8:=RK7.same s8;have hP8:SqL K H8 b xs∨SqT K H8 b xs:=Au (fun o e=>s8 _ _ e) hP7;have hn8:Nms H8 xs ns:=hn7.up (.same s8);have s08:=s07.trans s8;have frl:H l=none:=(s02.trans (s24.trans s46)).free hl;have frr:H r=none:=s1.free hr;have bl:∀o,H8 b=some o->(SqL K H b xs∨SqT K H b xs)->True:=fun _ _ _=>trivial;clean_wf;refine⟨fun M σ A=>∃rw last mm j,M=mz cs mm/\σ=[some (.ref d),some (.ref a),some (.ref b),some (.ref r),some (.ref D),some (.ref cl),some (.ref l),some (.int (j:Nat)),some (fsv (fst (frm hs last) (LkC (ws.zip cs)) mm (nxo ns mm)))]/\(∀x o,H8 x=some o->x≠l->x≠r->A x=some o)/\A l=some (.lst ((rw:List (V×Cll)).map (·.1)))/\A r=some (.dK (dI mm))/\Td mm/\Fw hs (LkC (ws.zip cs)) ns m0 rw last mm/\j<=ns.length/\(∀k (hk:k<ns.length),k<j->cvd mm ns[k])/\rw.length+ mz cs mm<=60,⟨_,[],none,m0,j,rfl,rfl,fun x o e _ _=>e,hl8,gr8,tm0,.start,j1,j2,?_⟩,?_⟩
 ·have:=Qf (fun q:Cll=>decide (ct m0 q.c<q.k)) cs;unfold mz;rw[Sa];omega
 rintro M σ A ⟨rw',last,mm,j',rfl,rfl,kA,gl,gr,tmm,fw,q1,q2,q3⟩;have nbl:∀{x:dk} {o:HO},H8 x=some o->(∀ys,o≠.lst ys)->(∀kvs,o≠.dK kvs)->A x=some o:=fun e n1 n2=>kA _ _ e (fun z=>by rw[z,hl8]at e;cases e;exact n1 _ rfl) (fun z=>by rw[z,gr8]at e;cases e;exact n2 _ rfl);have kpc:KpC H8 A:=⟨fun p C dx fs e=>nbl e (by intro _ z;cases z) (by intro _ z;cases z),fun a xs e=>nbl e (by intro _ z;cases z) (by intro _ z;cases z)⟩;have hPA:SqL K A b xs∨SqT K A b xs:=by
  refine Au (fun o e=>?_) hP;exact kA _ _ (s08 _ _ e) (fun z=>by rw[z,frl]at e;cases e) (fun z=>by rw[z,frr]at e;cases e)
 have hnA:Nms A xs ns:=hn8.up kpc.2;have gcA:=kA _ _ gc8 ncl (fun z=>by rw[z,gr8]at gc8;cases gc8);have RKA:RkA K mg A D (LkC (ws.zip cs)):=by
  obtain⟨⟨kvs,e1,e2⟩,e3⟩:=RK8;exact⟨⟨kvs,nbl e1 (by intro _ z;cases z) (by intro _ z;cases z),e2⟩,fun a b v x e=>⟨(e3 a b v x e).1.up kpc,(e3 a b v x e).2⟩⟩
 cases z:fst (frm hs last) (LkC (ws.zip cs)) mm (nxo ns mm)with
 |none=>
  clean_wf;rw[show decide (fsv none=V.non)=true from decide_eq_true rfl];clean_wf;intro t A1 ht s9 g9;refine kk A1 t l r hs m0 rw' last mm (fun x o e=>s9 _ _ (kA _ _ (s08 _ _ e) (fun z=>by rw[z,frl]at e;cases e) (fun z=>by rw[z,frr]at e;cases e))) frl frr g9 (s9 _ _ gl) (s9 _ _ gr) tmm hsl hsm tm0 ctm0 fw z
 |some q=>
  obtain⟨v,x⟩:=q;obtain⟨hh,hhm,eL,tk⟩:=sX z;obtain⟨cx,ec,ek⟩:=RKA.cl _ _ _ _ eL;obtain⟨p,C,dx,t,xs',rfl,hk,hT,hp,ht,hpx,hcs⟩:=id cx;obtain⟨cl',n1,n2,n3,n4,n5⟩:=id hT;have xm:x∈cs:=by
   have:=(mW eL).1;exact(SV this).2
  have xr:=rg x xm;have ek':x.k=ct mm x.c+ 1:=by rw[ek,ec]
  have kp0:0<x.k:=by have:=tmm.toCk.ct x.c;omega
  have ml:=K6 xm ek';rw[show fsv (some (V.ref p,x))=V.ref p from rfl];clean_wf;rw[show decide (V.ref p=V.non)=false from decide_eq_false (by intro z;cases z)];refine dO (fun _=>?_) fun z=>absurd rfl z;refine⟨_,fun _ _ z=>z,?_⟩;have ls:(rw'.map (·.1)).length<sizeLine:=aD (by rw[gm];omega);clean_wf;intro A1 b1 g1';have hp1:=b1.of gl hp (by intro z;cases z);have gr1:=b1.at nlr.symm gr;have nd:=tmm.nd;have lm:=tmm.toCk.len;clean_wf;intro A2 b2 g2';have fr2:∀x o,H8 x=some o->x≠l->x≠r->A2 x=some o:=fun x o e n1 n2=>b2.at n2 (b1.at n1 (kA x o e n1 n2));have nbl2:∀{x:dk} {o:HO},A x=some o->(∀ys,o≠.lst ys)->(∀kvs,o≠.dK kvs)->A2 x=some o:=fun e n1 n2=>b2.at (fun z=>by rw[z,gr]at e;cases e;exact n2 _ rfl) (b1.at (fun z=>by rw[z,gl]at e;cases e;exact n1 _ rfl) e);have kpc2:KpC A A2:=⟨fun p C dx fs e=>nbl2 e (by intro _ z;cases z) (by intro _ z;cases z),fun a xs e=>nbl2 e (by intro _ z;cases z) (by intro _ z;cases z)⟩;have hPA2:SqL K A2 b xs∨SqT K A2 b xs:=by
   refine Au (fun o e=>?_) hP;exact fr2 _ _ (s08 _ _ e) (fun z=>by rw[z,frl]at e;cases e) (fun z=>by rw[z,frr]at e;cases e)
  have hnA2:Nms A2 xs ns:=hnA.up kpc2.2;have gcA2:=fr2 _ _ gc8 ncl (fun z=>by rw[z,gr8]at gc8;cases gc8);have hp2:=kpc2.1 _ _ _ _ hp;have RKA2:RkA K mg A2 D (LkC (ws.zip cs)):=by
   obtain⟨⟨kvs,e1,e2⟩,e3⟩:=RKA;exact⟨⟨kvs,nbl2 e1 (by intro _ z;cases z) (by intro _ z;cases z),e2⟩,fun a b v x e=>⟨(e3 a b v x e).1.up kpc2,(e3 a b v x e).2⟩⟩
  have tm2:=FV tmm xr.1 xr.2 kp0;have mono:∀k,ct mm k<=ct (dh mm x.c x.k) k:=fun k=>by
   rw[qL];by_cases w:k=x.c
   ·rw[if_pos w,w];omega
   ·rw[if_neg w];exact R6 _
  clean_wf;refine⟨b,r,j',rfl,xs,dh mm x.c x.k,ns,hPA2,.inl g2',hnA2,q1,fun k hk h=>WQ (q2 k hk h) (mono _),fun j2 a1 a2 a3=>?_⟩;clean_wf;refine⟨cl,x.c,rfl,hs,SqL.of gcA2,lhs,fun A3 cf s3' hcf g3'=>?_⟩;clean_wf;refine zF (Au (fun o e=>s3' _ _ e) hPA2) (hnA2.up (.same s3')) a1 a2 a3 fun y hy=>?_;clean_wf;refine⟨cf,D,r,y,rfl,_,_,dh mm x.c x.k,nxo ns (dh mm x.c x.k),SqL.of g3',RKA2.same s3',.inl (s3' _ _ g2'),tm2.toCk,hy,fun A4 s4'=>?_⟩;refine⟨mz cs (dh mm x.c x.k),ml,rw'++[(.ref p,x)],some x.c,dh mm x.c x.k,j2,rfl,rfl,fun x o e n1 n2=>s4' _ _ (s3' _ _ (fr2 x o e n1 n2)),?_,s4' _ _ (s3' _ _ g2'),tm2,.step fw z,a1,a2,?_⟩
  ·rw[xt];exact s4' _ _ (s3' _ _ (b2.at nlr g1'))
  ·rw[xp];show rw'.length+ 1+ _<=60;omega
def fN(m:List (Int×Int))(x:Cll):Bool:=decide (x.kd="one")&&frb m x
def LaR(zs:List (V×Cll))(m:List (Int×Int)):Option (V×Cll)->Prop
 |none=>∀q∈zs,fN m q.2=false
 |some q=>q∈zs/\fN m q.2=true/\∀q'∈zs,fN m q'.2=true->HT.lexLt [q'.2.c,q'.2.k] [q.2.c,q.2.k]=false
def kz(K:cw)(mg:pe->Option cT):Sp:=fun vs H Q _=>∃(a d:dk),vs=[.ref a,.ref d]/\∃ws cs m,SqL K H a ws/\xU K mg H ws cs/\cs.length<=60/\Rd H d (.dK (dI m))/\Ck m/\∀H' o,Same H H'->LaR (ws.zip cs) m o->Q (fsv o) H'
abbrev zY:List pe:=["calls","counts"]
theorem sj:FnScope ["calls","counts"] zY (aw gU):=fsc
variable(f6:FnOk P w K mg base CX0 2 qY oC kW (ou K mg))(rH:mg "min"=none)
include eV iB iS bY bX bM aN cK aW f6 el rH au az ay av aA aC aE bB aG bQ aH bO in
theorem sL(F:Fun K "least_asking" "least_asking" gU f fd):FnOk P w K mg base CX0 4 f fd zY (kz K mg):=by
 refine F.oj sj ?_;rintro _ A _ _ H _ _ E hr hu64 _ _ ⟨a,d,rfl,h⟩;refine⟨_,(ax (aL (EL (K:=K) rfl rfl (SW (Tj (by decide) _) hu64) (aa (bV ["counts","call"] [some 1,none] rfl rfl (by kernel_rfl) (bx (K:=K) rfl (pv 0)) (fun _ _ _ _ _ nd=>bg (i:=1) nd rfl (Ql rfl)) (fun _ _ _ _ _=>(fF (PW.pt (xJ (br K rfl (aX (MOk.cons ay.cl aH bM aN (MOk.cons au.cl aE bM aN (MOk.cons az.cl aG cK aW MOk.nil))) (pv 1) hr)) (tf (br K rfl (dU (MOk.cons ay.cl bO iB iS (MOk.cons au.cl bB bY bX (MOk.cons az.cl bQ bY bX MOk.nil))) (pv 1) hr (aa (pv 0) ae)))))))) (fun _ _ _ _ _=>(pv 1))) ae) oU (by rfl) rH f6 el.mg el.bd (by rfl) hr))),?_⟩;obtain⟨ws,cs,m,hS,hc,lc,hd,cm,kk⟩:=h;have lw:ws.length=cs.length:=Qk hc;clean_wf;intro E hE;refine bz (K:=K) (a:=a) (xs:=ws) (fun i σ A=>∃v zs,σ=[some (.ref d),v]/\Same H A/\A E=some (.lst ((zs:List (V×Cll)).map (·.1)))/\zs=((ws.zip cs).take i).filter fun q=>fN m q.2) ⟨none,[],rfl,aB hE,af,rfl⟩ ?_ ?_ ?_
 ·rintro i σ A _ ⟨_,_,_,z,_⟩;exact z.seq hS
 ·rintro i v σ A hx ⟨v0,zs,rfl,sA,gE,ez⟩;obtain⟨x,hy,cy⟩:=c8 hc hx;have hi:=(pk.mp hy).1;have tk:=zC ws cs i hx hy;have lz:zs.length<=i:=by
   rw[ez];exact QT (Qf _ _) (RW _ _)
  have hdA:=bT sA hd;have yes:fN m x=true->zs++[(v,x)]=((ws.zip cs).take (i+ 1)).filter fun q=>fN m q.2:=fun w=>by
   rw[tk,Qm,←ez];simp[w]
  have no:fN m x=false->zs=((ws.zip cs).take (i+ 1)).filter fun q=>fN m q.2:=fun w=>by
   rw[tk,Qm,←ez];simp[w]
  obtain⟨p,C,dx,t,xs',rfl,hk,hT,hp,ht,hpx,hcs⟩:=cy.up (.same sA);obtain⟨kd,n,c,k,w,css⟩:=x;have hk:KdC mg kd C:=hk;have hp:A p=some (.ins C dx (cfl (.int n) (.int c) (.int k) (.int w) (.ref t))):=hp;have hpx:Prs A xs' css:=hpx;have hcs:Ck css:=hcs;rcases hk with⟨rfl,e⟩|⟨rfl,e⟩|⟨rfl,e⟩
  ·rw[aC]at e;cases e;clean_wf;refine⟨p,rfl,?_⟩;clean_wf;exact⟨_,zs,rfl,sA,gE,no (by unfold fN;rw[K5];rfl)⟩
  ·rw[av]at e;cases e;clean_wf;refine⟨p,rfl,?_⟩;clean_wf;exact⟨_,zs,rfl,sA,gE,no (by unfold fN;rw[Ln];rfl)⟩
  ·have ev:fN m ⟨"one",n,c,k,w,css⟩=(decide (ct m c=k-1)&&cov m (dJ css)):=by
    unfold fN frb;rw[Ie,KS];simp
   rw[aA]at e;cases e;clean_wf;refine⟨p,rfl,?_⟩;clean_wf;refine⟨p,d,rfl,_,dx,m,_,c,k,_,t,xs',css,.inr aA,hp,hdA,ht,hpx,cm,hcs,fun A1 s1=>?_⟩;clean_wf;refine dO (fun h1=>?_) fun h1=>?_
   ·have gE1:=s1 _ _ gE;clean_wf;refine⟨_,gE1,by rw[gm];exact aD (by omega),_,zs++[(.ref p,⟨"one",n,c,k,w,css⟩)],rfl,fun b o z=>?_,by rw[af,xt];rfl,yes (by rw[ev];exact h1)⟩;rw[aj (ai z hE)];exact s1 _ _ (sA b o z)
   ·exact⟨_,zs,rfl,sA.trans s1,s1 _ _ gE,no (by rw[ev];exact Sj.mpr h1)⟩
 rintro σ A ⟨v,zs,rfl,sA,gE,ez⟩;rw[show(ws.zip cs).take ws.length=ws.zip cs by rw[VV];rw[X4];omega]at ez;have hcA:=mw (.same sA) hc;have zin:∀q∈zs,q∈ws.zip cs/\fN m q.2=true:=fun q hq=>by
  rw[ez]at hq;exact QS.mp hq
 have zat:∀{i:Nat} {v:V},(zs.map (·.1))[i]?=some v->∃q,zs[i]?=some q/\q.1=v:=fun{i v} h=>by
  rw[CA]at h;cases w:zs[i]? with
  |none=>rw[w]at h;cases h
  |some q=>rw[w]at h;exact⟨q,rfl,Qj h⟩
 clean_wf;refine⟨E,zs.map (·.1),zs.map (fun q=>[q.2.c,q.2.k]),rfl,SqL.of gE,by rw[gm,gm],fun v hv=>?_,fun i v k H3 Q' hv hk s3 hq=>?_,fun e=>?_,fun i v kb H' hv hkb best s'=>?_⟩
 ·obtain⟨q,hq,rfl⟩:=QE.mp hv;obtain⟨p,_,_,_,_,e,_⟩:=oW hcA (zin q hq).1;exact⟨p,e⟩
 ·obtain⟨q,hq2,rfl⟩:=zat hv;rw[CA,hq2]at hk;cases hk;have cq:=(oW hcA (zin q (QA hq2)).1).up (.same s3);exact⟨q.1,rfl,q.2,cq,fun H4 t s4 _ g4=>hq H4 t s4 (SqT.of g4)⟩
 ·refine kk A none sA fun q hq=>?_;have e0:zs=[]:=Tp.mp e;rw[ez]at e0;have:=List.filter_eq_nil_iff.mp e0 q hq;exact Sj.mpr this
 ·obtain⟨q,hq2,rfl⟩:=zat hv;rw[CA,hq2]at hkb;cases hkb;obtain⟨z1,z2⟩:=zin q (QA hq2);refine kk H' (some q) (sA.trans s') ⟨z1,z2,fun q' hq' ha=>?_⟩;have:q'∈zs:=by rw[ez];exact QS.mpr ⟨hq',ha⟩
  obtain⟨j',hj'⟩:=QJ this;exact(best j' [q'.2.c,q'.2.k] (by rw[CA,hj'];rfl)).1
abbrev tR:QB:=top 42
abbrev iZ:QB:=top 6
abbrev tN:QB:=top 7
abbrev uF:QB:=top 8
abbrev uX:QB:=top 18
abbrev Ha:QB:=top 19
abbrev oE:QB:=top 20
abbrev eZ:QB:=inClass (top 31) 0
abbrev i5:QB:=inClass (top 31) 1
def Rk1(zs:List (V×Cll)):Prop:=∀q∈zs,∀r∈zs,q.2.c=r.2.c->q.2.k=r.2.k->q=r
theorem Jo(u:Rk1 zs)(h:q∈zs):LkC zs q.2.c q.2.k=some q:=by
 cases z:LkC zs q.2.c q.2.k with
 |none=>
  unfold LkC at z;have:=UQ.mp z q (XD.mpr h);exact absurd (decide_eq_true ⟨rfl,rfl⟩) this
 |some r=>
  obtain⟨e1,e2,e3⟩:=mW z;rw[u r e1 q h e2 e3]
theorem HJ(h:∀k,ct m k=ct m' k):mz cs m=mz cs m':=by
 unfold mz;congr 1;refine congrArg (fun f=>cs.filter f) ?_;funext q;rw[h]
theorem NO(h:Fw hs (LkC (ws.zip cs)) ns m0 rw last m):rw.length+ mz cs m<=mz cs m0:=by
 induction h with
 |start=>rw[Sa];omega
 |step f e ih=>
  obtain⟨h,_,e1,_⟩:=sX e;obtain⟨e2,e3,e4⟩:=mW e1;have:=K6 (SV e2).2 (by rw[e3];exact e4);rw[xp,Rw];omega
theorem J7(h:Fw hs L ns m0 rw last m)(e:fst (frm hs last) L m (nxo ns m)=none)(n:fst hs L m0 (nxo ns m0)≠none):0<rw.length:=by
 cases h with
 |start=>exact absurd e n
 |step=>rw[xp,Rw];omega
theorem BW{x:Cll}(h:fN m x=true):x.kd="one"/\ct m x.c=x.k-1:=by
 unfold fN frb at h;simp at h;exact⟨h.1,h.2.1⟩
theorem M8{x:Cll}(h:fN m x=true):tkb m x (some (x.n,x.c,x.k))=true:=by
 unfold fN at h;unfold tkb;simp at h⊢;exact h.2
theorem Kx(u:Rk1 zs)(h:q∈zs)(ha:fN m q.2=true)(hh:q.2.c∈hs):fst hs (LkC zs) m (some (q.2.n,q.2.c,q.2.k))≠none:=by
 intro z;unfold fst at z;have:=UY.mp z _ hh;unfold tk1 at this;rw[show ct m q.2.c+ 1=q.2.k by have:=(BW ha).2;omega,Jo u h]at this;have this:(if tkb m q.2 (some (q.2.n,q.2.c,q.2.k))=true then some q else none)=none:=this;rw[if_pos (M8 ha)]at this;cases this
theorem xA{j:Nat}{p:Nm}(h1:∀k (hk:k<ns.length),k<j->cvd m ns[k])(h2:j<=ns.length)(h3:¬ cvd m p):nxo (ns.take j++[p]) m=some p:=by
 unfold nxo;rw[Xh];have:(ns.take j).find? (fun p=>!decide (cvd m p))=none:=by
  rw[UQ];intro q hq;obtain⟨k,hk⟩:=QJ hq;rw[List.getElem?_take]at hk;by_cases w:k<j
  ·rw[if_pos w]at hk;obtain⟨w2,e⟩:=pk.mp hk;have:=h1 k w2 w;rw[e]at this;simp[this]
  ·rw[if_neg w]at hk;cases hk
 rw[this,TN,T5 (by simpa using h3)]
theorem Cv(h:∀k,ct m k=ct m' k)(x:Cll):fN m x=fN m' x:=by
 unfold fN frb cov;simp only[h]
def HsO(cs:List Cll)(hs:List Int):Prop:=hs.Pairwise (·<·)/\∀h,h∈hs↔∃x∈cs,x.c=h
def Rn(ws:List V)(cs:List Cll)(m:List (Int×Int))(ns:List Nm)(rw:List (V×Cll))(m':List (Int×Int)):Prop:=∃hs m0 last,HsO cs hs/\Td m0/\(∀k,ct m0 k=ct m k)/\Fw hs (LkC (ws.zip cs)) ns m0 rw last m'/\fst (frm hs last) (LkC (ws.zip cs)) m' (nxo ns m')=none
def Fo(ns:List Nm)(m:List (Int×Int))(j:Nat):Prop:=j<=ns.length/\(∀k (hk:k<ns.length),k<j->cvd m ns[k])/\∀hj:j<ns.length,¬ cvd m ns[j]
inductive Pw (ws:List V) (cs:List Cll) (m:List (Int×Int)) (ns:List Nm):List (V×Cll)->List Nm->List (Int×Int)->Prop
 |start {rw:List (V×Cll)} {m':List (Int×Int)}:Rn ws cs m ns rw m'->Pw ws cs m ns rw ns m'
 |step {row rw:List (V×Cll)} {gs:List Nm} {m1 m2:List (Int×Int)} {q:V×Cll} {j:Nat}:Pw ws cs m ns row gs m1->LaR (ws.zip cs) m1 (some q)->Fo gs m1 j->Rn ws cs m1 (gs.take j++[(q.2.n,q.2.c,q.2.k)]) rw m2->Pw ws cs m ns (row++rw) (gs.take j++[(q.2.n,q.2.c,q.2.k)]) m2
theorem zf(h:Rn ws cs m ns rw m'):rw.length+ mz cs m'<=mz cs m:=by
 obtain⟨hs,m0,last,_,_,e,f,_⟩:=h;have:=NO f;rw[HJ e]at this;exact this
theorem C6{j:Nat}(u:Rk1 (ws.zip cs))(la:LaR (ws.zip cs) m (some q))(fo:Fo gs m j)(h:Rn ws cs m (gs.take j++[(q.2.n,q.2.c,q.2.k)]) rw m'):0<rw.length:=by
 obtain⟨hs,m0,last,⟨_,hm⟩,_,e,f,g⟩:=h;obtain⟨l1,l2,_⟩:=la;have a0:fN m0 q.2=true:=by rw[Cv e];exact l2
 have qh:q.2.c∈hs:=(hm _).mpr ⟨q.2,(SV l1).2,rfl⟩;refine J7 f g ?_;rw[xA (fun k hk hj=>?_) fo.1 ?_]
 ·exact Kx u l1 a0 qh
 ·show ¬ (q.2.k<=ct m0 q.2.c);have:=(BW a0).2;omega
 ·show _<=ct m0 _;rw[e];exact fo.2.1 k hk hj
theorem Ai(xs:List V)(k:Nat)(h:k<=xs.length):su xs none (some (k:Int))=xs.take k:=by
 unfold su;have e1:HT.sIx xs.length 0 none=0:=rfl;have e2:HT.sIx xs.length xs.length (some (k:Int))=k:=by
  show(if(k:Int)<0 then((k:Int)+ (xs.length:Nat)).toNat else min (k:Int).toNat xs.length)=k;rw[if_neg (by omega),Qp];omega
 rw[e1,e2,List.drop_zero,Nat.sub_zero]
theorem vd{H:Hp}:∀{xs:List V} {ns:List Nm} (k:Nat),Nms H xs ns->Nms H (xs.take k) (ns.take k)
 |_,_,0,_=>.nil
 |_,_,k+ 1,.nil=>.nil
 |_,_,k+ 1,.cons r t=>.cons r (vd k t)
theorem Pc:decide (("one":pe)="heard")=false:=by decide +kernel
def wI(K:cw)(mg:pe->Option cT):Sp:=fun vs H Q _=>∃(d a b:dk),vs=[.ref d,.ref a,.ref b]/\∃m ws cs xs ns,Rd H d (.dK (dI m))/\Ck m/\SqL K H a ws/\xU K mg H ws cs/\cs.length<=60/\Rk1 (ws.zip cs)/\(∀x∈cs,0<=x.c/\x.c<63)/\(SqL K H b xs∨SqT K H b xs)/\Nms H xs ns/\ns.length<=300/\
 ∀H' t l g rw ys gs m',Same H H'->H l=none->H g=none->H' t=some (.tup [.ref l,.ref g])->H' l=some (.lst ((rw:List (V×Cll)).map (·.1)))->H' g=some (.lst ys)->Nms H' ys gs->Pw ws cs m ns rw gs m'->LaR (ws.zip cs) m' none->Q (.ref t) H'
theorem sc_placed:FnScope ["counts","calls","places","given","told","row","call"] kU (aw tR):=fsc
variable{Hm:dk}{lu:dk}{BM:xw}{j0:xw}(km:FnOk P w K mg base CX0 6 jM je Eh (i0 K))(eM:FnOk P w K mg base CX0 6 d6 gj aJ (gz K))(F8:FnOk P w K mg base CX0 6 Hm BM kU (BY K mg))(wm:Cal K mg "run" Hm BM kU)(gR:FnOk P w K mg base CX0 6 lu j0 zY (kz K mg))(ig:Cal K mg "least_asking" lu j0 zY)
include eV km eA eM bE F8 wm gR ig cM au az ay av aA aC a7 bj bo in
theorem DP(F:Fun K "placed" "placed" tR f fd):FnOk P w K mg base CX0 7 f fd kU (wI K mg):=by
 refine F.oj sc_placed ?_;rintro _ A _ _ H _ _ _ hr _ _ _ ⟨d,a,b,rfl,h⟩;refine⟨_,(ak (aY (i:=3) sc_placed.nd rfl (Ql rfl) (bF (uC (K:=K) rfl) (by rfl) cM Q5 (aa (pv 2) ae)))
   (ak (aY (i:=4) sc_placed.nd rfl (Ql rfl) (aT F8 wm hr (aa (pv 0) (aa (pv 1) (aa (pv 3) ae)))))
   (ak (aY (i:=5) sc_placed.nd rfl (Ql rfl) (fX (dX (K:=K) rfl) (pv 4) aM (fun _ _=>rfl)))
   (ak (aY (i:=6) sc_placed.nd rfl (Ql rfl) (aT gR ig hr (aa (pv 1) (aa (fX (dX (K:=K) rfl) (pv 4) aM (fun _ _=>rfl)) ae))))
   (ak (vg Sh (bD xC (pv 6) oU (bw _))
   (ak (aY (i:=3) sc_placed.nd rfl (Ql rfl) (bH q8 (hU (uM (K:=K) rfl) (pv 3) mU (iK (aT km eA hr (aa (pv 3) (aa (fX (dX (K:=K) rfl) (pv 4) aM (fun _ _=>rfl)) (aa aM ae)))))) (dN (aa (aX (MOk.cons ay.cl bo eM bE (MOk.cons au.cl a7 eM bE (MOk.cons az.cl bj eM bE MOk.nil))) (pv 6) hr) ae))))
   (ak (aY (i:=4) sc_placed.nd rfl (Ql rfl) (aT F8 wm hr (aa (fX (dX (K:=K) rfl) (pv 4) aM (fun _ _=>rfl)) (aa (pv 1) (aa (pv 3) ae)))))
   (ak (aY (i:=5) sc_placed.nd rfl (Ql rfl) (bH q8 (pv 5) (fX (dX (K:=K) rfl) (pv 4) aM (fun _ _=>rfl))))
   (ax (aY (i:=6) sc_placed.nd rfl (Ql rfl) (aT gR ig hr (aa (pv 1) (aa (fX (dX (K:=K) rfl) (pv 4) aM (fun _ _=>rfl)) ae)))))))))
   (ax (aL (cg (aa (pv 5) (aa (pv 3) ae)))))))))),?_⟩
 obtain⟨m,ws,cs,xs,ns,hd,cm,hS,hc,lc,u,rg,hP,hn,ln,kk⟩:=h;have lw:ws.length=cs.length:=Qk hc;have lx:=hn.len;clean_wf;refine⟨b,xs,rfl,hP,fun g0 hg0=>?_⟩;have s1:=aB (o:=.lst xs) hg0;have g1:(upd H g0 (.lst xs)) g0=some (.lst xs):=af;generalize upd H g0 (.lst xs)=H1 at s1 g1⊢;clean_wf;refine⟨d,a,g0,rfl,m,ws,cs,xs,ns,bT s1 hd,cm,s1.seq hS,mw (.same s1) hc,lc,rg,.inl (SqL.of g1),hn.up (.same s1),fun H2 t l r hs m0 rw last m' s2 hl hr gt gl gr tm' hp1 hp2 tm0 e0 fw fe=>?_⟩;have rn:Rn ws cs m ns rw m':=⟨hs,m0,last,⟨hp1,hp2⟩,tm0,e0,fw,fe⟩;have gT:SqT K H2 t [.ref l,.ref r]:=SqT.of gt;have s02:=s1.trans s2;clean_wf;refine⟨a,r,rfl,ws,cs,m',s02.seq hS,mw (.same s02) hc,lc,.inl gr,tm'.toCk,fun H3 o s3 la=>?_⟩;have m60:mz cs m<=60:=QT (Qf _ _) lc;clean_wf;refine⟨fun M σ A=>∃t l ll r g row ys gs mm o,M=mz cs mm/\σ=[some (.ref d),some (.ref a),some (.ref b),some (.ref g),some (.ref t),some (.ref l),some (fsv o)]/\Same H A/\H l=none/\H g=none/\A t=some (.tup [.ref ll,.ref r])/\A l=some (.lst ((row:List (V×Cll)).map (·.1)))/\A r=some (.dK (dI mm))/\Td mm/\A g=some (.lst ys)/\Nms A ys gs/\Pw ws cs m ns row gs mm/\LaR (ws.zip cs) mm o/\row.length+ mz cs mm<=60/\gs.length<=ns.length+ row.length,⟨_,t,l,l,r,g0,rw,xs,ns,m',o,rfl,rfl,s02.trans s3,s1.free hl,hg0,s3 _ _ gt,s3 _ _ gl,s3 _ _ gr,tm',s3 _ _ (s2 _ _ g1),hn.up (.same (s02.trans s3)),.start rn,la,by have:=zf rn;omega,by omega⟩,?_⟩;clear la gT gt gl gr g1 hl hr hg0 rn fw fe;rintro M σ A ⟨t,l,ll,r,g,row,ys,gs,mm,o,rfl,rfl,sA,hl,hg,gt,gl,gr,tmm,gg,nm,pw,la,q1,q2⟩;have ly:=nm.len;cases o with
 |none=>
  clean_wf;rw[show decide (fsv none=V.non)=true from decide_eq_true rfl];clean_wf;intro t' A1 ht' s9 g9;exact kk A1 t' l g row ys gs mm (sA.trans s9) hl hg g9 (s9 _ _ gl) (s9 _ _ gg) (nm.up (.same s9)) pw la
 |some q=>
  obtain⟨v,n,kk2⟩:=id la;obtain⟨vq,x⟩:=q;have cx:CllA K mg A vq x:=oW (mw (.same sA) hc) v;obtain⟨p,C,dx,tt,xs',rfl,hk,hT,hp,ht,hpx,hcs⟩:=id cx;have ek:=(BW n).1;obtain⟨kd,nn,c,k,w,css⟩:=x;have ek:kd="one":=ek;subst ek;have hp:A p=some (.ins C dx (cfl (.int nn) (.int c) (.int k) (.int w) (.ref tt))):=hp;have hk:KdC mg "one" C:=hk;rcases hk with⟨z,_⟩|⟨z,_⟩|⟨_,e⟩
  ·exact absurd z (of_decide_eq_false Ie)
  ·exact absurd z (of_decide_eq_false Pc)
  rw[aA]at e;cases e;rw[show fsv (some (V.ref p,(⟨"one",nn,c,k,w,css⟩:Cll)))=V.ref p from rfl];clean_wf;rw[show decide (V.ref p=V.non)=false from decide_eq_false (by intro z;cases z)];refine dO (fun _=>?_) fun z=>absurd rfl z;refine⟨_,fun _ _ z=>z,?_⟩;have gTA:SqT K A t [.ref ll,.ref r]:=SqT.of gt;clean_wf;refine⟨g,r,0,rfl,ys,mm,gs,.inl (SqL.of gg),.inl gr,nm,Qt _,fun k _ h=>absurd h (Uv _),fun j j1 j2 j3=>?_⟩;have hSg:SqL K A g ys:=SqL.of gg;clean_wf;intro c1 A1 hc1 t1 gc1;rw[Ai _ _ (by omega)]at gc1;have hp1:=t1 _ _ hp;clean_wf;refine⟨p,rfl,_,dx,_,_,_,_,_,hT,hp1,fun A2 u2 t2 hu2 g2=>?_⟩;clean_wf;intro e1 A3 he1 t3 g3;have gc3:=t3 _ _ (t2 _ _ gc1);have lt:=RW j ys;refine we gc3 g3 (by rw[Rw];omega) fun g' A4 hg' t4 g4=>?_;have tA4:Same A A4:=t1.trans (t2.trans (t3.trans t4));have nm4:Nms A4 (ys.take j++[.ref u2]) (gs.take j++[(nn,c,k)]):=Nms.snoc (vd j (nm.up (.same tA4))) ⟨u2,rfl,t4 _ _ (t3 _ _ g2)⟩;have gT4:SqT K A4 t [.ref ll,.ref r]:=SqT.of (tA4 _ _ gt);have s04:=sA.trans tA4;clean_wf;refine⟨r,a,g',rfl,mm,ws,cs,_,_,.inl (tA4 _ _ gr),tmm.toCk,s04.seq hS,mw (.same s04) hc,lc,rg,.inl (SqL.of g4),nm4,fun A5 t5' l5 r5 hs5 m5 rw5 last5 mm5 s5 hl5 hr5 gt5 gl5 gr5 tm5 hp5 hp6 tm6 e5 fw5 fe5=>?_⟩;have rn5:Rn ws cs mm (gs.take j++[(nn,c,k)]) rw5 mm5:=⟨hs5,m5,last5,⟨hp5,hp6⟩,tm6,e5,fw5,fe5⟩;have fo:Fo gs mm j:=⟨j1,j2,j3⟩;have pos:=C6 u la fo rn5;have mz5:=zf rn5;have gT5:SqT K A5 t5' [.ref l5,.ref r5]:=SqT.of gt5;have gl05:=s5 _ _ (tA4 _ _ gl);clean_wf;refine we gl05 gl5 (by rw[gm,gm];omega) fun l6 A6 hl6 t6 g6=>?_;rw[←xt]at g6;have gT6:SqT K A6 t5' [.ref l5,.ref r5]:=SqT.of (t6 _ _ gt5);have s06:=s04.trans (s5.trans t6);clean_wf;refine⟨a,r5,rfl,ws,cs,mm5,s06.seq hS,mw (.same s06) hc,lc,.inl (t6 _ _ gr5),tm5.toCk,fun A7 o7 s7 la7=>?_⟩;refine⟨mz cs mm5,by omega,t5',l6,l5,r5,g',row++rw5,ys.take j++[.ref u2],gs.take j++[(nn,c,k)],mm5,o7,rfl,rfl,s06.trans s7,(s04.trans s5).free hl6,(sA.trans (t1.trans (t2.trans t3))).free hg',s7 _ _ (t6 _ _ gt5),s7 _ _ g6,s7 _ _ (t6 _ _ gr5),tm5,s7 _ _ (t6 _ _ (s5 _ _ g4)),nm4.up (.same (s5.trans (t6.trans s7))),.step pw la fo rn5,la7,?_,?_⟩
  ·rw[xp];omega
  ·rw[xp,xp,Rw];have:=RW j gs;omega
def mJ(K:cw):Sp:=fun vs H Q _=>∃(a:dk) (h:Int) (xs:List V) (ms:List (List (Int×Int))),vs=[.ref a,.int h]/\SqL K H a xs/\Dcs H xs ms/\ms≠[]/\ms.length<=10/\∀(H':Hp) (b:Int),Same H H'->BN ms h b->Q (.int b) H'
abbrev zA:List pe:=["some","hand"]
theorem uq:FnScope ["some","hand"] zA (aw iZ):=fsc
include eV bN bp rH in
theorem uo(F:Fun K "least_count" "least_count" iZ f fd):FnOk P w K mg base CX0 2 f fd zA (mJ K):=by
 refine F.oj uq ?_;rintro _ _ _ _ H _ _ _ hr _ _ _ ⟨a,h,xs,ms,rfl,h⟩;refine⟨_,(ax (aL (aQ (Fj rfl) (by rfl) rH S5 (aa (bV ["hand","counts"] [some 1,none] rfl rfl (by kernel_rfl) (bx (K:=K) rfl (pv 0)) (fun _ _ _ _ _ nd=>bg (i:=1) nd rfl (Ql rfl)) (fun _ _ _ _ _=>eJ) (fun _ _ _ _ _=>(aT bN bp hr (aa (pv 1) (aa (pv 0) ae))))) ae)))),?_⟩;obtain⟨hS,dc,ne,l10,k⟩:=h;have lx:xs.length=ms.length:=Qk dc;refine⟨_,rfl,a,rfl,⟨_,hS⟩,fun D hD=>?_⟩;refine bz (K:=K) (a:=a) (xs:=xs) (fun i σ H'=>∃v,σ=[some (.int h),v]/\Same H H'/\H' D=some (.lst (((ms.take i).map fun m=>ct m h).map V.int))) ⟨none,rfl,aB hD,af⟩ ?_ ?_ ?_
 ·rintro i σ H' _ ⟨_,_,q,_⟩;exact q.seq hS
 ·rintro i x σ H' hx ⟨v,rfl,q,hDx⟩;obtain⟨m,hm,d,rfl,hd⟩:=Dcs.get dc hx;have hil:=(pk.mp hm).1;refine xB ⟨_,rfl,_,rfl,d,m,h,rfl,bT q hd,_,hDx,?_,some (.ref d),rfl,fun b o z=>?_,?_⟩
  ·rw[gm,gm,Q9];exact aD (by omega)
  ·rw[aj (ai z hD)];exact q b o z
  ·rw[af,aP hm,xt,xt];rfl
 rintro σ H' ⟨v,rfl,q,hDx⟩;rw[lx,Qq]at hDx;refine⟨D,_,rfl,SqL.of hDx,fun z=>ne (Tp.mp z),fun b hb lo=>k _ b q ?_⟩;obtain⟨m,hm,e⟩:=QE.mp hb;exact⟨⟨m,hm,e⟩,fun m' hm'=>lo _ (QZ (f:=fun m=>ct m h) hm')⟩
def vZ(K:cw):Sp:=fun vs H Q _=>∃(a:dk) (xs:List V) (ms:List (List (Int×Int))),vs=[.ref a]/\SqL K H a xs/\Dcs H xs ms/\(∀m∈ms,Ck m)/\ms.length<=10/\
 ∀(H':Hp) (p:dk) (j:List (Int×Int)),Same H H'->H p=none->H' p=some (.dK (dI j))->Td j->(ms=[]->j=[])->(ms≠[]->∀k,BN ms k (ct j k))->Q (.ref p) H'
theorem DJ:FnScope ["some"] t9 (aw tN):=fsc
variable{n0:dk}{mF:xw}(jB:FnOk P w K mg base CX0 2 jc gS t9 (iq K))(nV:FnOk P w K mg base CX0 2 n0 mF zA (mJ K))(nR:Cal K mg "least_count" n0 mF zA)
include eV jB de fG fj nV nR in
theorem DX(F:Fun K "common" "common" tN f fd):FnOk P w K mg base CX0 3 f fd t9 (vZ K):=by
 refine F.oj DJ ?_;rintro _ _ _ _ _ _ _ _ hr _ _ _ ⟨a,xs,ms,rfl,h⟩;refine⟨_,(ax (aL (aT fG fj hr (aa (bV ["some","hand"] [some 0,none] rfl rfl (by kernel_rfl) (bx (K:=K) rfl (aT jB de hr (aa (pv 0) ae))) (fun _ _ _ _ _ nd=>bg (i:=1) nd rfl (Ql rfl)) (fun _ _ _ _ _=>eJ) (fun _ _ _ _ _=>(cg (aa (pv 1) (aa (aT nV nR hr (aa (pv 0) (aa (pv 1) ae))) ae))))) ae)))),?_⟩;obtain⟨hS,dc,ck,l10,k⟩:=h;refine⟨_,rfl,a,xs,ms,rfl,hS,dc,ck,l10,fun H1 l S sm hl nd mem=>?_⟩;have rg:∀j∈S,0<=j/\j<63:=fun j hj=>by
  obtain⟨m,h1,h2⟩:=(mem j).mp hj;exact(ck m h1).keys j h2
 have lS:=jF nd rg;refine⟨l,rfl,⟨_,SqL.of hl⟩,fun D hD=>?_⟩;refine bz (K:=K) (a:=l) (xs:=S.map V.int) (fun i σ H'=>∃v ys f,σ=[some (.ref a),v]/\Same H1 H'/\H' D=some (.lst ys)/\ys.length<=i/\Prs H' ys (prs (S.take i) f)/\∀j∈S.take i,BN ms j (f j)) ⟨none,[],fun _=>0,rfl,aB hD,af,oh _,.nil,fun j hj=>by simp at hj⟩ ?_ ?_ ?_
 ·rintro i σ H' _ ⟨_,_,_,_,q,_⟩;exact SqL.of (q _ _ hl)
 ·rintro i x σ H' hx ⟨v,ys,f,rfl,q,hDx,ly,pr,mn⟩;obtain⟨j,hj,rfl⟩:=iP hx;have hil:=(pk.mp hj).1;have s2:=sm.trans q;have ne:ms≠[]:=fun z=>by
   obtain⟨m,h1,_⟩:=(mem j).mp (QA hj);rw[z]at h1;cases h1
  refine xB ⟨_,rfl,_,rfl,_,rfl,a,j,xs,ms,rfl,s2.seq hS,G2 s2 dc,ne,l10,fun H2 b sm2 hb=>⟨by show 2<=sizeLine;decide,fun p hp=>?_⟩⟩;have hDx2:=sm2 _ _ hDx;have nDp:D≠p:=ai hDx2 hp;have nj:j∉S.take i:=by
   have:=nd.sublist (U4 (i+ 1) S);rw[aP hj,RU]at this;exact fun z=>this.2.2 _ z _ (by simp) rfl
  refine⟨ys,by rw[aj nDp];exact hDx2,aD (by omega),some (.int j),_,fun y=>if y=j then b else f y,rfl,fun c o z=>?_,af,by rw[xp];exact Sl ly,?_,fun y hy=>?_⟩
  ·rw[aj (ai z hD),aj (ai (sm2 _ _ (q c o z)) hp)];exact sm2 _ _ (q c o z)
  ·rw[aP hj];show Prs _ _ (XB _ (_++[j]));rw[xt];have e:(S.take i).map (fun y=>(y,if y=j then b else f y))=prs (S.take i) f:=Ru fun y hy=>by rw[if_neg (fun z:y=j=>nj (z▸hy))]
   rw[e];refine Prs.snoc (pr.mono fun a ys z=>?_) ⟨p,rfl,?_⟩
   ·have z2:=sm2 _ _ z;rw[aj (cR z2 hDx2 (by intro z;cases z)),aj (ai z2 hp)];exact z2
   ·rw[aj (QH nDp),af];show _=some (HO.tup [V.int j,V.int (if j=j then b else f j)]);rw[if_pos rfl]
  ·rw[aP hj]at hy;rcases Qw.mp hy with z|z
   ·show BN ms y (if y=j then b else f y);rw[if_neg (fun y2:y=j=>nj (y2▸z))];exact mn y z
   ·have z':=tw.mp z;show BN ms y (if y=j then b else f y);rw[if_pos z',z'];exact hb
 rintro σ H' ⟨v,ys,f,rfl,q,hDx,ly,pr,mn⟩;rw[show S.take (S.map V.int).length=S by rw[gm,Qq]]at pr mn;refine⟨D,ys,_,rfl,.inl (SqL.of hDx),pr,?_,by rw[js];exact nd,fun H2 p sm2 hp0 hp=>?_⟩
 ·show(XB _ S).length<=1000;rw[gm];omega
 have nn:∀j∈S,0<=f j:=fun j hj=>by
  obtain⟨⟨m,hm,e⟩,_⟩:=mn j hj;rw[←e];exact(ck m hm).ct j
 refine k _ p _ ((sm.trans q).trans sm2) ((sm.trans q).free hp0) hp (Fv nd rg) (fun z=>?_) fun ne j=>?_
 ·have:S=[]:=by
   cases S with
   |nil=>rfl
   |cons j S=>
    obtain⟨m,h1,_⟩:=(mem j).mp xl;rw[z]at h1;cases h1
  rw[this];rfl
 ·by_cases hj:j∈S
  ·rw[GP nd j hj (nn j hj)];exact mn j hj
  ·rw[CL hj];have z:∀m∈ms,ct m j=0:=fun m hm=>oN fun z=>hj ((mem j).mpr ⟨m,hm,z⟩);cases ms with
   |nil=>exact absurd rfl ne
   |cons m ms=>exact⟨⟨m,xl,z m xl⟩,fun m' hm'=>by rw[z m' hm'];exact R6 _⟩
def wW(K:cw):Sp:=fun vs H Q _=>∃(d:dk) (m:List (Int×Int)),vs=[.ref d]/\Rd H d (.dK (dI m))/\m.length<64/\
 ∀(H':Hp) (t:dk) (xs:List V) (S:List Int),Same H H'->H t=none->S.Perm (m.map (·.1))->S.Pairwise (·<=·)->H' t=some (.tup xs)->Prs H' xs (PKm m S)->Q (.ref t) H'
abbrev Am:List pe:=["counts"]
theorem EH:FnScope ["counts"] Am (aw uF):=fsc
variable(iu:mg "tuple"=none)
include eV dS iu in
theorem EX(F:Fun K "packed" "packed" uF f fd):FnOk P w K mg base CX0 1 f fd Am (wW K):=by
 refine F.oj EH ?_;rintro _ _ _ _ H _ _ _ _ _ _ hu ⟨d,m,rfl,h⟩;refine⟨_,(ax (aL (bF (zV (K:=K) rfl) (by rfl) iu SQ (aa (bV ["counts","hand"] [some 0,none] rfl rfl (by kernel_rfl) (bx (K:=K) rfl (aQ (xI rfl) (by rfl) dS Sf (aa (pv 0) ae))) (fun _ _ _ _ _ nd=>bg (i:=1) nd rfl (Ql rfl)) (fun _ _ _ _ _=>(fF (bD IC (yc hu (pv 0) (pv 1) (fun _ _=>rfl)) aM (bw _)))) (fun _ _ _ _ _=>(cg (aa (pv 1) (aa (yc hu (pv 0) (pv 1) (fun _ _=>rfl)) ae))))) ae)))),?_⟩;obtain⟨hd,hlen,k⟩:=h;refine⟨_,rfl,d,m,rfl,hd,hlen,fun l S hl pm so=>?_⟩;have sm0:Same H (upd H l (.lst (S.map V.int))):=aB hl;have g0:(upd H l (.lst (S.map V.int))) l=some (.lst (S.map V.int)):=af;generalize upd H l (.lst (S.map V.int))=H0 at sm0 g0⊢;have lS:S.length<64:=by rw[pm.length_eq,gm];exact hlen
 refine⟨l,rfl,⟨_,SqL.of g0⟩,fun D hD=>?_⟩;refine bz (K:=K) (a:=l) (xs:=S.map V.int) (fun i σ H'=>∃v xs,σ=[some (.ref d),v]/\Same H0 H'/\H' D=some (.lst xs)/\xs.length<=i/\Prs H' xs (PKm m (S.take i))) ⟨none,[],rfl,aB hD,af,oh _,.nil⟩ ?_ ?_ ?_
 ·rintro i σ H' _ ⟨_,_,_,sm,_⟩;exact SqL.of (sm _ _ g0)
 ·rintro i x σ H' hx ⟨v,xs,rfl,sm,hDx,lx,pr⟩;obtain⟨n,hn,rfl⟩:=iP hx;have hil:=(pk.mp hn).1;have hmem:n∈m.map (·.1):=pm.mem_iff.mp (QA hn);have hd':Rd H' d (.dK (dI m)):=bT sm (bT sm0 hd);have hv:some (V.int (ct m n))=dP (dI m) (GV n:Key):=by rw[Cn,Pa hmem];rfl
  refine⟨_,rfl,_,rfl,d,V.int (ct m n),rfl,.inl ⟨_,GV n,hd',rfl,hv⟩,_,_,rfl,rfl,_,rfl,dO (fun h=>?_) fun h=>?_⟩
  ·have h':0<ct m n:=of_decide_eq_true h;refine⟨_,rfl,_,rfl,_,rfl,d,V.int (ct m n),rfl,.inl ⟨_,GV n,hd',rfl,hv⟩,by show 2<=sizeLine;decide,fun p hp=>?_⟩;have nDp:D≠p:=ai hDx hp;refine⟨xs,by rw[aj nDp];exact hDx,aD (by omega),some (.int n),_,rfl,fun b o e=>?_,af,by rw[xp];exact Sl lx,?_⟩
   ·rw[aj (ai e hD),aj (ai (sm b o e) hp)];exact sm b o e
   ·rw[aP hn,KR h'];refine Prs.snoc (pr.mono fun a ys e=>?_) ⟨p,rfl,?_⟩
    ·rw[aj (cR e hDx (by intro z;cases z)),aj (ai e hp)];exact e
    ·rw[aj (QH nDp),af]
  ·have h':¬ 0<ct m n:=fun z=>h (decide_eq_true z);refine⟨some (.int n),xs,rfl,sm,hDx,TZ lx,?_⟩;rw[aP hn,MN h'];exact pr
 rintro σ H' ⟨v,xs,rfl,sm,hDx,lx,pr⟩;rw[show S.take (S.map V.int).length=S by rw[gm,Qq]]at pr;refine⟨D,xs,rfl,.inl ⟨SqL.of hDx,fun t ht=>?_⟩⟩;exact k _ t xs S (sm0.trans (sm.trans (aB ht))) (sm0.free (sm.free ht)) pm so af (GR (aB ht) pr)
def wA(K:cw):Sp:=fun vs H Q _=>∃h:Int,vs=[.int h]/\0<=h/\h<=1000/\Q (.int (2^h.toNat)) H
def FN(K:cw):Sp:=fun vs H Q _=>∃n h:Int,vs=[.int n,.int h]/\0<=n/\0<=h/\h<=1000/\Q (.bl (n.toNat.testBit h.toNat)) H
def sd(K:cw):Sp:=fun vs H Q _=>∃n:Int,vs=[.int n]/\0<=n/\n<9223372036854775808/\∀H' l,H l=none->Same H H'->H' l=some (.lst ((GB.hl n).map V.int))->Q (.ref l) H'
theorem DL:FnScope ["hand"] ["hand"] (aw uX):=fsc
include eV in
theorem Fi(F:Fun K "bit_of" "bit_of" uX f fd):FnOk P w K mg base CX0 1 f fd ["hand"] (wA K):=by
 refine F.oj DL ?_;rintro _ _ _ _ H _ Q _ _ _ _ _ ⟨x,rfl,h⟩;refine⟨_,(ax (aL (uI (bD y4 (pv 0) aM (bw _)) (bH Hh aM (pv 0)) aM))),?_⟩;obtain⟨h0,h1,k⟩:=h;refine⟨_,rfl,_,_,rfl,rfl,_,rfl,?_⟩;rw[decide_eq_true (show(0:Int)<=x from h0)];refine MT ⟨_,rfl,_,_,rfl,rfl,⟨h0,by omega,by decide⟩,?_⟩;show Q (.int (1*2^x.toNat)) H;rw[YJ];exact k
abbrev zp:List pe:=["hands","hand"]
theorem Mf:FnScope ["hands","hand"] zp (aw Ha):=fsc
variable{zN:dk}{wD:xw}(yO:FnOk P w K mg base CX0 1 zN wD ["hand"] (wA K))(y9:Cal K mg "bit_of" zN wD ["hand"])
include eV yO y9 in
theorem ME(F:Fun K "has" "has" Ha f fd):FnOk P w K mg base CX0 2 f fd zp (FN K):=by
 refine F.oj Mf ?_;rintro _ _ _ _ H _ Q _ hr _ _ _ ⟨n,x,rfl,h⟩;refine⟨_,(ax (aL (gN AA (bH Nx (pv 0) (aT yO y9 hr (aa (pv 1) ae))) aM (bw _)))),?_⟩;obtain⟨hn,h0,h1,k⟩:=h;refine⟨_,rfl,_,rfl,x,rfl,h0,h1,_,_,rfl,rfl,rfl,?_⟩;show Q (.bl (!decide (V.int (Builtin.bitAnd n (2^x.toNat))=V.int 0))) H;rw[GI hn h0];exact k
abbrev oi:List pe:=["hands"]
theorem yX:FnScope ["hands"] oi (aw oE):=fsc
variable{Lf:dk}{Iy:xw}(Li:FnOk P w K mg base CX0 2 Lf Iy zp (FN K))(Ld:Cal K mg "has" Lf Iy zp)(DC:mg "range"=none)
include eV Li Ld DC in
theorem AF(F:Fun K "hands_of" "hands_of" oE f fd):FnOk P w K mg base CX0 3 f fd oi (sd K):=by
 refine F.oj yX ?_;rintro _ _ _ _ H _ _ _ hr _ _ _ ⟨n,rfl,h⟩;refine⟨_,(ax (aL (bV ["hands","hand"] [some 0,none] rfl rfl (by kernel_rfl) (Ed rfl DC (aa (va PySem.F.plainAttrs_int PySem.F.slot_int_bit_length PySem.F.type_int_bit_length EK (pv 0)) ae)) (fun _ _ _ _ _ nd=>bg (i:=1) nd rfl (Ql rfl)) (fun _ _ _ _ _=>(fF (br K rfl (aT Li Ld hr (aa (pv 0) (aa (pv 1) ae)))))) (fun _ _ _ _ _=>(pv 1))))),?_⟩;obtain⟨h0,h1,k⟩:=h;obtain⟨b1,b2⟩:=El h0 h1;refine⟨_,rfl,rfl,n,rfl,rfl,_,rfl,by omega,by omega,fun D hD=>?_⟩;refine Bs (fun i σ H'=>∃v,σ=[some (.int n),v]/\H'=upd H D (.lst ((tY n i).map V.int))) ⟨none,rfl,rfl⟩ ?_ ?_
 ·rintro i σ H' hi ⟨v,rfl,rfl⟩;have hi':i<Rt n:=by simpa using hi
  refine⟨_,rfl,_,rfl,n,_,rfl,h0,(by omega),(by omega),_,rfl,?_⟩;have ei:(0+ (i:Int)).toNat=i:=by omega
  rw[ei];cases e:n.toNat.testBit i with
  |true=>
   refine MT ⟨_,rfl,_,af,?_,_,rfl,?_⟩
   ·rw[gm];have:=G5 n i;exact aD (by omega)
   ·rw[Kh,FA e,xt,Int.zero_add];rfl
  |false=>
   refine NZ ⟨_,rfl,?_⟩;rw[Ks e]
 ·rintro σ H' ⟨v,rfl,rfl⟩;have e:((Rt n:Nat):Int).toNat=Rt n:=Qp _;rw[e,b2];exact k _ D hD (aB hD) af
def iW(K:cw):Sp:=fun vs H Q _=>∃(p:dk) (n:Int),vs=[.ref p,.int n]/\∃C dx,TKnown K C/\H p=some (.ins C dx [])/\0<=n/\n<9223372036854775808/\∀H' d rs,(∀b o,H b=some o->b≠p->H' b=some o)->H' p=some (.ins C dx [("learnt",.ref d)])->H' d=some (.dK (dG rs))->Rws H' rs ((GB.hl n).map fun h=>(h,[]))->(∀q∈rs,q.2≠V.ref d)->H d=none->(∀q∈rs,∀r,q.2=V.ref r->H r=none)->Q .non H'
theorem CC{H H':Hp}(m:SmH H H'):∀{xs:List V} {ps:List (Int×V)},yS H xs ps->yS H' xs ps
 |_,_,.nil=>.nil
 |_,_,.cons ⟨a,e,h⟩ t=>.cons ⟨a,e,m _ _ h⟩ (CC m t)
theorem wa{H:Hp}:∀{xs:List V} {ps:List (Int×V)} {x:V} {p:Int×V},yS H xs ps->(∃a,x=.ref a/\H a=some (.tup [.int p.1,p.2]))->yS H (xs++[x]) (ps++[p])
 |_,_,_,_,.nil,h=>.cons h .nil
 |_,_,_,_,.cons r t,h=>.cons r (wa t h)
theorem Gd{ps:List (Int×V)}(h:yS H xs ps):xs.length=ps.length:=Qk h
theorem dQ{H H':Hp}(k:∀r m,H r=some (.dK (dI m))->H' r=some (.dK (dI m))):∀{rs:List (Int×V)} {tb:List (Int×List (Int×Int))},Rws H rs tb->Rws H' rs tb
 |_,_,.nil=>.nil
 |_,_,.cons ⟨e,r,e2,e3⟩ t=>.cons ⟨e,r,e2,k _ _ e3⟩ (dQ k t)
theorem zq{H:Hp}:∀{rs:List (Int×V)} {tb:List (Int×List (Int×Int))} {q:Int×V} {e:Int×List (Int×Int)},Rws H rs tb->(q.1=e.1/\∃r,q.2=.ref r/\H r=some (.dK (dI e.2)))->Rws H (rs++[q]) (tb++[e])
 |_,_,_,_,.nil,h=>.cons h .nil
 |_,_,_,_,.cons r t,h=>.cons r (zq t h)
theorem N6(n:Int):(GB.hl n).Nodup:=by
 unfold GB.hl;refine List.Pairwise.map _ (fun a b h=>?_) (GB.iN n.toNat);intro e;have:a<b:=h;omega
theorem DS(hn:h∉tb.map (·.1)):vj tb h j=tb:=by
 unfold vj
 conv=>rhs;rw[←UK tb]
 refine Ru fun e he=>?_;rw[if_neg (fun z=>hn (by rw[←z];exact QZ he))];rfl
theorem Dt{H:Hp}{h:Int}{r:dk}{j:List (Int×Int)}(hr:H r=some (.dK (dI j))):∀{rs:List (Int×V)} {tb:List (Int×List (Int×Int))},(tb.map (·.1)).Nodup->h∈tb.map (·.1)->Rws H rs tb->Rws H (sN rs h (.ref r)) (vj tb h j)
 |_,_,_,hm,.nil=>by simp at hm
 |q::rs,e::tb,nd,hm,.cons ⟨e1,r2,e2,e3⟩ t=>by
  rw[Qd,Rh]at nd;have e0:vj (e::tb) h j=(if e.1=h then(e.1,j)else e)::vj tb h j:=rfl;rw[e0];unfold sN;by_cases z:e.1=h
  ·rw[if_pos (e1.trans z),if_pos z,DS (by rw[←z];exact nd.1)];exact .cons ⟨e1,r,rfl,hr⟩ t
  ·rw[if_neg (fun w=>z (e1.symm.trans w)),if_neg z];rw[Qd]at hm;exact .cons ⟨e1,r2,e2,e3⟩ (Dt hr nd.2 ((uc.mp hm).resolve_left fun w=>z w.symm) t)
theorem Fu{H:Hp}{d:dk}:∀{rs:List (Int×V)} {tb:List (Int×List (Int×Int))},Rws H rs tb->H d=none->∀q∈rs,q.2≠V.ref d
 |_,_,.cons ⟨_,r,e2,e3⟩ t,hd,q,hq=>by
  rcases uc.mp hq with z|z
  ·rw[z,e2];intro w;cases w;rw[hd]at e3;cases e3
  ·exact Fu t hd q z
theorem CJ{H H':Hp}{d:dk}:∀{rs:List (Int×V)} {tb:List (Int×List (Int×Int))},Rws H rs tb->(∀q∈rs,q.2≠V.ref d)->(∀r o,r≠d->H r=some o->H' r=some o)->Rws H' rs tb
 |_,_,.nil,_,_=>.nil
 |_,_,.cons ⟨e,r,e2,e3⟩ t,ap,k=>.cons ⟨e,r,e2,k _ _ (fun z=>ap _ xl (by rw[e2,z])) e3⟩ (CJ t (fun q hq=>ap q (xj _ hq)) k)
abbrev yA:List pe:=["self","hands"]
theorem pI:FnScope ["self","hands"] yA (aw eZ):=fsc
variable{tM:dk}{se:xw}(jT:FnOk P w K mg base CX0 3 tM se oi (sd K))(jK:Cal K mg "hands_of" tM se oi)
include eV jT jK fR in
theorem pY(F:Fun K "__init__" "Known.__init__" eZ f fd):FnOk P w K mg base CX0 4 f fd yA (iW K):=by
 refine F.oj pI ?_;rintro _ _ _ _ H _ _ _ hr _ _ _ ⟨p,n,rfl,h⟩;refine⟨_,(ax (bL (K:=K) rfl (pv 0) (bF (BO rfl) (by rfl) fR RY (aa (bV ["hand"] [none] rfl rfl (by kernel_rfl) (bx (K:=K) rfl (aT jT jK hr (aa (pv 1) ae))) (fun _ _ _ _ _ nd=>bg (i:=0) nd rfl (Ql rfl)) (fun _ _ _ _ _=>eJ) (fun _ _ _ _ _=>(cg (aa (pv 0) (aa uY ae))))) ae)) rfl)),?_⟩;obtain⟨C,dx,⟨cl,n1⟩,hp,h0,h1,k⟩:=h;clean_wf;refine⟨n,rfl,h0,h1,fun H1 l hl s1 g1=>?_⟩;clean_wf;intro D hD;have ln:=GB.LG n;refine bz (K:=K) (a:=l) (xs:=(GB.hl n).map V.int) (fun i σ H'=>∃v ys rs,σ=[v]/\Same H1 H'/\H' D=some (.lst ys)/\yS H' ys rs/\rs.map (·.1)=(GB.hl n).take i/\Rws H' rs (((GB.hl n).take i).map fun h=>(h,[]))/\∀q∈rs,∀r,q.2=V.ref r->H1 r=none) ⟨none,[],[],rfl,aB hD,af,.nil,rfl,.nil,fun q hq=>nomatch hq⟩ ?_ ?_ ?_
 ·rintro i σ H' _ ⟨_,_,_,_,z,_⟩;exact SqL.of (z _ _ g1)
 ·rintro i x σ H' hx ⟨v,ys,rs,rfl,sm,hDx,hpr,hk,hrw,hfr⟩;obtain⟨h,hh,rfl⟩:=iP hx;have hi:=(pk.mp hh).1;have ly:ys.length<=i:=by
   rw[Gd hpr,←gm (f:=(·.1)),hk,Q9];omega
  clean_wf;intro r H2 hr s2 g2;clean_wf;intro t H3 ht s3 g3;have hD3:=s3 _ _ (s2 _ _ hDx);refine⟨ys,hD3,aD (by omega),some (.int h),_,rs++[(h,.ref r)],rfl,fun b o z=>?_,af,?_,?_,?_,fun q hq r' e=>?_⟩
  ·rw[aj (ai z hD)];exact s3 _ _ (s2 _ _ (sm b o z))
  ·exact wa (CC ((SmH.same (s2.trans s3)).trans (SmH.lst hD3)) hpr) ⟨t,rfl,SmH.lst hD3 _ _ g3⟩
  ·rw[xt,hk,aP hh];rfl
  ·rw[aP hh,xt];have kp:∀r m,H' r=some (.dK (dI m))->(upd H3 D (.lst (ys++[V.ref t]))) r=some (.dK (dI m)):=fun r m e=>by rw[aj (cR (s3 _ _ (s2 _ _ e)) hD3 (by intro z;cases z))];exact s3 _ _ (s2 _ _ e)
   exact zq (dQ kp hrw) ⟨rfl,r,rfl,by rw[aj (cR (s3 _ _ g2) hD3 (by intro z;cases z))];exact s3 _ _ g2⟩
  ·rcases Qw.mp hq with z|z
   ·exact hfr q z r' e
   ·rw[tw.mp z]at e;cases e;exact sm.free hr
 rintro σ H2 ⟨v,ys,rs,rfl,s2,hD2,hpr,hk,hrw,hfr⟩;rw[show(GB.hl n).take ((GB.hl n).map V.int).length=GB.hl n by rw[gm,Qq]]at hk hrw;refine⟨D,ys,rs,rfl,hD2,hpr,by rw[hk];exact N6 n,by rw[←gm (f:=(·.1)),hk];omega,fun d hd=>?_⟩;have s3:=aB (o:=.dK (dG rs)) hd;have g3:(upd H2 d (.dK (dG rs))) d=some (.dK (dG rs)):=af;generalize upd H2 d (.dK (dG rs))=H3 at s3 g3⊢;have s4:Same H H3:=s1.trans (s2.trans s3);have hp4:=s4 _ _ hp;clean_wf;intro H5 b5 g5;refine k H5 d rs (fun b o e hb=>b5.at hb (s4 _ _ e)) g5 (b5.of hp4 g3 (by intro z;cases z)) (dQ (fun r m e=>b5.of hp4 e (by intro z;cases z)) (dQ (fun r m e=>s3 _ _ e) hrw)) (Fu hrw hd) ((s1.trans s2).free hd) (fun q hq r e=>s1.free (hfr q hq r e))
def kJ(K:cw)(mg:pe->Option cT):Sp:=fun vs H Q _=>∃(p:dk) (h:Int) (c:dk),vs=[.ref p,.int h,.ref c]/\∃d rs tb m,KnAt K mg H p d rs tb/\Rd H c (.dK (dI m))/\Ck m/\
 ∀H' rs' tb',SmB d H H'->KnAt K mg H' p d rs' tb'->(tbl tb h=none->tb'=tb)->(∀m0,tbl tb h=some m0->∃j,Td j/\(∀k,Gh [m0,m] k (ct j k))/\tb'=vj tb h j)->(∀q∈rs',q∈rs∨∃r,q.2=.ref r/\H r=none)->Q .non H'
abbrev zD:List pe:=["self","hand","counts"]
theorem tP:FnScope ["self","hand","counts"] zD (aw i5):=fsc
variable{cW:dk}(rF:FnOk P w K mg base CX0 2 vf qX uW (qH K))(aV:TKnown K cW)(aZ:mg "Known"=some (.ref cW))
include eV rF pS aV aZ in
theorem uA(F:Fun K "learn" "Known.learn" i5 f fd):FnOk P w K mg base CX0 3 f fd zD (kJ K mg):=by
 refine F.oj tP ?_;rintro _ _ _ _ H _ _ _ hr _ _ hu ⟨p,x,c,rfl,h⟩;refine⟨_,(ax (d7 (Mv (LU hu (pv 1) (aF (K:=K) rfl (pv 0) rfl))) (ax (qt hu (aF (K:=K) rfl (pv 0) rfl) (pv 1) (aT rF pS hr (aa (yc hu (aF (K:=K) rfl (pv 0) rfl) (pv 1) (fun _ _=>rfl)) (aa (pv 2) ae))) rfl)) bS)),?_⟩;obtain⟨d,rs,tb,m,S,hc,cm,k⟩:=h;obtain⟨⟨C,dx,eC,hp⟩,hd,hrw,hhs,htd,hap⟩:=id S;rw[aZ]at eC;cases eC;obtain⟨cl,n1⟩:=id aV;have hks:=hrw.keys;have nd:(rs.map (·.1)).Nodup:=by rw[hks];exact hhs.up.imp fun h=>by omega
 have lrs:rs.length<sizeLine:=aD (by
  have:=jF (by rw[←hks];exact nd) hhs.rg;rw[gm]at this;have e:rs.length=tb.length:=Qk hrw;omega)
 clean_wf;rcases hrw.lk x with⟨e1,e2⟩|⟨r,m0,e1,e2,e3⟩
 ·rw[e1];refine dO (fun z=>absurd z (by decide)) fun _=>?_;exact k H rs tb (.refl _ _) S (fun _=>rfl) (fun m0 z=>by rw[e2]at z;cases z) fun q hq=>.inl hq
 ·have hd':=hd;rw[e1];refine dO (fun _=>?_) fun z=>absurd rfl z;clean_wf;have t0:=htd _ (CK e2);refine⟨r,c,m0,m,rfl,.inl e3,hc,t0.toCk,cm,fun H1 q j s1 hq g1 tj mx=>?_⟩;have hp1:=s1 _ _ hp;have hd1:=s1 _ _ hd;clean_wf;intro H2 b2 g2;have key:x∈tb.map (·.1):=tbl_key.mp (by rw[e2];rfl);have nq:q≠d:=fun z=>by rw[z]at hq;rw[hq]at hd;cases hd
  have hrw2:Rws H2 rs tb:=CJ hrw hap fun r o n e=>b2.at n (s1 _ _ e);refine k H2 _ (vj tb x j) (fun b o n e=>b2.at n (s1 _ _ e)) ⟨⟨_,dx,aZ,b2.of hd1 hp1 (by intro z;cases z)⟩,g2,Dt (b2.at nq g1) (by rw[←hks];exact nd) key hrw2,by rw[vS];exact hhs,fun e he=>?_,fun w hw=>?_⟩ (fun z=>by rw[e2]at z;cases z) (fun m1 z=>⟨j,tj,?_,rfl⟩) fun w hw=>?_
  ·obtain⟨e0,h0,rfl⟩:=QE.mp he;by_cases w:e0.1=x
   ·rw[if_pos w];exact tj
   ·rw[if_neg w];exact htd e0 h0
  ·rcases qI _ _ _ _ hw with z|z
   ·rw[z];intro w;cases w;exact nq rfl
   ·exact hap w z
  ·rw[e2]at z;cases z;exact mx
  ·rcases qI _ _ _ _ hw with z|z
   ·rw[z];exact .inr ⟨q,rfl,hq⟩
   ·exact .inl z
theorem iF{H:Hp}:∀{rs:List (Int×V)} {tb:List (Int×List (Int×Int))} {i:Nat} {q:Int×V},Rws H rs tb->rs[i]?=some q->∃e r,tb[i]?=some e/\q.1=e.1/\q.2=.ref r/\H r=some (.dK (dI e.2))
 |_,_,_,_,.nil,e=>by simp at e
 |_,_,0,_,.cons ⟨e1,r,e2,e3⟩ _,e=>by simp at e;subst e;exact⟨_,r,rfl,e1,e2,e3⟩
 |_,_,i+ 1,x,.cons _ t,e=>by
  obtain⟨p,r,h1,h2⟩:=iF (i:=i) t (by simpa using e);exact⟨p,r,by simpa using h1,h2⟩
theorem MD{m:List (Int×V)}{k:Key}(h:(dG m)[i]?=some (k,v)):∃p,m[i]?=some p/\k=GV p.1/\v=p.2:=by
 unfold dG at h;rw[CA]at h;cases e:m[i]? with
 |none=>rw[e]at h;cases h
 |some p=>rw[e]at h;cases h;exact⟨p,rfl,rfl,rfl⟩
theorem P0{B':Hp}{d:dk}(s:Same B B')(k:KnAt K mg B p d rs tb):KnAt K mg B' p d rs tb:=by
 obtain⟨⟨C,dx,e,h⟩,h2,h3,h4,h5,h6⟩:=k;exact⟨⟨C,dx,e,s _ _ h⟩,s _ _ h2,dQ (fun r m q=>s _ _ q) h3,h4,h5,h6⟩
abbrev i7:QB:=inClass (top 31) 4
abbrev jP:QB:=inClass (top 31) 5
abbrev ja:QB:=inClass (top 31) 3
abbrev gQ:QB:=inClass (top 25) 1
abbrev fh:QB:=inClass (top 26) 0
abbrev ir:QB:=inClass (top 27) 0
abbrev mf:QB:=inClass (top 24) 7
def rch(tb:List (Int×List (Int×Int)))(h c:Int):Nat:=(tb.filter fun e=>decide (c<=ct e.2 h)).length
def sur(tb:List (Int×List (Int×Int))):List Nm->Nat
 |[]=>0
 |p::ns=>if 2*rch tb p.2.1 p.2.2<=tb.length then 0 else sur tb ns+ 1
theorem Bb{tb:List (Int×List (Int×Int))}:∀{ns:List Nm} {i:Nat},(∀k (hk:k<ns.length),k<i->¬ 2*rch tb ns[k].2.1 ns[k].2.2<=tb.length)->i<=ns.length->(∀hi:i<ns.length,2*rch tb ns[i].2.1 ns[i].2.2<=tb.length)->sur tb ns=i
 |[],i,_,h2,_=>by
  have:i=0:=by simpa using h2
  rw[this];rfl
 |p::ns,0,_,_,h3=>by
  have this:2*rch tb p.2.1 p.2.2<=tb.length:=h3 (by simp);unfold sur;rw[if_pos this]
 |p::ns,i+ 1,h1,h2,h3=>by
  have z:¬ 2*rch tb p.2.1 p.2.2<=tb.length:=h1 0 (by simp) (by omega);unfold sur;rw[if_neg z,Bb (i:=i) (fun k hk hki=>h1 (k+ 1) (by simpa using hk) (by omega)) (by simpa using h2) fun hi=>h3 (by simpa using hi)]
def lR(K:cw)(mg:pe->Option cT):Sp:=fun vs H Q _=>∃(p t:dk),vs=[.ref p,.ref t]/\∃d rs tb n h c,KnAt K mg H p d rs tb/\H t=some (.tup [.int n,.int h,.int c])/\∀H',Same H H'->Q (.int (rch tb h c)) H'
theorem yw{c:Int}{e:Int×List (Int×Int)}(he:tb[i]?=some e):rch (tb.take (i+ 1)) h c=rch (tb.take i) h c+ if c<=ct e.2 h then 1 else 0:=by
 unfold rch;rw[aP he,Qm,xp];congr 1;by_cases z:c<=ct e.2 h
 ·rw[if_pos z];simp[z]
 ·rw[if_neg z];simp;omega
abbrev y8:List pe:=["self","name"]
theorem tU:FnScope ["self","name"] y8 (aw i7):=fsc
include eV fy c9 d5 aV aZ in
theorem ve(F:Fun K "reach" "Known.reach" i7 f fd):FnOk P w K mg base CX0 3 f fd y8 (lR K mg):=by
 refine F.oj tU ?_;rintro _ A _ _ _ _ _ _ hr _ _ _ ⟨p,t,rfl,h⟩;refine⟨_,(ax (Jc (aL (aQ (dD (K:=K) rfl) (by rfl) d5 RG (aa (bV ["name","row"] [some 1,none] rfl rfl (by kernel_rfl) (KQ (aF (K:=K) rfl (pv 0) rfl)) (fun _ _ _ _ _ nd=>bg (i:=1) nd rfl (Ql rfl)) (fun _ _ _ _ _=>(fF (br K rfl (aT fy c9 hr (aa (pv 1) (aa (pv 0) ae)))))) (fun _ _ _ _ _=>(pv 1))) ae))))),?_⟩;obtain⟨d,rs,tb,n,x,c,S,ht,k⟩:=h;obtain⟨⟨C,dx,eC,hp⟩,hd,hrw,hhs,htd,hap⟩:=id S;rw[aZ]at eC;cases eC;obtain⟨cl,n1⟩:=id aV;have lrs:rs.length=tb.length:=Qk hrw;have ltb:tb.length<64:=by
  have:=jF (hhs.up.imp fun h=>by omega) hhs.rg;rw[gm]at this;exact this
 refine Nv (d:=d) hd ?_;clean_wf;refine PV hd fun o A hA sA=>?_;intro D hD;have nDd:D≠d:=fun z=>by rw[z,hA]at hD;cases hD
 refine Ea (fun i σ H'=>∃v ys,σ=[some (.ref t),v]/\Same A H'/\H' D=some (.lst ys)/\ys.length=rch (tb.take i) x c/\ys.length<=i) ⟨none,[],rfl,aB hD,af,by simp[rch],oh _⟩ ?_ ?_ ?_
 ·rintro i σ H' _ ⟨_,_,_,z,_⟩;exact z _ _ hA
 ·rintro i ky v σ H' hkv ⟨v1,ys,rfl,sm,hDx,hy,hyi⟩;obtain⟨q,hq,rfl,rfl⟩:=MD hkv;obtain⟨e,r,he,e1,e2,e3⟩:=iF hrw hq;have hi:=(pk.mp he).1;have nrd:r≠d:=fun z=>hap q (QA hq) (by rw[e2,z]);have hr':=sm _ _ (sA _ _ nrd e3);have ht':=sm _ _ (sA _ _ (cR ht hd (by intro z;cases z)) ht);rw[e2];clean_wf;refine⟨r,t,rfl,_,_,_,_,.inl hr',SqT.of ht',?_⟩;clean_wf;refine dO (fun h1=>?_) fun h1=>?_
  ·have h1:c<=ct e.2 x:=of_decide_eq_true h1;clean_wf;refine⟨_,hDx,aD (by omega),_,_,rfl,fun b o z=>?_,af,?_,?_⟩
   ·rw[aj (ai z hD)];exact sm b o z
   ·rw[xp,hy,yw he,if_pos h1];rfl
   ·rw[xp];exact Sl hyi
  ·have h1:¬ c<=ct e.2 x:=fun z=>h1 (decide_eq_true z);exact⟨_,ys,rfl,sm,hDx,by rw[hy,yw he,if_neg h1];rfl,by omega⟩
 rintro σ H' ⟨v1,ys,rfl,sm,hDx,hy,hyi⟩;rw[tL,lrs,Qq]at hy;clean_wf;refine⟨⟨o,sm _ _ hA⟩,?_⟩;rw[hy];exact k _ (DW (fun b u n e=>sm _ _ (sA b u n e)) hd)
def nQ(K:cw)(mg:pe->Option cT):Sp:=fun vs H Q _=>∃(p a:dk),vs=[.ref p,.ref a]/\∃d rs tb xs ns,KnAt K mg H p d rs tb/\(SqL K H a xs∨SqT K H a xs)/\Nms H xs ns/\ns.length<=1000/\∀H',Same H H'->Q (.int (sur tb ns)) H'
abbrev zR:List pe:=["self","places"]
theorem sc_Known_sure:FnScope ["self","places","so_many","name"] zR (aw jP):=fsc
variable{nA:dk}{kR:xw}(nP:FnOk P w K mg base CX0 3 nA kR y8 (lR K mg))(ng:Binds K kR y8 [])(eT:Meth K cW "reach" nA)
include eV nP ng d5 aV aZ eT in
theorem vF(F:Fun K "sure" "Known.sure" jP f fd):FnOk P w K mg base CX0 4 f fd zR (nQ K mg):=by
 refine F.oj sc_Known_sure ?_;rintro _ _ _ _ H _ _ _ hr _ _ _ ⟨p,a,rfl,h⟩;refine⟨_,(ak (aY (i:=2) sc_Known_sure.nd rfl (Ql rfl) aM)
   (ak (vp Sh rfl (Di (K:=K) rfl (pv 1)) (bg (i:=3) sc_Known_sure.nd rfl (Ql rfl))
   (ak (d7 (bD O4 (bH Gp aM (dU (MOk.cons aV.cl eT nP ng MOk.nil) (pv 0) hr (aa (pv 3) ae))) (aQ uQ (by rfl) d5 RG (aa (aF (K:=K) rfl (pv 0) rfl) ae)) (bw _)) (ax HX) bS)
   (ax (aY (i:=2) sc_Known_sure.nd rfl (Ql rfl) (bH jD (pv 2) aM)))))
   (ax (aL (pv 2))))),?_⟩
 obtain⟨d,rs,tb,xs,ns,S,hS,hn,ln,k⟩:=h;have hl:=hn.len;have m2:∀z:Int,CMul 2 z:=fun z=>.inl ⟨by decide,by decide⟩;clean_wf;refine HV hS (fun i σ H'=>∃v,σ=[some (.ref p),some (.ref a),some (.int i),v]/\Same H H'/\∀k (hk:k<ns.length),k<i->¬ 2*rch tb ns[k].2.1 ns[k].2.2<=tb.length) ⟨none,rfl,Same.refl _,fun _ _ z=>absurd z (Uv _)⟩ (fun i σ' H' _ z=>by obtain⟨_,_,z,_⟩:=z;exact z) ?_ ?_
 ·rintro i x σ H' hx ⟨v,rfl,sm,hi⟩;obtain⟨q,hq,t,rfl,ht⟩:=hn.get hx;obtain⟨hil,rfl⟩:=pk.mp hq;have S':=P0 sm S;obtain⟨⟨C,dx,eC,hp⟩,hd,hrw,hhs,htd,hap⟩:=id S';rw[aZ]at eC;cases eC;obtain⟨cl,n1⟩:=id aV;have lrs:rs.length=tb.length:=Qk hrw;clean_wf;refine Dc (fun σ' H3=>σ'=[some (.ref p),some (.ref a),some (.int i),some (.ref t)]/\Same H H3/\¬ 2*rch tb ns[i].2.1 ns[i].2.2<=tb.length) ?_ fun N rest=>?_
  ·rintro σ' H3 ⟨rfl,sm3,hno⟩;clean_wf;refine⟨_,rfl,sm3,fun k hk h=>?_⟩;rcases TB k i with z|z
   ·exact hi k hk z
   ·obtain rfl:k=i:=by omega
    exact hno
  ·have mm:=m2 (rch tb ns[i].2.1 ns[i].2.2);clean_wf;refine⟨p,t,rfl,d,rs,tb,_,_,_,S',sm _ _ ht,fun H2 s2=>?_⟩;have hd2:=s2 _ _ hd;have hp2:=s2 _ _ hp;clean_wf;rw[tL,lrs];refine dO (fun h1=>?_) fun h1=>?_
   ·have h1:2*((rch tb ns[i].2.1 ns[i].2.2:Nat):Int)<=((tb.length:Nat):Int):=of_decide_eq_true h1;have h1:2*rch tb ns[i].2.1 ns[i].2.2<=tb.length:=by omega
    clean_wf;have:=Bb (tb:=tb) (ns:=ns) hi (by omega) fun _=>h1;rw[←this];exact k _ (sm.trans s2)
   ·have h1:¬ 2*((rch tb ns[i].2.1 ns[i].2.2:Nat):Int)<=((tb.length:Nat):Int):=fun z=>h1 (decide_eq_true z);exact rest _ _ ⟨rfl,sm.trans s2,by omega⟩
 rintro σ H' ⟨v,rfl,sm,hi⟩;clean_wf;rw[hl]at hi⊢;have:=Bb (tb:=tb) (ns:=ns) hi (oh _) fun z=>absurd z (QD _);rw[←this];exact k _ sm
def lA(K:cw)(mg:pe->Option cT):Sp:=fun vs H Q _=>∃(p:dk),vs=[.ref p]/\∃d rs tb,KnAt K mg H p d rs tb/\tb≠[]/\tb.length<=10/\∀H' q j,Same H H'->H q=none->H' q=some (.dK (dI j))->Td j->(∀k,BN (tb.map (·.2)) k (ct j k))->Q (.ref q) H'
theorem DD{H:Hp}:∀{rs:List (Int×V)} {tb:List (Int×List (Int×Int))},Rws H rs tb->Dcs H ((dG rs).map (·.2)) (tb.map (·.2))
 |_,_,.nil=>.nil
 |_,_,.cons ⟨_,r,e2,e3⟩ t=>.cons ⟨r,e2,.inl e3⟩ (DD t)
theorem uj:FnScope ["self"] aJ (aw ja):=fsc
variable{An:dk}{wQ:xw}(Ay:FnOk P w K mg base CX0 3 An wQ t9 (vZ K))(zU:Cal K mg "common" An wQ t9)
include eV Ay zU cM aV aZ in
theorem uk(F:Fun K "floor" "Known.floor" ja f fd):FnOk P w K mg base CX0 4 f fd aJ (lA K mg):=by
 refine F.oj uj ?_;rintro _ _ _ _ H _ _ _ hr _ _ _ ⟨p,rfl,h⟩;refine⟨_,(ax (aL (aT Ay zU hr (aa (bF (BZ rfl) (by rfl) cM Q5 (aa (va Ry RT TF Bi (aF (K:=K) rfl (pv 0) rfl)) ae)) ae)))),?_⟩;obtain⟨d,rs,tb,S,hne,h10,k⟩:=h;obtain⟨⟨C,dx,eC,hp⟩,hd,hrw,hhs,htd,hap⟩:=id S;rw[aZ]at eC;cases eC;obtain⟨cl,n1⟩:=id aV;have lrs:rs.length=tb.length:=Qk hrw;clean_wf;refine⟨d,_,rfl,rfl,hd,fun v hv=>?_⟩;have s1:=aB (o:=VwO v d) hv;have g1:(upd H v (VwO v d)) v=some (VwO v d):=af;generalize upd H v (VwO v d)=H1 at s1 g1⊢;clean_wf;refine⟨v,d,_,rfl,g1,.inl (s1 _ _ hd),by rw[tL];omega,fun l hl=>?_⟩;have s2:=aB (o:=.lst ((dG rs).map (·.2))) hl;have g2:(upd H1 l (.lst ((dG rs).map (·.2)))) l=some (.lst ((dG rs).map (·.2))):=af;generalize upd H1 l (.lst ((dG rs).map (·.2)))=H2 at s2 g2⊢;clean_wf;have hne':tb.map (·.2)≠[]:=fun z=>hne (Tp.mp z);refine⟨l,_,_,rfl,SqL.of g2,DD (dQ (fun _ _ q=>s2 _ _ (s1 _ _ q)) hrw),fun m hm=>?_,by rw[gm];exact h10,fun H3 q j s3 hq g3 tj _ mn=>?_⟩
 ·obtain⟨e,he,rfl⟩:=QE.mp hm;exact(htd e he).toCk
 ·exact k H3 q j (s1.trans (s2.trans s3)) (s1.free (s2.free hq)) g3 tj (mn hne')
def TldA(H:Hp)(v:V)(x:Cll):Prop:=∃a t xs,v=.ref a/\H a=some (.tup [.int x.n,.int x.c,.int x.k,.str x.kd,.int x.w,.ref t])/\H t=some (.tup xs)/\Prs H xs x.cs
theorem TldA.up(s:SmH H H'){x:Cll}(h:TldA H v x):TldA H' v x:=by
 obtain⟨a,t,xs,e1,e2,e3,e4⟩:=h;exact⟨a,t,xs,e1,s _ _ e2,s _ _ e3,e4.mono s⟩
def tlD(x:Cll):Rp:=.tuple [.int x.n,.int x.c,.int x.k,.str x.kd,.int x.w,.tuple (x.cs.map prD)]
def jX(K:cw):Sp:=fun vs H Q _=>∃(p:dk),vs=[.ref p]/\Q (.str "own") H
def iD(K:cw):Sp:=fun vs H Q _=>∃(p:dk),vs=[.ref p]/\Q (.str "heard") H
def kh(K:cw):Sp:=fun vs H Q _=>∃(p:dk),vs=[.ref p]/\Q (.str "one") H
theorem sS:FnScope ["self"] aJ (aw gQ):=fsc
include eV in
theorem sy(F:Fun K "kind" "OwnCall.kind" gQ f fd):FnOk P w K mg base CX0 1 f fd aJ (jX K):=by
 refine F.oj sS ?_;rintro _ _ _ _ _ _ _ _ _ _ _ _ ⟨p,rfl,h⟩;refine⟨_,(ax (aL eu)),?_⟩;clean_wf;exact h
theorem pj:FnScope ["self"] aJ (aw fh):=fsc
include eV in
theorem qm(F:Fun K "kind" "HeardCall.kind" fh f fd):FnOk P w K mg base CX0 1 f fd aJ (iD K):=by
 refine F.oj pj ?_;rintro _ _ _ _ _ _ _ _ _ _ _ _ ⟨p,rfl,h⟩;refine⟨_,(ax (aL eu)),?_⟩;clean_wf;exact h
theorem sT:FnScope ["self"] aJ (aw ir):=fsc
include eV in
theorem sV(F:Fun K "kind" "OneCall.kind" ir f fd):FnOk P w K mg base CX0 1 f fd aJ (kh K):=by
 refine F.oj sT ?_;rintro _ _ _ _ _ _ _ _ _ _ _ _ ⟨p,rfl,h⟩;refine⟨_,(ax (aL eu)),?_⟩;clean_wf;exact h
def jQ(K:cw)(mg:pe->Option cT):Sp:=fun vs H Q _=>∃(v:V),vs=[v]/\∃x,CllA K mg H v x/\∀H' t,Same H H'->H t=none->TldA H' (.ref t) x->Q (.ref t) H'
theorem yt:FnScope ["self"] aJ (aw mf):=fsc
variable{mE:dk}{jA:dk}{kP:dk}{jV:xw}{iG:xw}{kg:xw}(kK:FnOk P w K mg base CX0 1 mE jV aJ (jX K))(mI:Binds K jV aJ [])(jz:FnOk P w K mg base CX0 1 jA iG aJ (iD K))(jv:Binds K iG aJ [])(lD:FnOk P w K mg base CX0 1 kP kg aJ (kh K))(lj:Binds K kg aJ [])(df:Meth K aR "kind" jA)(dW:Meth K bf "kind" kP)(dZ:Meth K bc "kind" mE)
include eV kK mI jz jv lD lj au az ay av aA aC df dW dZ in
theorem ya(F:Fun K "told" "Call.told" mf f fd):FnOk P w K mg base CX0 2 f fd aJ (jQ K mg):=by
 refine F.oj yt ?_;rintro _ _ _ _ H _ _ _ hr _ _ _ ⟨v,rfl,h⟩;refine⟨_,(ax (aL (cg (aa (aF (K:=K) rfl (pv 0) rfl) (aa (aF (K:=K) rfl (pv 0) rfl) (aa (aF (K:=K) rfl (pv 0) rfl) (aa (aX (MOk.cons ay.cl dZ kK mI (MOk.cons au.cl df jz jv (MOk.cons az.cl dW lD lj MOk.nil))) (pv 0) hr) (aa (aF (K:=K) rfl (pv 0) rfl) (aa (aF (K:=K) rfl (pv 0) rfl) ae))))))))),?_⟩;obtain⟨x,⟨p,C,dx,t,xs,rfl,hk,hT,hp,ht,hx,hc⟩,kk⟩:=h;obtain⟨kd,n,c,k,w,cs⟩:=x;have hk:KdC mg kd C:=hk;have hp:H p=some (.ins C dx (cfl (.int n) (.int c) (.int k) (.int w) (.ref t))):=hp;have hx:Prs H xs cs:=hx;obtain⟨cl,n1,n2,n3,n4,n5⟩:=id hT;rcases hk with⟨rfl,e⟩|⟨rfl,e⟩|⟨rfl,e⟩
 ·rw[aC]at e;cases e;clean_wf;refine⟨p,rfl,?_⟩;clean_wf;intro u H1 hu1 s1 g1;exact kk H1 u s1 hu1 ⟨u,t,xs,rfl,g1,s1 _ _ ht,hx.mono (SmH.same s1)⟩
 ·rw[av]at e;cases e;clean_wf;refine⟨p,rfl,?_⟩;clean_wf;intro u H1 hu1 s1 g1;exact kk H1 u s1 hu1 ⟨u,t,xs,rfl,g1,s1 _ _ ht,hx.mono (SmH.same s1)⟩
 ·rw[aA]at e;cases e;clean_wf;refine⟨p,rfl,?_⟩;clean_wf;intro u H1 hu1 s1 g1;exact kk H1 u s1 hu1 ⟨u,t,xs,rfl,g1,s1 _ _ ht,hx.mono (SmH.same s1)⟩
abbrev ur:QB:=top 44
abbrev rh:QB:=top 34
abbrev xV:QB:=top 21
structure Pg where
 me:Int
 nu:Int
 ha:Int
 ro:Int
 ma:Int
 dn:List (Int×Int)
 tk:List (V×Cll)
 kp:List (V×Cll)
 od:List Nm
 ta:List (Int×List (Int×Int))
 ab:List (Int×List (Int×Int))
variable{S:Pg}{ro:Int}
structure PgX where
 d:dk
 t:dk
 k:dk
 o:dk
 ta:dk
 da:dk
 ab:dk
 db:dk
 ra:List (Int×V)
 rb:List (Int×V)
variable{x:PgX}
def rwa(rs:List (Int×V)):List dk:=rs.filterMap fun q=>match q.2 with| .ref r=>some r|_=>none
theorem rwa_mem{r:dk}:r∈rwa rs↔∃q∈rs,q.2=.ref r:=by
 unfold rwa;rw[Tt];constructor
 ·rintro⟨q,hq,e⟩;refine⟨q,hq,?_⟩;split at e
  ·rename_i r' e';cases e;exact e'
  ·cases e
 ·rintro⟨q,hq,e⟩;exact⟨q,hq,by rw[e]⟩
def PgX.ft(x:PgX)(p:dk):List dk:=[p,x.d,x.t,x.k,x.o,x.ta,x.da,x.ab,x.db]++(rwa x.ra++rwa x.rb)
def nmk(x:Cll):List Key:=[GV x.n,GV x.c,GV x.k]
def kpe(q:V×Cll):List Key×V:=(nmk q.2,q.1)
structure PgA(K:cw)(mg:pe->Option cT)(H:Hp)(p:dk)(S:Pg)(x:PgX):Prop where
 ob:∃C dx,mg "Page"=some (.ref C)/\TPage K C/\H p=some (.ins C dx (pfl (.int S.me) (.int S.nu) (.int S.ha) (.int S.ro) (.int S.ma) (.ref x.d) (.ref x.t) (.ref x.k) (.ref x.o) (.ref x.ta) (.ref x.ab)))
 dn:H x.d=some (.dK (dI S.dn))
 td:Td S.dn
 tk:H x.t=some (.lst (S.tk.map (·.1)))
 tc:∀q∈S.tk,CllA K mg H q.1 q.2
 kp:H x.k=some (.dT (S.kp.map kpe))
 kc:∀q∈S.kp,CllA K mg H q.1 q.2
 kn:(S.kp.map fun q=>nmk q.2).Nodup
 kr:∀q∈S.kp,0<=q.2.c/\q.2.c<63
 od:∃xs,H x.o=some (.lst xs)/\Nms H xs S.od
 ta:KnAt K mg H x.ta x.da x.ra S.ta
 ab:KnAt K mg H x.ab x.db x.rb S.ab
 to:x.t≠x.o
 dd:x.d≠x.da/\x.d≠x.db/\x.da≠x.db
 rr:∀q∈x.ra++x.rb,q.2≠V.ref x.d/\q.2≠V.ref x.da/\q.2≠V.ref x.db
 me:0<=S.me/\S.me<63
 ha:0<=S.ha/\S.ha<9223372036854775808
def FtO:HO->Prop
 | .dK _=>True
 | .lst _=>True
 | .dT _=>True
 | .ins _ _ fs=>fs.length≠5
 |_=>False
theorem PgA.fto(h:PgA K mg H p S x):∀a∈x.ft p,∃o,H a=some o/\FtO o:=by
 intro a ha;unfold PgX.ft at ha;obtain⟨C,dx,_,_,hp⟩:=h.ob;obtain⟨⟨C1,dx1,_,h1⟩,h2,h3,_⟩:=h.ta;obtain⟨⟨C2,dx2,_,h4⟩,h5,h6,_⟩:=h.ab;obtain⟨xs,ho,_⟩:=h.od;have rws:∀{rs:List (Int×V)} {tb:List (Int×List (Int×Int))},Rws H rs tb->a∈rwa rs->∃o,H a=some o/\FtO o:=fun{rs tb} rw hr=>by
  obtain⟨q,hq,e⟩:=rwa_mem.mp hr;obtain⟨i,hi⟩:=QJ hq;obtain⟨_,r,_,_,e2,e3⟩:=iF rw hi;rw[e]at e2;cases e2;exact⟨_,e3,trivial⟩
 rcases Qw.mp ha with z|z
 ·simp only[uc,Qy,or_false]at z;rcases z with rfl|rfl|rfl|rfl|rfl|rfl|rfl|rfl|rfl
  ·exact⟨_,hp,by show(11:Nat)≠5;decide⟩
  ·exact⟨_,h.dn,trivial⟩
  ·exact⟨_,h.tk,trivial⟩
  ·exact⟨_,h.kp,trivial⟩
  ·exact⟨_,ho,trivial⟩
  ·exact⟨_,h1,by show(1:Nat)≠5;decide⟩
  ·exact⟨_,h2,trivial⟩
  ·exact⟨_,h4,by show(1:Nat)≠5;decide⟩
  ·exact⟨_,h5,trivial⟩
 ·rcases Qw.mp z with z|z
  ·exact rws h3 z
  ·exact rws h6 z
def Off(F:List dk)(H H':Hp):Prop:=∀b o,H b=some o->b∉F->H' b=some o
theorem Off.refl(F:List dk)(H:Hp):Off F H H:=fun _ _ e _=>e
theorem Off.of(s:Same A B):Off F A B:=fun b o e _=>s _ _ e
def KpF(H H':Hp):Prop:=∀b o,H b=some o->¬ FtO o->H' b=some o
theorem KpF.same(s:Same H H'):KpF H H':=fun b o e _=>s _ _ e
theorem KpF.smh(k:KpF H H'):SmH H H':=fun b xs e=>k _ _ e (by intro z;exact z)
theorem qo(o:Off F H H')(h:∀a∈F,∃u,H a=some u/\FtO u):KpF H H':=fun b u e n=>o b u e fun z=>by
 obtain⟨v,e1,e2⟩:=h b z;rw[e]at e1;cases e1;exact n e2
theorem CllA.kpf(s:KpF H H'){x:Cll}(h:CllA K mg H v x):CllA K mg H' v x:=by
 obtain⟨p,C,dx,t,xs,e1,e2,e3,e4,e5,e6,e7⟩:=h;exact⟨p,C,dx,t,xs,e1,e2,e3,s _ _ e4 (by intro z;exact z rfl),s _ _ e5 (by intro z;exact z),e6.mono s.smh,e7⟩
theorem fU{d:dk}(h:KnAt K mg H p d rs tb)(o:Off F H H')(hp:p∉F)(hd:d∉F)(hr:∀r∈rwa rs,r∉F):KnAt K mg H' p d rs tb:=by
 obtain⟨⟨C,dx,e,h1⟩,h2,h3,h4,h5,h6⟩:=h;refine⟨⟨C,dx,e,o _ _ h1 hp⟩,o _ _ h2 hd,?_,h4,h5,h6⟩;have go:∀{rs:List (Int×V)} {tb:List (Int×List (Int×Int))},Rws H rs tb->(∀q∈rs,∀r,q.2=.ref r->r∉F)->Rws H' rs tb:=by
  intro rs tb h
  induction h with
  |nil=>intro _;exact .nil
  |cons r t ih=>
   intro n;obtain⟨e,r',e2,e3⟩:=r;exact .cons ⟨e,r',e2,o _ _ e3 (n _ xl _ e2)⟩ (ih fun q hq=>n q (xj _ hq))
 exact go h3 fun q hq r e=>hr r (rwa_mem.mpr ⟨q,hq,e⟩)
theorem PgA.off(h:PgA K mg H p S x)(o:Off F H H')(k:KpF H H')(n:∀a∈x.ft p,a∉F):PgA K mg H' p S x:=by
 obtain⟨C,dx,e1,e2,hp⟩:=h.ob;obtain⟨xs,ho,hn⟩:=h.od;have m:∀{a},a∈[p,x.d,x.t,x.k,x.o,x.ta,x.da,x.ab,x.db]->a∉F:=fun ha=>n _ (Ro _ ha);refine⟨⟨C,dx,e1,e2,o _ _ hp (m (by simp))⟩,o _ _ h.dn (m (by simp)),h.td,o _ _ h.tk (m (by simp)),fun q hq=>(h.tc q hq).kpf k,o _ _ h.kp (m (by simp)),fun q hq=>(h.kc q hq).kpf k,h.kn,h.kr,⟨xs,o _ _ ho (m (by simp)),hn.up k.smh⟩,
  fU h.ta o (m (by simp)) (m (by simp)) (fun r hr=>n r (Qi _ (Ro _ hr))),fU h.ab o (m (by simp)) (m (by simp)) (fun r hr=>n r (Qi _ (Qi _ hr))),h.to,h.dd,h.rr,h.me,h.ha⟩
theorem PgA.same(h:PgA K mg H p S x)(s:Same H H'):PgA K mg H' p S x:=h.off (F:=[]) (Off.of s) (.same s) fun _ _ z=>nomatch z
def wJ(K:cw)(mg:pe->Option cT):Sp:=fun vs H Q _=>∃(v:V),vs=[v]/\∃x,CllA K mg H v x/\Q (.str (if x.kd="one"then "sure"else "ready")) H
theorem DZ:FnScope ["call"] kW (aw ur):=fsc
variable(dy:FnOk P w K mg base CX0 1 cF cU aJ (cS K))(d9:FnOk P w K mg base CX0 1 cG cD aJ (cC K))
include eV dy aN d9 aW au az ay av aA aC aE aG aH in
theorem D6(F:Fun K "why_of" "why_of" ur f fd):FnOk P w K mg base CX0 2 f fd kW (wJ K mg):=by
 refine F.oj DZ ?_;rintro _ _ _ _ H _ Q _ hr _ _ _ ⟨v,rfl,h⟩;refine⟨_,(ax (aL (uI (br K rfl (aX (MOk.cons ay.cl aH dy aN (MOk.cons au.cl aE dy aN (MOk.cons az.cl aG d9 aW MOk.nil))) (pv 0) hr)) eu eu))),?_⟩;obtain⟨x,⟨p,C,dx,t,xs,rfl,hk,hT,hp,ht,hpx,hcs⟩,kk⟩:=h;obtain⟨kd,n,c,k,w,cs⟩:=x;have hk:KdC mg kd C:=hk;have hp:H p=some (.ins C dx (cfl (.int n) (.int c) (.int k) (.int w) (.ref t))):=hp;have kk:Q (.str (if kd="one"then "sure"else "ready")) H:=kk;rcases hk with⟨rfl,e⟩|⟨rfl,e⟩|⟨rfl,e⟩
 ·rw[aC]at e;cases e;rw[if_neg (by decide +kernel)]at kk;clean_wf;refine⟨p,rfl,?_⟩;clean_wf;exact kk
 ·rw[av]at e;cases e;rw[if_neg (by decide +kernel)]at kk;clean_wf;refine⟨p,rfl,?_⟩;clean_wf;exact kk
 ·rw[aA]at e;cases e;rw[if_pos rfl]at kk;clean_wf;refine⟨p,rfl,?_⟩;clean_wf;exact kk
def uH(K:cw)(mg:pe->Option cT):Sp:=fun vs H Q _=>∃(a:dk),vs=[.ref a]/\∃ws cs,SqL K H a ws/\xU K mg H ws cs/\ws.length<64/\∀H' D ws',Same H H'->H D=none->ws'.Perm ws->OrdW (cs.map fun x=>[x.c,x.k]) ws ws'->H' D=some (.lst ws')->Q (.ref D) H'
theorem AK:FnScope ["calls"] ["calls"] (aw rh):=fsc
include eV f6 el dS au az ay av aA aC in
theorem By(F:Fun K "by_rank" "by_rank" rh f fd):FnOk P w K mg base CX0 4 f fd ["calls"] (uH K mg):=by
 refine F.oj AK ?_;rintro _ _ _ _ _ _ _ _ hr _ _ _ ⟨a,rfl,h⟩;refine⟨_,(ax (aL (y6 (K:=K) rfl (aa (pv 0) ae) (by rfl) dS f6 el.mg el.bd (by rfl) hr))),?_⟩;obtain⟨ws,cs,hS,hc,hl,kk⟩:=h;have lw:ws.length=cs.length:=Qk hc;clean_wf;refine⟨a,ws,cs.map fun x=>[x.c,x.k],rfl,hS,hl,by rw[gm];exact lw,fun k hk=>?_,fun i v k H3 Q' hv hk s3 hq=>?_,fun D ws' H' hD pm od s' g'=>?_⟩
 ·obtain⟨x,_,rfl⟩:=QE.mp hk;intro z;cases z
 ·obtain⟨x,hx,cx⟩:=c8 hc hv;rw[CA,hx]at hk;cases hk;exact⟨v,rfl,x,cx.up (.same s3),fun H4 t s4 _ g4=>hq H4 t s4 (SqT.of g4)⟩
 ·exact kk H' D ws' s' hD pm od g'
def ub(n:Int):V:=match GB.hl n with|[]=>.non|a::_=>.int a
def zB(K:cw):Sp:=fun vs H Q _=>∃n:Int,vs=[.int n]/\0<=n/\n<9223372036854775808/\∀H',Same H H'->Q (ub n) H'
theorem G6:FnScope ["hands"] oi (aw xV):=fsc
include eV jT jK rH in
theorem HW(F:Fun K "least" "least" xV f fd):FnOk P w K mg base CX0 4 f fd oi (zB K):=by
 refine F.oj G6 ?_;rintro _ _ _ _ _ _ _ _ hr _ _ _ ⟨n,rfl,h⟩;refine⟨_,(ax (aL (Eb (E3 rfl) (by rfl) rH S5 (aa (aT jT jK hr (aa (pv 0) ae)) ae) (Kw oU LD)))),?_⟩;obtain⟨h0,h1,kk⟩:=h;clean_wf;refine Pu ?_;clean_wf;refine⟨n,rfl,h0,h1,fun H1 l hl s1 g1=>?_⟩;clean_wf;refine⟨l,GB.hl n,_,rfl,rfl,SqL.of g1,fun e=>?_,fun b hb hm=>?_⟩
 ·have:=kk H1 s1;unfold ub at this;rw[e]at this;exact this
 ·have:=kk H1 s1;unfold ub at this;cases e:GB.hl n with
  |nil=>rw[e]at hb;cases hb
  |cons a r=>
   rw[e]at this;have q1:=GB.F7 e b hb;have q2:=hm a (by rw[e];exact xl);have:b=a:=by omega
   subst this;assumption
abbrev fP:QB:=inClass (top 45) 0
def Pg.new(me nu ha ro:Int):Pg:=⟨me,nu,ha,ro,0,[],[],[],[],(GB.hl ha).map fun h=>(h,[]),(GB.hl ha).map fun h=>(h,[])⟩
theorem K2(n:Int):Hs (GB.hl n):=by
 refine⟨?_,fun x hx=>?_⟩
 ·unfold GB.hl;exact List.Pairwise.map _ (fun a b h=>by have:a<b:=h;omega) (GB.iN n.toNat)
 ·unfold GB.hl at hx;obtain⟨h,hh,rfl⟩:=QE.mp hx;have:=(GB.AI.mp hh).1;omega
def ji(K:cw)(mg:pe->Option cT):Sp:=fun vs H Q _=>∃(p:dk) (me nu ha ro:Int),vs=[.ref p,.int me,.int nu,.int ha,.int ro]/\∃C dx,mg "Page"=some (.ref C)/\TPage K C/\H p=some (.ins C dx [])/\0<=ha/\ha<9223372036854775808/\0<=me/\me<63/\
 ∀H' x,(∀b o,H b=some o->b≠p->H' b=some o)->PgA K mg H' p (Pg.new me nu ha ro) x->(∀a∈x.ft p,a=p∨H a=none)->Q .non H'
abbrev yy:List pe:=["self","me","number","hands","room"]
theorem qF:FnScope ["self","me","number","hands","room"] yy (aw fP):=fsc
variable{jo:dk}{iA:xw}(fm:FnOk P w K mg base CX0 4 jo iA yA (iW K))(fi:Binds K iA yA [])(qA:Mk K cW jo)
include eV fm fi aV aZ qA in
theorem qN(F:Fun K "__init__" "Page.__init__" fP f fd):FnOk P w K mg base CX0 6 f fd yy (ji K mg):=by
 refine F.oj qF ?_;rintro _ A _ s H _ _ _ hr _ _ _ ⟨p,me,nu,ha,ro,rfl,h⟩;refine⟨_,(ak (bL (K:=K) rfl (pv 0) (pv 1) rfl)
   (ak (bL (K:=K) rfl (pv 0) (pv 2) rfl)
   (ak (bL (K:=K) rfl (pv 0) (pv 3) rfl)
   (ak (bL (K:=K) rfl (pv 0) (pv 4) rfl)
   (ak (bL (K:=K) rfl (pv 0) aM rfl)
   (ak (bL (K:=K) rfl (pv 0) uY rfl)
   (ak (bL (K:=K) rfl (pv 0) (dN ae) rfl)
   (ak (bL (K:=K) rfl (pv 0) Ij rfl)
   (ak (bL (K:=K) rfl (pv 0) (dN ae) rfl)
   (ak (bL (K:=K) rfl (pv 0) (mR qA fm hr rfl aZ fi .nil nZ (aa (pv 3) ae)) rfl)
   (ax (bL (K:=K) rfl (pv 0) (mR qA fm hr rfl aZ fi .nil nZ (aa (pv 3) ae)) rfl)))))))))))),?_⟩
 obtain⟨C,dx,mP,T,hp,h0,h1,m0,m1,kk⟩:=h;obtain⟨cl,n1,n2,n3,n4,n5,n6,n7,n8,n9,n10,n11⟩:=id T;clean_wf;intro H1 b1 g1;clean_wf;intro H2 b2 g2;clean_wf;intro H3 b3 g3;clean_wf;intro H4 b4 g4;clean_wf;intro H5 b5 g5;have k5:∀b o,H b=some o->b≠p->H5 b=some o:=fun b o e n=>b5.at n (b4.at n (b3.at n (b2.at n (b1.at n e))));clean_wf;intro d A1 hd s1 gd;have g5':=s1 _ _ g5;clean_wf;intro H6 b6 g6;clean_wf;intro t A2 ht s2 gt;have g6':=s2 _ _ g6;clean_wf;intro H7 b7 g7;clean_wf;intro k hk;have s3:=aB (o:=.dT []) hk;have gk:(upd H7 k (.dT [])) k=some (.dT []):=af;generalize upd H7 k (.dT [])=A3 at s3 gk⊢;have g7':=s3 _ _ g7;clean_wf;intro H8 b8 g8;clean_wf;intro o A4 ho s4 go;have g8':=s4 _ _ g8;clean_wf;intro H9 b9 g9;have st:∀{A B:Hp},But p A B->∀b u,A b=some u->b≠p->B b=some u:=fun s b u e n=>s.at n e;have k9:∀b u,H b=some u->b≠p->H9 b=some u:=fun b u e n=>b9.at n (s4 _ _ (b8.at n (s3 _ _ (b7.at n (s2 _ _ (b6.at n (s1 _ _ (k5 b u e n))))))));have np:∀{a:dk} {A:Hp} {u:HO},A p=some u->A a=none->a≠p:=fun e n z=>by rw[z]at n;rw[n]at e;cases e
 have ndp:=np g5 hd;have ntp:=np g6 ht;have nkp:=np g7 hk;have nop:=np g8 ho;have gd9:H9 d=some (.dK []):=b9.at ndp (s4 _ _ (b8.at ndp (s3 _ _ (b7.at ndp (s2 _ _ (b6.at ndp gd))))));have gt9:H9 t=some (.lst []):=b9.at ntp (s4 _ _ (b8.at ntp (s3 _ _ (b7.at ntp gt))));have gk9:H9 k=some (.dT []):=b9.at nkp (s4 _ _ (b8.at nkp gk));have go9:H9 o=some (.lst []):=b9.at nop go;have back:∀{a:dk},a≠p->H9 a=none->H a=none:=fun{a} n e=>by
  cases z:H a with
  |none=>rfl
  |some u=>rw[k9 a u z n]at e;cases e
 have fr5:∀{a:dk},a≠p->H5 a=none->H a=none:=fun{a} n e=>by
  cases z:H a with
  |none=>rfl
  |some u=>rw[k5 a u z n]at e;cases e
 have fd:=fr5 ndp hd;have k6:∀b u,H b=some u->b≠p->H6 b=some u:=fun b u e n=>b6.at n (s1 _ _ (k5 b u e n));have k7:∀b u,H b=some u->b≠p->H7 b=some u:=fun b u e n=>b7.at n (s2 _ _ (k6 b u e n));have k8:∀b u,H b=some u->b≠p->H8 b=some u:=fun b u e n=>b8.at n (s3 _ _ (k7 b u e n));have fr:∀{a:dk} {A:Hp},(∀b u,H b=some u->b≠p->A b=some u)->a≠p->A a=none->H a=none:=fun{a A} kA n e=>by
  cases z:H a with
  |none=>rfl
  |some u=>rw[kA a u z n]at e;cases e
 have ft:=fr k6 ntp ht;have fk:=fr k7 nkp hk;have fo:=fr k8 nop ho;clean_wf;intro q1 e1 A5 hq1 s5 gq1;have g9':=s5 _ _ g9;refine⟨q1,ha,rfl,_,e1,aV,gq1,h0,h1,fun A6 da ra k6' gq gda hra apa fda fra=>⟨rfl,?_⟩⟩;have nq1:q1≠p:=np g9 hq1;have g9'':=k6' _ _ g9' (QH nq1);clean_wf;intro H10 b10 g10;have k10:∀b u,H9 b=some u->b≠p->b≠q1->H10 b=some u:=fun b u e n1 n2=>b10.at n1 (k6' _ _ (s5 _ _ e) n2);clean_wf;intro q2 e2 A7 hq2 s7 gq2;have g10':=s7 _ _ g10;refine⟨q2,ha,rfl,_,e2,aV,gq2,h0,h1,fun A8 db rb k8' gq' gdb hrb apb fdb frb'=>⟨rfl,?_⟩⟩;have nq2:q2≠p:=np g10 hq2;have g10'':=k8' _ _ g10' (QH nq2);clean_wf;intro H11 b11 g11;rw[Jp]at g11;have k11:∀b u,H10 b=some u->b≠p->b≠q2->H11 b=some u:=fun b u e n1 n2=>b11.at n1 (k8' _ _ (s7 _ _ e) n2);have nn1:∀{a u},H9 a=some u->a≠q1:=fun e z=>by rw[z,hq1]at e;cases e
 have nn2:∀{a u},H10 a=some u->a≠q2:=fun e z=>by rw[z,hq2]at e;cases e
 have up:∀{a u},H9 a=some u->a≠p->H11 a=some u:=fun{a u} e n=>by
  have e10:=k10 _ _ e n (nn1 e);exact k11 _ _ e10 n (nn2 e10)
 have nda:da≠p:=fun z=>by rw[z,g9']at fda;cases fda
 have ndb:db≠p:=fun z=>by rw[z,g10']at fdb;cases fdb
 have gq10:H10 q1=some (.ins _ _ [("learnt",.ref da)]):=b10.at nq1 gq;have gq11:=k11 _ _ gq10 nq1 (nn2 gq10);have gda10:H10 da=some (.dK (dG ra)):=b10.at nda gda;have gda11:=k11 _ _ gda10 nda (nn2 gda10);have rowk:∀{A B:Hp} {rs:List (Int×V)} {tb:List (Int×List (Int×Int))},Rws A rs tb->(∀r m,A r=some (.dK (dI m))->B r=some (.dK (dI m)))->Rws B rs tb:=fun h k=>dQ k h;have hra10:Rws H10 ra _:=dQ (fun r m e=>b10.at (fun z=>by rw[z,g9'']at e;cases e) e) hra;have hra11:Rws H11 ra _:=dQ (fun r m e=>k11 _ _ e (fun z=>by rw[z,g10]at e;cases e) (nn2 e)) hra10;have hrb11:Rws H11 rb _:=dQ (fun r m e=>b11.at (fun z=>by rw[z,g10'']at e;cases e) e) hrb;have gdb11:H11 db=some (.dK (dG rb)):=b11.at ndb gdb;have gqb11:=b11.at nq2 gq';have hks:(((GB.hl ha).map fun h=>(h,([]:List (Int×Int)))).map (·.1))=GB.hl ha:=by
  rw[Ri];exact Vs _
 have td0:∀e∈((GB.hl ha).map fun h=>(h,([]:List (Int×Int)))),Td e.2:=fun e he=>by
  obtain⟨h,_,rfl⟩:=QE.mp he;exact Td.nil
 have kA:KnAt K mg H11 q1 da ra ((GB.hl ha).map fun h=>(h,[])):=⟨⟨_,_,aZ,gq11⟩,gda11,hra11,by rw[hks];exact K2 ha,td0,apa⟩;have kB:KnAt K mg H11 q2 db rb ((GB.hl ha).map fun h=>(h,[])):=⟨⟨_,_,aZ,gqb11⟩,gdb11,hrb11,by rw[hks];exact K2 ha,td0,apb⟩;have A5n:∀{a:dk},A5 a=none->H9 a=none:=fun e=>s5.free e;have A7n:∀{a:dk},A7 a=none->H10 a=none:=fun e=>s7.free e;have h10n:∀{a:dk},a≠p->H10 a=none->H a=none:=fun{a} n e=>by
  cases z:H a with
  |none=>rfl
  |some u=>
   have e9:=k9 a u z n;rw[k10 _ _ e9 n (nn1 e9)]at e;cases e
 refine kk H11 ⟨d,t,k,o,q1,da,q2,db,ra,rb⟩ (fun b u e n=>up (k9 b u e n) n) ⟨⟨C,dx,mP,T,g11⟩,up gd9 ndp,Td.nil,up gt9 ntp,(fun q hq=>nomatch hq),up gk9 nkp,(fun q hq=>nomatch hq),.nil,(fun q hq=>nomatch hq),⟨[],up go9 nop,.nil⟩,kA,kB,?_,⟨?_,?_,?_⟩,fun q hq=>?_,⟨m0,m1⟩,⟨h0,h1⟩⟩ fun a ha=>?_
 ·intro z;have z:t=o:=z;have:H8 o=some (.lst []):=by rw[←z];exact b8.at ntp (s3 _ _ (b7.at ntp gt))
  rw[ho]at this;cases this
 ·intro z;have z:d=da:=z;rw[←z,s5 _ _ gd9]at fda;cases fda
 ·intro z;have z:d=db:=z;rw[←z,s7 _ _ (k10 _ _ gd9 ndp (nn1 gd9))]at fdb;cases fdb
 ·intro z;have z:da=db:=z;rw[←z,s7 _ _ gda10]at fdb;cases fdb
 ·rcases Qw.mp hq with z|z
  ·refine⟨fun w=>?_,apa q z,fun w=>?_⟩
   ·have:=fra q z _ w;rw[s5 _ _ gd9]at this;cases this
   ·obtain⟨i,hi⟩:=QJ z;obtain⟨_,r,_,_,e2',e3⟩:=iF hra10 hi;rw[w]at e2';cases e2';rw[s7 _ _ e3]at fdb;cases fdb
  ·refine⟨fun w=>?_,fun w=>?_,apb q z⟩
   ·have:=frb' q z _ w;rw[s7 _ _ (k10 _ _ gd9 ndp (nn1 gd9))]at this;cases this
   ·have:=frb' q z _ w;rw[s7 _ _ gda10]at this;cases this
 ·rcases Qw.mp ha with z|z
  ·simp only[uc,Qy,or_false]at z;rcases z with rfl|rfl|rfl|rfl|rfl|rfl|rfl|rfl|rfl
   ·exact .inl rfl
   ·exact .inr fd
   ·exact .inr ft
   ·exact .inr fk
   ·exact .inr fo
   ·exact .inr (back nq1 hq1)
   ·exact .inr (back nda (A5n fda))
   ·exact .inr (h10n nq2 hq2)
   ·exact .inr (h10n ndb (A7n fdb))
  ·rcases Qw.mp z with z|z
   ·obtain⟨q,hq,e⟩:=rwa_mem.mp z;have n:=fra q hq _ e;exact .inr (back (fun w=>by rw[w,g9']at n;cases n) (A5n n))
   ·obtain⟨q,hq,e⟩:=rwa_mem.mp z;have n:=frb' q hq _ e;exact .inr (h10n (fun w=>by rw[w,g10']at n;cases n) (A7n n))
abbrev fO:QB:=inClass (top 15) 0
abbrev eI:QB:=inClass (top 45) 1
abbrev lY:QB:=inClass (top 45) 2
abbrev eF:QB:=inClass (top 45) 3
abbrev kG:QB:=inClass (top 45) 6
def jx(K:cw):Sp:=fun vs H Q _=>∃(p:dk) (a b:V),vs=[.ref p,a,b]/\∃C,XaF K C/\Qx K (.ref C) "many"=some none/\Qx K (.ref C) "room"=some none/\H p=some (xM p C none)/\
 ∀H' dx,(∀b o,H b=some o->b≠p->H' b=some o)->H' p=some (xM p C (some dx))->Q .non H'
abbrev Aa:List pe:=["self","many","room"]
theorem qM:FnScope ["self","many","room"] Aa (aw fO):=fsc
include eV in
theorem qS(F:Fun K "__init__" "Held.__init__" fO f fd):FnOk P w K mg base CX0 1 f fd Aa (jx K):=by
 refine F.oj qM ?_;rintro _ _ _ _ _ _ _ _ _ _ _ _ ⟨p,a,b,rfl,h⟩;refine⟨_,(ak (Ds (K:=K) rfl (pv 0) (pv 1) rfl)
   (ax (Ds (K:=K) rfl (pv 0) (pv 2) rfl))),?_⟩
 obtain⟨C,xa,y1,y2,hp,kk⟩:=h;clean_wf;refine HC ?_;clean_wf;refine⟨p,C,rfl,xa,y1,.inl ⟨hp,fun dx hd nd=>?_⟩⟩;clean_wf;refine HC ?_;clean_wf;refine⟨p,C,rfl,xa,y2,.inr ⟨dx,_,af,by rw[aj nd,af],by show(1:Nat)<1000;decide,?_⟩⟩;refine kk _ dx (fun b o e n=>?_) (by rw[aj (QH nd),af]);have nb:b≠dx:=fun z=>by rw[z,hd]at e;cases e
 rw[aj nb,aj n,aj nb];exact e
def Flr(tb:List (Int×List (Int×Int)))(j:List (Int×Int)):Prop:=Td j/\∀k,BN (tb.map (·.2)) k (ct j k)
def ic(K:cw)(mg:pe->Option cT):Sp:=fun vs H Q E=>∃(p:dk),vs=[.ref p]/\∃S x,PgA K mg H p S x/\S.ta≠[]/\S.ta.length<=10/\
 (∀H' j,Same H H'->Flr S.ta j->S.ma-ct j S.me<S.ro->Q .non H')/\∀H' j ea C,Same H H'->Flr S.ta j->¬ (S.ma-ct j S.me<S.ro)->mg "Held"=some (.ref C)->H ea=none->E (.ref ea) (some C) H'
theorem sc_Page_check_room:FnScope ["self","held"] aJ (aw eI):=fsc
variable{nF:dk}{j9:dk}{bA:dk}{cu:dk}{mv:xw}{jn:xw}(fJ:FnOk P w K mg base CX0 4 nF mv aJ (lA K mg))(fH:Binds K mv aJ [])(j7:FnOk P w K mg base CX0 3 j9 jn Aa (jx K))(jW:Binds K jn Aa [])(a8:TPage K bA)(a9:mg "Page"=some (.ref bA))(cB:Meth K cW "floor" nF)(tO:mg "Held"=some (.ref cu))(tF:XiF K cu j9 [.type "ValueError",.type "Exception",.type "BaseException",.type "object"] "ValueError.__new__")(tu:XaF K cu)(tE:∃N up newId,XCls K cu N up newId/\up.contains (.type "BaseException")=true)(gw:Qx K (.ref cu) "many"=some none)(f9:Qx K (.ref cu) "room"=some none)
include eV fK bp fJ fH j7 jW aV a8 aZ a9 cB tO tF tu tE gw f9 in
theorem om(F:Fun K "check_room" "Page.check_room" eI f fd):FnOk P w K mg base (CXR P w) 5 f fd aJ (ic K mg):=by
 refine F.okX sc_Page_check_room (fun vs H Q E h=>?_) (fun cdv A outer s H vs Q E hr h=>?_)
 ·obtain⟨p,rfl,_⟩:=h;rfl
 obtain⟨p,rfl,h⟩:=h;have hu64:=hr.units;have hu0:=hr.units0;have hu:=FW hr;refine⟨_,(ak (aY (i:=1) sc_Page_check_room.nd rfl (Ql rfl) (bH vn (aF (K:=K) rfl (pv 0) rfl) (aT fK bp hr (aa (aX (MOk.cons aV.cl cB fJ fH MOk.nil) (aF (K:=K) rfl (pv 0) rfl) hr) (aa (aF (K:=K) rfl (pv 0) rfl) ae)))))
   (ax (d7 (bD y4 (pv 1) (aF (K:=K) rfl (pv 0) rfl) (bw _)) (ax (EO (FC PySem.F.excBase_ValueError tF j7 hr (by rfl) tO jW (aa (pv 1) (aa (aF (K:=K) rfl (pv 0) rfl) ae))))) bS))),?_⟩
 obtain⟨S,x,PA,hne,h10,k1,k2⟩:=h;obtain⟨C,dx,mP,T,hp⟩:=PA.ob;obtain⟨cl,n1,n2,n3,n4,n5,n6,n7,n8,n9,n10,n11⟩:=id T;obtain⟨⟨C1,dx1,e1,h1⟩,_⟩:=id PA.ta;rw[aZ]at e1;cases e1;have tK:=aV.cl;have nL:=aV.n1;clean_wf;refine⟨x.ta,rfl,x.da,x.ra,S.ta,PA.ta,hne,h10,fun H1 q j s1 hq g1 tj mn=>?_⟩;have hp1:=s1 _ _ hp;clean_wf;refine⟨q,j,S.me,rfl,.inl g1,?_⟩;clean_wf;refine dO (fun z=>?_) fun z=>?_
 ·have z:S.ro<=S.ma-ct j S.me:=of_decide_eq_true z;clean_wf;refine HA ?_;refine IL ?_;clean_wf;refine⟨by show(2:Nat)<=sizeLine;decide,fun ea he=>?_⟩;refine⟨ea,_,_,rfl,_,tu,gw,f9,af,fun H2 d2 k2' g2=>⟨rfl,?_⟩⟩;have s2:Same H (rmv H2 ea):=fun b o e=>by
   have nb:b≠ea:=fun w=>by rw[←w,s1 _ _ e]at he;cases he
   rw[yn nb];exact k2' b o (by rw[aj nb];exact s1 _ _ e) nb
  exact⟨ea,_,_,rfl,g2,tE,s1.free he,k2 _ j ea _ s2 ⟨tj,mn⟩ (by omega) tO (s1.free he)⟩
 ·have z:¬ S.ro<=S.ma-ct j S.me:=fun w=>z (decide_eq_true w);exact k1 _ j s1 ⟨tj,mn⟩ (by omega)
def pF(K:cw)(mg:pe->Option cT):Sp:=fun vs H Q _=>∃(p:dk) (v:V),vs=[.ref p,v]/\∃S x c,PgA K mg H p S x/\CllA K mg H v c/\nmk c∉S.kp.map (fun q=>nmk q.2)/\0<=c.c/\c.c<63/\S.kp.length<=900/\
 ∀H',Off [x.k] H H'->PgA K mg H' p {S with kp:=S.kp++[(v,c)]} x->Q .non H'
theorem De{k:List Key}{kvs:List (List Key×V)}(h:k∉kvs.map (·.1)):putK kvs k v=kvs++[(k,v)]:=by
 unfold putK;rw[if_neg];intro z;obtain⟨e,he,e2⟩:=Te.mp z;exact h (QE.mpr ⟨e,he,of_decide_eq_true e2⟩)
theorem Off.kpf1(o:Off [a] H H')(e:H a=some u)(f:FtO u):KpF H H':=qo o fun b hb=>by
 rw[tw.mp hb];exact⟨u,e,f⟩
theorem ne1{v:HO}(h:H a=some u)(h':H b=some v)(d:u≠v):a∉[b]:=fun z=>cR h h' d (tw.mp z)
theorem PgA.setk(h:PgA K mg H p S x)(o:Off [x.k] H H')(gk:H' x.k=some (.dT (kp'.map kpe)))(kc:∀q∈kp',CllA K mg H' q.1 q.2)(kn:(kp'.map fun q=>nmk q.2).Nodup)(kr:∀q∈kp',0<=q.2.c/\q.2.c<63):PgA K mg H' p {S with kp:=kp'} x:=by
 have kf:KpF H H':=o.kpf1 h.kp trivial;obtain⟨C,dx,e1,e2,hp⟩:=h.ob;obtain⟨xs,ho,hn⟩:=h.od;obtain⟨⟨C1,d1,f1,a1⟩,a2,a3,_⟩:=id h.ta;obtain⟨⟨C2,d2,f2,b1⟩,b2,b3,_⟩:=id h.ab;have rw:∀{rs:List (Int×V)} {tb:List (Int×List (Int×Int))},Rws H rs tb->∀r∈rwa rs,r∉[x.k]:=fun{rs tb} R r hr=>by
  obtain⟨q,hq,e⟩:=rwa_mem.mp hr;obtain⟨i,hi⟩:=QJ hq;obtain⟨_,r',_,_,e2,e3⟩:=iF R hi;rw[e]at e2;cases e2;exact ne1 e3 h.kp (by intro z;cases z)
 have n:=fun{a:dk} {u:HO} (e:H a=some u) (d:∀k,u≠.dT k)=>o a u e (ne1 e h.kp (d _));exact⟨⟨C,dx,e1,e2,n hp (by intro _ z;cases z)⟩,n h.dn (by intro _ z;cases z),h.td,n h.tk (by intro _ z;cases z),fun q hq=>(h.tc q hq).kpf kf,gk,kc,kn,kr,⟨xs,n ho (by intro _ z;cases z),hn.up kf.smh⟩,
  fU h.ta o (ne1 a1 h.kp (by intro z;cases z)) (ne1 a2 h.kp (by intro z;cases z)) (rw a3),fU h.ab o (ne1 b1 h.kp (by intro z;cases z)) (ne1 b2 h.kp (by intro z;cases z)) (rw b3),h.to,h.dd,h.rr,h.me,h.ha⟩
abbrev m9:List pe:=["self","call"]
theorem xY:FnScope ["self","call"] m9 (aw lY):=fsc
variable(eG:FnOk P w K mg base CX0 1 d6 gj aJ (gz K))
include eV eG bE au az ay a8 av aA aC a9 a7 bj bo in
theorem xT(F:Fun K "keep" "Page.keep" lY f fd):FnOk P w K mg base CX0 2 f fd m9 (pF K mg):=by
 refine F.oj xY ?_;rintro _ _ _ _ H _ Q _ hr _ _ hu ⟨p,v,rfl,h⟩;refine⟨_,(ax (qt hu (aF (K:=K) rfl (pv 0) rfl) (aX (MOk.cons ay.cl bo eG bE (MOk.cons au.cl a7 eG bE (MOk.cons az.cl bj eG bE MOk.nil))) (pv 1) hr) (pv 1) rfl)),?_⟩;obtain⟨S,x,c,PA,hc,hn,c0,c1,hl,kk⟩:=h;obtain⟨C,dx,mP,T,hp⟩:=PA.ob;obtain⟨cl,n1,n2,n3,n4,n5,n6,n7,n8,n9,n10,n11⟩:=id T;have gk:=PA.kp;obtain⟨pc,Cc,dxc,t,xs,rfl,hk,hT,hpc,ht,hpx,hcs⟩:=id hc;have tail:∀H1 tn,Same H H1->H1 tn=some (.tup [.int c.n,.int c.c,.int c.k])->∃a H4,V.ref x.k=.ref a/\DPut H1 a (.ref tn) (.ref pc) H4/\Q .non H4:=fun H1 tn s1 g1=>by
  have P1:=PA.same s1;refine⟨x.k,_,rfl,DPut.t (k:=nmk c) P1.kp g1 (aD (by rw[gm];omega)),?_⟩;rw[De (by rw[Ri];exact hn)];have o2:Off [x.k] H1 (upd H1 x.k (.dT (S.kp.map kpe++[(nmk c,.ref pc)]))):=fun b u e nb=>by rw[aj (fun z=>nb (tw.mpr z))];exact e
  have kf:KpF H1 _:=o2.kpf1 P1.kp trivial;refine kk _ (fun b u e nb=>o2 b u (s1 _ _ e) nb) (P1.setk o2 (by rw[af,xt];rfl) (fun q hq=>?_) ?_ fun q hq=>?_)
  ·rcases Qw.mp hq with z|z
   ·exact(P1.kc q z).kpf kf
   ·rw[tw.mp z];exact(hc.up (.same s1)).kpf kf
  ·rw[xt,RU];refine⟨PA.kn,by simp,fun a ha b hb z=>?_⟩;have:b=nmk c:=by simpa using hb
   rw[z,this]at ha;exact hn ha
  ·rcases Qw.mp hq with z|z
   ·exact PA.kr q z
   ·rw[tw.mp z];exact⟨c0,c1⟩
 clean_wf;rcases hk with⟨_,e⟩|⟨_,e⟩|⟨_,e⟩
 ·rw[aC]at e;cases e;clean_wf;exact⟨pc,rfl,_,dxc,_,_,_,_,_,hT,hpc,fun H1 tn s1 _ g1=>tail H1 tn s1 g1⟩
 ·rw[av]at e;cases e;clean_wf;exact⟨pc,rfl,_,dxc,_,_,_,_,_,hT,hpc,fun H1 tn s1 _ g1=>tail H1 tn s1 g1⟩
 ·rw[aA]at e;cases e;clean_wf;exact⟨pc,rfl,_,dxc,_,_,_,_,_,hT,hpc,fun H1 tn s1 _ g1=>tail H1 tn s1 g1⟩
def gY(K:cw)(mg:pe->Option cT):Sp:=fun vs H Q _=>∃(p:dk),vs=[.ref p]/\∃S x,PgA K mg H p S x/\S.kp.length<64/\
 ∀H' D (zs:List (V×Cll)),Same H H'->H D=none->zs.Perm S.kp->OrdW (S.kp.map fun q=>[q.2.c,q.2.k]) (S.kp.map (·.1)) (zs.map (·.1))->H' D=some (.lst (zs.map (·.1)))->Q (.ref D) H'
theorem EI{α β:Type}{f:α->β}:∀{l:List α} {ws:List β},ws.Perm (l.map f)->∃zs:List α,zs.Perm l/\zs.map f=ws:=by
 intro l ws h;generalize e:l.map f=m at h
 induction h generalizing l with
 |nil=>exact⟨[],by rw[Tp.mp e],rfl⟩
 |cons x h ih=>
  cases l with
  |nil=>cases e
  |cons a l=>
   rw[Qd]at e;obtain⟨e1,e2⟩:=Sy e;obtain⟨zs,p,q⟩:=ih e2;exact⟨a::zs,p.cons a,by rw[Qd,q,e1]⟩
 |swap x y l'=>
  cases l with
  |nil=>cases e
  |cons a l=>
   cases l with
   |nil=>cases e
   |cons b l=>
    rw[Qd,Qd]at e;obtain⟨e1,e2⟩:=Sy e;obtain⟨e2,e3⟩:=Sy e2;exact⟨b::a::l,V4 a b l,by rw[Qd,Qd,e1,e2,e3]⟩
 |trans h1 h2 ih1 ih2=>
  obtain⟨ys,p1,q1⟩:=ih2 e;obtain⟨zs,p2,q2⟩:=ih1 q1;exact⟨zs,p2.trans p1,q2⟩
theorem Bu{H:Hp}:∀{l:List (V×Cll)},(∀q∈l,CllA K mg H q.1 q.2)->xU K mg H (l.map (·.1)) (l.map (·.2))
 |[],_=>.nil
 |q::l,h=>.cons (h q xl) (Bu fun r hr=>h r (xj _ hr))
theorem oP:FnScope ["self"] aJ (aw eF):=fsc
variable{wt:dk}{uS:xw}(mV:FnOk P w K mg base CX0 4 wt uS ["calls"] (uH K mg))(mX:Cal K mg "by_rank" wt uS ["calls"])
include eV mV mX cM au az ay a8 av aA aC a9 in
theorem oV(F:Fun K "kept_calls" "Page.kept_calls" eF f fd):FnOk P w K mg base CX0 5 f fd aJ (gY K mg):=by
 refine F.oj oP ?_;rintro _ _ _ _ H _ _ _ hr _ _ _ ⟨p,rfl,h⟩;refine⟨_,(ax (aL (aT mV mX hr (aa (bF (zv rfl) (by rfl) cM Q5 (aa (va Ry RT TF GO (aF (K:=K) rfl (pv 0) rfl)) ae)) ae)))),?_⟩;obtain⟨S,x,PA,hl,kk⟩:=h;obtain⟨C,dx,mP,T,hp⟩:=PA.ob;obtain⟨cl,n1,n2,n3,n4,n5,n6,n7,n8,n9,n10,n11⟩:=id T;have gk:=PA.kp;clean_wf;refine⟨.inr (.inr (.inl ⟨rfl,.inr ⟨_,gk⟩⟩)),x.k,_,rfl,rfl,gk,fun v hv=>?_⟩;have s1:=aB (o:=VwO v x.k) hv;have g1:(upd H v (VwO v x.k)) v=some (VwO v x.k):=af;generalize upd H v (VwO v x.k)=H1 at s1 g1⊢;clean_wf;refine⟨v,x.k,_,rfl,g1,.inl (s1 _ _ gk),by rw[gm];omega,fun l hl'=>?_⟩;have s2:=aB (o:=.lst ((S.kp.map kpe).map (·.2))) hl';have g2:(upd H1 l (.lst ((S.kp.map kpe).map (·.2)))) l=some (.lst ((S.kp.map kpe).map (·.2))):=af;generalize upd H1 l (.lst ((S.kp.map kpe).map (·.2)))=H2 at s2 g2⊢;rw[Ri]at g2;have P2:=PA.same (s1.trans s2);have ck:=Bu P2.kc;clean_wf;refine⟨l,rfl,S.kp.map (·.1),S.kp.map (·.2),SqL.of g2,ck,by rw[gm];exact hl,fun H3 D ws' s3 hD pm od g3=>?_⟩;obtain⟨zs,pz,ez⟩:=EI pm;rw[←ez]at od g3;rw[Ri]at od;exact kk H3 D zs (s1.trans (s2.trans s3)) (s1.free (s2.free hD)) pz od g3
def pN(K:cw)(mg:pe->Option cT):Sp:=fun vs H Q _=>∃(p:dk) (v:V),vs=[.ref p,v]/\∃S x c,PgA K mg H p S x/\CllA K mg H v c/\0<=c.c/\c.c<63/\0<c.k/\S.tk.length<=900/\
 ∀H',Off [x.d,x.t] H H'->PgA K mg H' p {S with dn:=dh S.dn c.c c.k,tk:=S.tk++[(v,c)]} x->Q .non H'
theorem PgA.setdt{dn':List (Int×Int)}{tk':List (V×Cll)}(h:PgA K mg H p S x)(o:Off [x.d,x.t] H H')(gd:H' x.d=some (.dK (dI dn')))(td:Td dn')(gt:H' x.t=some (.lst (tk'.map (·.1))))(tc:∀q∈tk',CllA K mg H' q.1 q.2):PgA K mg H' p {S with dn:=dn',tk:=tk'} x:=by
 have kf:KpF H H':=qo o fun b hb=>by
  simp only[uc,Qy,or_false]at hb;rcases hb with rfl|rfl
  ·exact⟨_,h.dn,trivial⟩
  ·exact⟨_,h.tk,trivial⟩
 obtain⟨C,dx,e1,e2,hp⟩:=h.ob;obtain⟨xs,ho,hn⟩:=h.od;obtain⟨⟨C1,d1,f1,a1⟩,a2,a3,_⟩:=id h.ta;obtain⟨⟨C2,d2,f2,b1⟩,b2,b3,_⟩:=id h.ab;have n:∀{a:dk},a≠x.d->a≠x.t->a∉[x.d,x.t]:=fun n1 n2 z=>by
  simp only[uc,Qy,or_false]at z;exact z.elim n1 n2
 have rw:∀{rs:List (Int×V)} {tb:List (Int×List (Int×Int))},Rws H rs tb->(∀q∈rs,q∈x.ra++x.rb)->∀r∈rwa rs,r∉[x.d,x.t]:=fun{rs tb} R sub r hr=>by
  obtain⟨q,hq,e⟩:=rwa_mem.mp hr;obtain⟨i,hi⟩:=QJ hq;obtain⟨_,r',_,_,e2,e3⟩:=iF R hi;rw[e]at e2;cases e2;exact n (fun z=>(h.rr q (sub q hq)).1 (by rw[e,z])) (cR e3 h.tk (by intro z;cases z))
 refine⟨⟨C,dx,e1,e2,o _ _ hp (n (cR hp h.dn (by intro z;cases z)) (cR hp h.tk (by intro z;cases z)))⟩,gd,td,gt,tc,o _ _ h.kp (n (cR h.kp h.dn (by intro z;cases z)) (cR h.kp h.tk (by intro z;cases z))),fun q hq=>(h.kc q hq).kpf kf,h.kn,h.kr,⟨xs,o _ _ ho (n (cR ho h.dn (by intro z;cases z)) (QH h.to)),hn.up kf.smh⟩,
  fU h.ta o (n (cR a1 h.dn (by intro z;cases z)) (cR a1 h.tk (by intro z;cases z))) (n (QH h.dd.1) (cR a2 h.tk (by intro z;cases z))) (rw a3 fun q hq=>Ro _ hq),
  fU h.ab o (n (cR b1 h.dn (by intro z;cases z)) (cR b1 h.tk (by intro z;cases z))) (n (QH h.dd.2.1) (cR b2 h.tk (by intro z;cases z))) (rw b3 fun q hq=>Qi _ hq),h.to,h.dd,h.rr,h.me,h.ha⟩
theorem yp:FnScope ["self","call"] m9 (aw kG):=fsc
include eV au az ay a8 av aA aC a9 in
theorem xh(F:Fun K "take" "Page.take" kG f fd):FnOk P w K mg base CX0 1 f fd m9 (pN K mg):=by
 refine F.oj yp ?_;rintro _ _ _ _ H _ _ _ _ _ _ hu ⟨p,v,rfl,h⟩;refine⟨_,(ak (qt hu (aF (K:=K) rfl (pv 0) rfl) (aF (K:=K) rfl (pv 1) rfl) (aF (K:=K) rfl (pv 1) rfl) rfl)
   (ax (cH (dw (K:=K) rfl (pU QY Q6 Rj dH (aF (K:=K) rfl (pv 0) rfl) (aa (pv 1) ae)))))),?_⟩
 obtain⟨S,x,c,PA,hc,c0,c1,ck,hl,kk⟩:=h;obtain⟨C,dx,mP,T,hp⟩:=PA.ob;obtain⟨cl,n1,n2,n3,n4,n5,n6,n7,n8,n9,n10,n11⟩:=id T;obtain⟨pc,Cc,dxc,t,xs,rfl,hk,hT,hpc,ht,hpx,hcs⟩:=id hc;obtain⟨cl',m1,m2,m3,m4,m5⟩:=id hT;have gd:=PA.dn;have nd:=PA.td.nd;have ld:=PA.td.toCk.len;have gt:=PA.tk;have ls:(S.tk.map (·.1)).length<sizeLine:=aD (by rw[gm];omega);clean_wf;intro H1 b1 g1;have hp1:=b1.of gd hp (by intro z;cases z);have gt1:=b1.of gd gt (by intro z;cases z);clean_wf;intro H2 b2 g2;have ndt:x.d≠x.t:=cR gd gt (by intro z;cases z);have o2:Off [x.d,x.t] H H2:=fun b u e nb=>b2.at (fun z=>nb (by rw[z];simp)) (b1.at (fun z=>nb (by rw[z];simp)) e);have kf:KpF H H2:=qo o2 fun b hb=>by
  simp only[uc,Qy,or_false]at hb;rcases hb with rfl|rfl
  ·exact⟨_,gd,trivial⟩
  ·exact⟨_,gt,trivial⟩
 refine kk H2 o2 (PA.setdt o2 (b2.at ndt g1) (FV PA.td c0 c1 ck) (by rw[g2,xt];rfl) fun q hq=>?_);rcases Qw.mp hq with z|z
 ·exact(PA.tc q z).kpf kf
 ·rw[tw.mp z];exact hc.kpf kf
abbrev iX:QB:=inClass (top 45) 7
def kpl(j:List (Int×Int))(l:List (V×Cll)):List (V×Cll):=l.filter fun q=>!decide (q.2.k<=ct j q.2.c)
def mG(K:cw)(mg:pe->Option cT):Sp:=fun vs H Q _=>∃(p:dk),vs=[.ref p]/\∃S x,PgA K mg H p S x/\S.ta≠[]/\S.ta.length<=10/\S.kp.length<=60/\
 ∀H' k' j,Off [p,x.k] H H'->(∀a,H' a=none->H a=none)->H k'=none->Flr S.ta j->PgA K mg H' p {S with kp:=kpl j S.kp} {x with k:=k'}->Q .non H'
theorem D0(h:(ps.map (·.1)).Nodup):hV ps=ps:=by
 have go:∀(ps acc:List (List Key×V)),((acc++ps).map (·.1)).Nodup->ps.foldl (fun acc p=>putK acc p.1 p.2) acc=acc++ps:=by
  intro ps
  induction ps with
  |nil=>intro acc _;rw[Q2];rfl
  |cons p ps ih=>
   intro acc hn;rw[Sb,De,ih]
   ·rw[RV];rfl
   ·rw[RV];exact hn
   ·rw[xt,RU]at hn;exact fun z=>hn.2.2 _ z _ (by simp) rfl
 exact go ps [] h
theorem PgA.newk{k':dk}(h:PgA K mg H p S x)(o:Off [p,x.k] H H')(ob:∃C dx,mg "Page"=some (.ref C)/\TPage K C/\H' p=some (.ins C dx (pfl (.int S.me) (.int S.nu) (.int S.ha) (.int S.ro) (.int S.ma) (.ref x.d) (.ref x.t) (.ref k') (.ref x.o) (.ref x.ta) (.ref x.ab))))(gk:H' k'=some (.dT (kp'.map kpe)))(kn:(kp'.map fun q=>nmk q.2).Nodup)(sub:∀q∈kp',q∈S.kp):PgA K mg H' p {S with kp:=kp'} {x with k:=k'}:=by
 obtain⟨C,dx,e1,e2,hp⟩:=h.ob;have kf:KpF H H':=qo o fun b hb=>by
  simp only[uc,Qy,or_false]at hb;rcases hb with rfl|rfl
  ·exact⟨_,hp,by show(11:Nat)≠5;decide⟩
  ·exact⟨_,h.kp,trivial⟩
 obtain⟨xs,ho,hn⟩:=h.od;obtain⟨⟨C1,d1,f1,a1⟩,a2,a3,_⟩:=id h.ta;obtain⟨⟨C2,d2,f2,b1⟩,b2,b3,_⟩:=id h.ab;have n:∀{a:dk} {u:HO},H a=some u->(∀k,u≠.dT k)->(∀C dx fs,u=.ins C dx fs->fs.length≠11)->a∉[p,x.k]:=fun e d1 d2 z=>by
  simp only[uc,Qy,or_false]at z;rcases z with rfl|rfl
  ·rw[hp]at e;cases e;exact d2 _ _ _ rfl rfl
  ·rw[h.kp]at e;cases e;exact d1 _ rfl
 have rw:∀{rs:List (Int×V)} {tb:List (Int×List (Int×Int))},Rws H rs tb->∀r∈rwa rs,r∉[p,x.k]:=fun{rs tb} R r hr=>by
  obtain⟨q,hq,e⟩:=rwa_mem.mp hr;obtain⟨i,hi⟩:=QJ hq;obtain⟨_,r',_,_,e2,e3⟩:=iF R hi;rw[e]at e2;cases e2;exact n e3 (by intro _ z;cases z) (by intro _ _ _ z;cases z)
 refine⟨ob,o _ _ h.dn (n h.dn (by intro _ z;cases z) (by intro _ _ _ z;cases z)),h.td,o _ _ h.tk (n h.tk (by intro _ z;cases z) (by intro _ _ _ z;cases z)),fun q hq=>(h.tc q hq).kpf kf,gk,fun q hq=>(h.kc q (sub q hq)).kpf kf,kn,fun q hq=>h.kr q (sub q hq),⟨xs,o _ _ ho (n ho (by intro _ z;cases z) (by intro _ _ _ z;cases z)),hn.up kf.smh⟩,
  fU h.ta o (n a1 (by intro _ z;cases z) (by intro _ _ _ z;cases z;show(1:Nat)≠11;decide)) (n a2 (by intro _ z;cases z) (by intro _ _ _ z;cases z)) (rw a3),fU h.ab o (n b1 (by intro _ z;cases z) (by intro _ _ _ z;cases z;show(1:Nat)≠11;decide)) (n b2 (by intro _ z;cases z) (by intro _ _ _ z;cases z)) (rw b3),h.to,h.dd,h.rr,h.me,h.ha⟩
theorem sc_Page_let_go:FnScope ["self","floor"] aJ (aw iX):=fsc
variable(jk:FnOk P w K mg base CX0 4 i4 hZ EW (gW K))
include eV jk c9 fJ fH fR au aV az ay a8 av aZ aA aC a9 cB in
theorem tS(F:Fun K "let_go" "Page.let_go" iX f fd):FnOk P w K mg base CX0 5 f fd aJ (mG K mg):=by
 refine F.oj sc_Page_let_go ?_;rintro _ A _ _ H _ _ _ hr hu64 _ hu ⟨p,rfl,h⟩;refine⟨_,(ak (aY (i:=1) sc_Page_let_go.nd rfl (XN rfl) (aX (MOk.cons aV.cl cB fJ fH MOk.nil) (aF (K:=K) rfl (pv 0) rfl) hr))
   (ax (bL (K:=K) rfl (pv 0) (bF (rC rfl (SW (Tj (by decide) _) hu64)) (by rfl) fR RY (aa (bV ["floor","name","call"] [some 1,none,none] rfl rfl (by kernel_rfl) (ER (aF (K:=K) rfl (pv 0) rfl)) (fun _ _ _ _ _ nd=>wZ (K:=K) (n:=2) rfl rfl (jr (bg (i:=1) nd rfl (Ql rfl)) (jr (bg (i:=2) nd rfl (Ql rfl)) yq))) (fun _ _ _ _ _=>(fF (jR (br K rfl (aT jk c9 hr (aa (pv 0) (aa (pv 1) ae))))))) (fun _ _ _ _ _=>(cg (aa (pv 1) (aa (pv 2) ae))))) ae)) rfl))),?_⟩
 obtain⟨S,x,PA,hne,h10,hl,kk⟩:=h;obtain⟨C,dx,mP,T,hp⟩:=PA.ob;obtain⟨cl,n1,n2,n3,n4,n5,n6,n7,n8,n9,n10,n11⟩:=id T;obtain⟨⟨C1,dx1,e1,h1⟩,_⟩:=id PA.ta;rw[aZ]at e1;cases e1;have tK:=aV.cl;have nL:=aV.n1;clean_wf;refine⟨x.ta,rfl,x.da,x.ra,S.ta,PA.ta,hne,h10,fun H1 fl j s1 hfl g1 tj mn=>?_⟩;have hp1:=s1 _ _ hp;have P1:=PA.same s1;have gk1:=P1.kp;clean_wf;refine L8 gk1 fun o A hA sA=>?_;intro D hD;have nfl:fl≠x.k:=cR g1 gk1 (by intro z;cases z);refine zJ (fun i σ B=>∃v1 v2 ys,σ=[some (.ref fl),v1,v2]/\Same A B/\B D=some (.lst ys)/\ys.length<=i/\AE B ys ((kpl j (S.kp.take i)).map kpe)) ⟨none,none,[],rfl,aB hD,af,oh _,.nil⟩ ?_ ?_ ?_
 ·rintro i σ B _ ⟨_,_,_,_,z,_⟩;exact z _ _ hA
 ·rintro i k v t b σ B B1 hkv ⟨v1,v2,ys,rfl,sB,gD,ly,pr⟩ ht s1' gt gb;obtain⟨q,hq,e⟩:∃q,S.kp[i]?=some q/\kpe q=(k,v):=by
   rw[CA]at hkv;cases z:S.kp[i]? with
   |none=>rw[z]at hkv;cases hkv
   |some q=>rw[z]at hkv;exact⟨q,rfl,Qj hkv⟩
  cases e;have hi:=(pk.mp hq).1;have gb1:B1 b=some (.tup [.int q.2.n,.int q.2.c,.int q.2.k]):=s1' _ _ gb;have gf1:=s1' _ _ (sB _ _ (sA _ _ nfl g1));have gD1:=s1' _ _ gD;have st:SqT K B1 t [.ref b,q.1]:=SqT.of gt;clean_wf;refine⟨fl,b,rfl,j,_,_,_,.inl gf1,SqT.of gb1,?_⟩;clean_wf;refine dO (fun z=>?_) fun z=>?_
  ·have z:¬ q.2.k<=ct j q.2.c:=by simpa using z
   clean_wf;intro u B2 hu s2 g2;have gD2:=s2 _ _ gD1;have kp:SmH B2 (upd B2 D (.lst (ys++[V.ref u]))):=SmH.lst gD2;refine⟨ys,gD2,aD (by omega),_,_,ys++[.ref u],rfl,fun c o e=>?_,af,by rw[xp];exact Sl ly,?_⟩
   ·rw[aj (ai e hD)];exact s2 _ _ (s1' _ _ (sB c o e))
   ·have e1:kpl j (S.kp.take (i+ 1))=kpl j (S.kp.take i)++[q]:=by
     unfold kpl;rw[aP hq,Qm];congr 1;simp[z]
    rw[e1,xt];exact qP (xS (fun a xs e=>kp _ _ (s2 _ _ (s1' _ _ e))) pr) ⟨u,b,rfl,kp _ _ g2,kp _ _ (s2 _ _ gb1)⟩
  ·have z:q.2.k<=ct j q.2.c:=by simpa using z
   have e1:kpl j (S.kp.take (i+ 1))=kpl j (S.kp.take i):=by
    unfold kpl;rw[aP hq,Qm];simp[z]
   refine⟨_,_,ys,rfl,sB.trans s1',gD1,TZ ly,?_⟩;rw[e1];exact xS (fun a xs e=>s1' _ _ e) pr
 rintro σ B ⟨v1,v2,ys,rfl,sB,gD,ly,pr⟩;rw[gm,Qq]at pr;clean_wf;have nk:((kpl j S.kp).map fun q=>nmk q.2).Nodup:=PA.kn.sublist (List.Sublist.map _ Tn);have lk:=Qf (fun q:V×Cll=>!decide (q.2.k<=ct j q.2.c)) S.kp;refine⟨D,ys,_,rfl,gD,pr,by rw[gm];unfold kpl;omega,fun k' hk'=>?_⟩;have em:hV ((kpl j S.kp).map kpe)=(kpl j S.kp).map kpe:=D0 (by rw[Ri];exact nk);rw[em];have s3:=aB (o:=.dT ((kpl j S.kp).map kpe)) hk';have g3:(upd B k' (.dT ((kpl j S.kp).map kpe))) k'=some (.dT ((kpl j S.kp).map kpe)):=af;generalize upd B k' (.dT ((kpl j S.kp).map kpe))=H3 at s3 g3⊢;have off3:Off [x.k] H H3:=fun b u e nb=>s3 _ _ (sB _ _ (sA _ _ (fun z=>nb (tw.mpr z)) (s1 _ _ e)));have hp3:=off3 _ _ hp (ne1 hp PA.kp (by intro z;cases z));clean_wf;intro H4 b4 g4;rw[BU]at g4;have off4:Off [p,x.k] H H4:=fun b u e nb=>b4.at (fun z=>nb (by rw[z];simp)) (off3 b u e (fun z=>nb (by rw[tw.mp z];simp)));have fk:H k'=none:=s1.free (by
  cases z:H1 k' with
  |none=>rfl
  |some u=>
   by_cases w:k'=x.k
   ·rw[w,sB _ _ hA]at hk';cases hk'
   ·rw[sB _ _ (sA _ _ w z)]at hk';cases hk')
 have nkp:k'≠p:=fun z=>by rw[z,hp]at fk;cases fk
 have nn4:∀a,H4 a=none->H a=none:=fun a e=>by
  cases z:H a with
  |none=>rfl
  |some u=>
   by_cases w:a=p
   ·rw[w,g4]at e;cases e
   ·by_cases v:a=x.k
    ·rw[v]at e w;rw[b4.at w (s3 _ _ (sB _ _ hA))]at e;cases e
    ·rw[off4 a u z (by simp[w,v])]at e;cases e
 refine kk H4 k' j off4 nn4 fk ⟨tj,mn⟩ (PA.newk off4 ⟨C,dx,mP,T,g4⟩ (b4.at nkp g3) nk fun q hq=>(QS.mp hq).1)
theorem LN(u:Rk1 (ws.zip cs))(h:Pw ws cs m ns row gs m'):gs.length+ mz cs m'<=ns.length+ mz cs m:=by
 induction h with
 |start r=>have:=zf r;omega
 |@step row rw gs m1 m2 q j p la fo rn ih=>
  have a:=zf rn;have b:=C6 u la fo rn;rw[xp,Rw];have:(gs.take j).length<=gs.length:=by rw[Q9];omega
  omega
theorem OJ(h0:∀k,0<=ct m0 k)(h:Fw hs (LkC zs) ns m0 rw last m):(∀k,0<=ct m k)/\∀q∈rw,q∈zs/\0<q.2.k:=by
 induction h with
 |start=>exact⟨h0,fun q hq=>nomatch hq⟩
 |@step rw last m v x f e ih=>
  obtain⟨h,_,e1,_⟩:=sX e;obtain⟨e2,e3,e4⟩:=mW e1;have e4:x.k=ct m h+ 1:=e4;have n:=ih.1 h;refine⟨fun k=>?_,fun q hq=>?_⟩
  ·rw[qL];by_cases z:k=x.c
   ·rw[if_pos z];omega
   ·rw[if_neg z];exact ih.1 k
  ·rcases Qw.mp hq with z|z
   ·exact ih.2 q z
   ·rw[tw.mp z];refine⟨e2,?_⟩;show 0<x.k;omega
theorem Oc(h:Rn (zs.map (·.1)) (zs.map (·.2)) m ns rw m'):∀q∈rw,q∈zs/\0<q.2.k:=by
 obtain⟨hs,m0,last,_,t0,_,f,_⟩:=h;have ez:(zs.map (·.1)).zip (zs.map (·.2))=zs:=by
  rw[Yq];exact Vs zs
 rw[ez]at f;exact(OJ (fun k=>t0.toCk.ct k) f).2
def LrR(tb:List (Int×List (Int×Int)))(h:Int)(m:List (Int×Int))(tb':List (Int×List (Int×Int))):Prop:=(tbl tb h=none->tb'=tb)/\∀m0,tbl tb h=some m0->∃j,Td j/\(∀k,Gh [m0,m] k (ct j k))/\tb'=vj tb h j
theorem LrR.keys{tb':List (Int×List (Int×Int))}(l:LrR tb h m tb'):tb'.map (·.1)=tb.map (·.1):=by
 cases z:tbl tb h with
 |none=>rw[l.1 z]
 |some m0=>
  obtain⟨j,_,_,e⟩:=l.2 m0 z;rw[e,vS]
theorem PgA.newo{o':dk}{ma':Int}{od':List Nm}{xs':List V}(h:PgA K mg H p S x)(o:Off [p] H H')(ob:∃C dx,mg "Page"=some (.ref C)/\TPage K C/\H' p=some (.ins C dx (pfl (.int S.me) (.int S.nu) (.int S.ha) (.int S.ro) (.int ma') (.ref x.d) (.ref x.t) (.ref x.k) (.ref o') (.ref x.ta) (.ref x.ab))))(go:H' o'=some (.lst xs'))(hn:Nms H' xs' od')(nto:x.t≠o'):PgA K mg H' p {S with ma:=ma',od:=od'} {x with o:=o'}:=by
 obtain⟨C,dx,e1,e2,hp⟩:=h.ob;have kf:KpF H H':=o.kpf1 hp (by show(11:Nat)≠5;decide);obtain⟨⟨C1,d1,f1,a1⟩,a2,a3,_⟩:=id h.ta;obtain⟨⟨C2,d2,f2,b1⟩,b2,b3,_⟩:=id h.ab;have n:∀{a:dk} {u:HO},H a=some u->(∀C dx fs,u=.ins C dx fs->fs.length≠11)->a∉[p]:=fun e d2 z=>by
  rw[tw.mp z,hp]at e;cases e;exact d2 _ _ _ rfl rfl
 have rw:∀{rs:List (Int×V)} {tb:List (Int×List (Int×Int))},Rws H rs tb->∀r∈rwa rs,r∉[p]:=fun{rs tb} R r hr=>by
  obtain⟨q,hq,e⟩:=rwa_mem.mp hr;obtain⟨i,hi⟩:=QJ hq;obtain⟨_,r',_,_,e2,e3⟩:=iF R hi;rw[e]at e2;cases e2;exact n e3 (by intro _ _ _ z;cases z)
 exact⟨ob,o _ _ h.dn (n h.dn (by intro _ _ _ z;cases z)),h.td,o _ _ h.tk (n h.tk (by intro _ _ _ z;cases z)),fun q hq=>(h.tc q hq).kpf kf,o _ _ h.kp (n h.kp (by intro _ _ _ z;cases z)),fun q hq=>(h.kc q hq).kpf kf,h.kn,h.kr,⟨xs',go,hn⟩,
  fU h.ta o (n a1 (by intro _ _ _ z;cases z;show(1:Nat)≠11;decide)) (n a2 (by intro _ _ _ z;cases z)) (rw a3),fU h.ab o (n b1 (by intro _ _ _ z;cases z;show(1:Nat)≠11;decide)) (n b2 (by intro _ _ _ z;cases z)) (rw b3),nto,h.dd,h.rr,h.me,h.ha⟩
theorem PgA.lrb{rb':List (Int×V)}{ab':List (Int×List (Int×Int))}(h:PgA K mg H p S x)(o:SmB x.db H H')(kn:KnAt K mg H' x.ab x.db rb' ab')(fr:∀q∈rb',q∈x.rb∨∃r,q.2=.ref r/\H r=none):PgA K mg H' p {S with ab:=ab'} {x with rb:=rb'}:=by
 obtain⟨C,dx,e1,e2,hp⟩:=h.ob;obtain⟨xs,ho,hn⟩:=h.od;obtain⟨⟨C1,d1,f1,a1⟩,a2,a3,_⟩:=id h.ta;obtain⟨⟨C2,d2,f2,b1⟩,b2,b3,_⟩:=id h.ab;have of:Off [x.db] H H':=fun b u e n=>o b u (fun z=>n (tw.mpr z)) e;have kf:KpF H H':=of.kpf1 b2 trivial;have n:=fun{a:dk} {u:HO} (e:H a=some u) (d:∀k,u≠.dK k)=>of a u e (ne1 e b2 (d _));have rr:∀r∈rwa x.ra,r∉[x.db]:=fun r hr z=>by
  obtain⟨q,hq,e⟩:=rwa_mem.mp hr;exact(h.rr q (Ro _ hq)).2.2 (by rw[e,tw.mp z])
 refine⟨⟨C,dx,e1,e2,n hp (by intro _ z;cases z)⟩,o _ _ h.dd.2.1 h.dn,h.td,n h.tk (by intro _ z;cases z),fun q hq=>(h.tc q hq).kpf kf,n h.kp (by intro _ z;cases z),fun q hq=>(h.kc q hq).kpf kf,h.kn,h.kr,⟨xs,n ho (by intro _ z;cases z),hn.up kf.smh⟩,
  fU h.ta of (ne1 a1 b2 (by intro z;cases z)) (fun z=>h.dd.2.2 (tw.mp z)) rr,kn,h.to,h.dd,fun q hq=>?_,h.me,h.ha⟩
 rcases Qw.mp hq with z|z
 ·exact h.rr q (Ro _ z)
 ·rcases fr q z with w|⟨r,e,er⟩
  ·exact h.rr q (Qi _ w)
  ·rw[e];refine⟨fun z=>?_,fun z=>?_,fun z=>?_⟩
   ·cases z;rw[h.dn]at er;cases er
   ·cases z;rw[a2]at er;cases er
   ·cases z;rw[b2]at er;cases er
theorem PgA.lra{ra':List (Int×V)}{ta':List (Int×List (Int×Int))}(h:PgA K mg H p S x)(o:SmB x.da H H')(kn:KnAt K mg H' x.ta x.da ra' ta')(fr:∀q∈ra',q∈x.ra∨∃r,q.2=.ref r/\H r=none):PgA K mg H' p {S with ta:=ta'} {x with ra:=ra'}:=by
 obtain⟨C,dx,e1,e2,hp⟩:=h.ob;obtain⟨xs,ho,hn⟩:=h.od;obtain⟨⟨C1,d1,f1,a1⟩,a2,a3,_⟩:=id h.ta;obtain⟨⟨C2,d2,f2,b1⟩,b2,b3,_⟩:=id h.ab;have of:Off [x.da] H H':=fun b u e n=>o b u (fun z=>n (tw.mpr z)) e;have kf:KpF H H':=of.kpf1 a2 trivial;have n:=fun{a:dk} {u:HO} (e:H a=some u) (d:∀k,u≠.dK k)=>of a u e (ne1 e a2 (d _));have rr:∀r∈rwa x.rb,r∉[x.da]:=fun r hr z=>by
  obtain⟨q,hq,e⟩:=rwa_mem.mp hr;exact(h.rr q (Qi _ hq)).2.1 (by rw[e,tw.mp z])
 refine⟨⟨C,dx,e1,e2,n hp (by intro _ z;cases z)⟩,o _ _ h.dd.1 h.dn,h.td,n h.tk (by intro _ z;cases z),fun q hq=>(h.tc q hq).kpf kf,n h.kp (by intro _ z;cases z),fun q hq=>(h.kc q hq).kpf kf,h.kn,h.kr,⟨xs,n ho (by intro _ z;cases z),hn.up kf.smh⟩,
  kn,fU h.ab of (ne1 b1 a2 (by intro z;cases z)) (fun z=>h.dd.2.2 (tw.mp z).symm) rr,h.to,h.dd,fun q hq=>?_,h.me,h.ha⟩
 rcases Qw.mp hq with z|z
 ·rcases fr q z with w|⟨r,e,er⟩
  ·exact h.rr q (Ro _ w)
  ·rw[e];refine⟨fun z=>?_,fun z=>?_,fun z=>?_⟩
   ·cases z;rw[h.dn]at er;cases er
   ·cases z;rw[a2]at er;cases er
   ·cases z;rw[b2]at er;cases er
 ·exact h.rr q (Qi _ z)
def Why(x:Cll):pe:=if x.kd="one"then "sure"else "ready"
def TkA(H:Hp)(v:V)(q:V×Cll):Prop:=∃a tt,v=.ref a/\H a=some (.tup [.ref tt,.str (Why q.2)])/\TldA H (.ref tt) q.2
def TkV(H:Hp)(ys:List V)(rw:List (V×Cll)):Prop:=Paired (TkA H) ys rw
theorem TkA.up(s:SmH H H')(h:TkA H v q):TkA H' v q:=by
 obtain⟨a,tt,e,h1,h2⟩:=h;exact⟨a,tt,e,s _ _ h1,h2.up s⟩
theorem TkV.up(s:SmH H H'){ys:List V}(h:TkV H ys rw):TkV H' ys rw:=Paired.mapP h fun _ _ z=>z.up s
theorem TkV.snoc{H:Hp}:∀{ys:List V} {rw:List (V×Cll)} {v:V} {q:V×Cll},TkV H ys rw->TkA H v q->TkV H (ys++[v]) (rw++[q])
 |_,_,_,_,.nil,h=>.cons h .nil
 |_,_,_,_,.cons r t,h=>.cons r (TkV.snoc t h)
def dnp(m:List (Int×Int))(rw:List (V×Cll)):List (Int×Int):=rw.foldl (fun m q=>dh m q.2.c q.2.k) m
def LS(S S':Pg)(rw:List (V×Cll)):Prop:=∃(zs rw1:List (V×Cll)) (m1 m2:List (Int×Int)) (od':List Nm) (ab' ta':List (Int×List (Int×Int))) (j:List (Int×Int)),
 zs.Perm S.kp/\OrdW (S.kp.map fun q=>[q.2.c,q.2.k]) (S.kp.map (·.1)) (zs.map (·.1))/\(ub S.ha≠.int S.me->od'=S.od)/\(ub S.ha=.int S.me->∃rw0 m0,Pw (zs.map (·.1)) (zs.map (·.2)) S.dn S.od rw0 od' m0/\LaR zs m0 none)/\
 Rn (zs.map (·.1)) (zs.map (·.2)) S.dn od' rw1 m1/\LrR S.ab S.me m1 ab'/\Rn (zs.map (·.1)) (zs.map (·.2)) S.dn (od'.take (sur ab' od')) rw m2/\LrR S.ta S.me (dnp S.dn rw) ta'/\Flr ta' j/\
 S'={S with dn:=dnp S.dn rw,tk:=S.tk++rw,kp:=kpl j S.kp,od:=od',ta:=ta',ab:=ab'}
abbrev kZ:QB:=inClass (top 45) 5
def pA(K:cw)(mg:pe->Option cT):Sp:=fun vs H Q _=>∃(p:dk),vs=[.ref p]/\∃S x,PgA K mg H p S x/\S.ta≠[]/\S.ta.length<=10/\S.kp.length<=60/\S.od.length<=300/\S.tk.length<=800/\S.me∈GB.hl S.ha/\(∀q∈S.kp,q.2.n=S.nu)/\
 ∀H' x' S' rw l ys,Off (x.ft p) H H'->(∀a,H' a=none->H a=none)->PgA K mg H' p S' x'->(∀a∈x'.ft p,a∈x.ft p∨H a=none)->LS S S' rw->H l=none->l∉x'.ft p->H' l=some (.lst ys)->TkV H' ys rw->Q (.ref l) H'
theorem Nu{S:List (V×Cll)}(hn:∀q∈S,q.2.n=n)(nd:(S.map fun q=>nmk q.2).Nodup):Rk1 S:=by
 intro q hq r hr e1 e2;have e:nmk q.2=nmk r.2:=by
  unfold nmk;rw[hn q hq,hn r hr,e1,e2]
 obtain⟨i,hi⟩:=QJ hq;obtain⟨j,hj⟩:=QJ hr;have hi':=(pk.mp hi);have hj':=(pk.mp hj);have:i=j:=by
  have l1:i<(S.map fun q=>nmk q.2).length:=by rw[gm];exact hi'.1
  have l2:j<(S.map fun q=>nmk q.2).length:=by rw[gm];exact hj'.1
  have ee:(S.map fun q=>nmk q.2)[i]=(S.map fun q=>nmk q.2)[j]:=by rw[SN,SN,hi'.2,hj'.2];exact e
  rcases Xa i j with z|z|z
  ·exact absurd ee (Rq.mp nd i j l1 l2 z)
  ·exact z
  ·exact absurd ee.symm (Rq.mp nd j i l2 l1 z)
 subst this;rw[hi]at hj;exact Qj hj
theorem FH{tb:List (Int×List (Int×Int))}:∀ns:List Nm,sur tb ns<=ns.length
 |[]=>oh _
 |p::ns=>by
  unfold sur;have:=FH (tb:=tb) ns;rw[QL];split<;>omega
theorem Gw(m:List (Int×Int))(l:List (V×Cll))(q:V×Cll):dnp m (l++[q])=dh (dnp m l) q.2.c q.2.k:=by
 unfold dnp;rw[U6];rfl
theorem ft_mem:a∈x.ft p↔a=p∨a=x.d∨a=x.t∨a=x.k∨a=x.o∨a=x.ta∨a=x.da∨a=x.ab∨a=x.db∨a∈rwa x.ra∨a∈rwa x.rb:=by
 unfold PgX.ft;simp only[Qw,uc,Qy,or_false];constructor
 ·rintro((h|h|h|h|h|h|h|h|h)|h|h)<;>simp[h]
 ·rintro(h|h|h|h|h|h|h|h|h|h|h)<;>simp[h]
theorem sc_Page_step:FnScope ["self","calls","sure_places","row","call"] aJ (aw kZ):=fsc
variable{Ah:dk}{m8:dk}{pV:dk}{fL:dk}{Ap:dk}{CY:dk}{iy:dk}{si:dk}{nJ:dk}{wB:xw}{lG:xw}{nM:xw}{jH:xw}{vQ:xw}{zw:xw}{gO:xw}{pP:xw}{kY:xw}(uZ:FnOk P w K mg base CX0 7 Hm BM kU (BY K mg))(zO:FnOk P w K mg base CX0 7 Ah wB kU (wI K mg))(yC:Cal K mg "placed" Ah wB kU)(jd:FnOk P w K mg base CX0 7 m8 lG zD (kJ K mg))(i6:Binds K lG zD [])(qi:FnOk P w K mg base CX0 7 pV nM zR (nQ K mg))(pT:Binds K nM zR [])(iz:FnOk P w K mg base CX0 7 fL jH aJ (jQ K mg))(cQ:Binds K jH aJ [])(yB:FnOk P w K mg base CX0 7 Ap vQ kW (wJ K mg))(yT:Cal K mg "why_of" Ap vQ kW)(DH:FnOk P w K mg base CX0 7 CY zw oi (zB K))(CU:Cal K mg "least" CY zw oi)(iJ:FnOk P w K mg base CX0 7 iy gO aJ (gY K mg))(iV:Binds K gO aJ [])(r6:FnOk P w K mg base CX0 7 si pP m9 (pN K mg))(rX:Binds K pP m9 [])(nv:FnOk P w K mg base CX0 7 nJ kY aJ (mG K mg))(nO:Binds K kY aJ [])(bC:Meth K aR "told" fL)(dC:Meth K cW "learn" m8)(fE:Meth K cW "sure" pV)(bR:Meth K bf "told" fL)(bP:Meth K bc "told" fL)(cX:Meth K bA "kept_calls" iy)(eK:Meth K bA "let_go" nJ)(gp:Meth K bA "take" si)
include eV uZ wm zO yC jd i6 qi pT iz cQ yB yT DH CU iJ iV r6 rX nv nO au aV az ay a8 av aZ aA aC a9 bC dC fE bR bP cX eK gp in
theorem xn(F:Fun K "step" "Page.step" kZ f fd):FnOk P w K mg base CX0 8 f fd aJ (pA K mg):=by
 refine F.oj sc_Page_step ?_;rintro _ A _ _ H _ _ _ hr _ _ hu ⟨p,rfl,h⟩;refine⟨_,(ak (aY (i:=1) sc_Page_step.nd rfl (Ql rfl) (aX (MOk.cons a8.cl cX iJ iV MOk.nil) (pv 0) hr))
   (ak (d7 (bD wN (aF (K:=K) rfl (pv 0) rfl) (aT DH CU hr (aa (aF (K:=K) rfl (pv 0) rfl) ae)) (bw _)) (ax (bL (K:=K) rfl (pv 0) (fX (dX (K:=K) rfl) (aT zO yC hr (aa (aF (K:=K) rfl (pv 0) rfl) (aa (pv 1) (aa (aF (K:=K) rfl (pv 0) rfl) ae)))) aM (fun _ _=>rfl)) rfl)) bS)
   (ak (cH (dU (MOk.cons aV.cl dC jd i6 MOk.nil) (aF (K:=K) rfl (pv 0) rfl) hr (aa (aF (K:=K) rfl (pv 0) rfl) (aa (fX (dX (K:=K) rfl) (aT uZ wm hr (aa (aF (K:=K) rfl (pv 0) rfl) (aa (pv 1) (aa (aF (K:=K) rfl (pv 0) rfl) ae)))) aM (fun _ _=>rfl)) ae))))
   (ak (aY (i:=2) sc_Page_step.nd rfl (Ql rfl) (hU (uM (K:=K) rfl) (aF (K:=K) rfl (pv 0) rfl) mU (iK (dU (MOk.cons aV.cl fE qi pT MOk.nil) (aF (K:=K) rfl (pv 0) rfl) hr (aa (aF (K:=K) rfl (pv 0) rfl) ae)))))
   (ak (aY (i:=3) sc_Page_step.nd rfl (Ql rfl) (fX (dX (K:=K) rfl) (aT uZ wm hr (aa (aF (K:=K) rfl (pv 0) rfl) (aa (pv 1) (aa (pv 2) ae)))) aM (fun _ _=>rfl)))
   (ak (vp Sh rfl (bx (K:=K) rfl (pv 3)) (bg (i:=4) sc_Page_step.nd rfl (Ql rfl))
   (ax (cH (dU (MOk.cons a8.cl gp r6 rX MOk.nil) (pv 0) hr (aa (pv 4) ae)))))
   (ak (cH (dU (MOk.cons aV.cl dC jd i6 MOk.nil) (aF (K:=K) rfl (pv 0) rfl) hr (aa (aF (K:=K) rfl (pv 0) rfl) (aa (aF (K:=K) rfl (pv 0) rfl) ae))))
   (ak (cH (aX (MOk.cons a8.cl eK nv nO MOk.nil) (pv 0) hr))
   (ax (aL (bV ["call"] [none] rfl rfl (by kernel_rfl) (bx (K:=K) rfl (pv 3)) (fun _ _ _ _ _ nd=>bg (i:=0) nd rfl (Ql rfl)) (fun _ _ _ _ _=>eJ) (fun _ _ _ _ _=>(cg (aa (aX (MOk.cons ay.cl bP iz cQ (MOk.cons au.cl bC iz cQ (MOk.cons az.cl bR iz cQ MOk.nil))) (pv 0) hr) (aa (aT yB yT hr (aa (pv 0) ae)) ae))))))))))))))),?_⟩
 obtain⟨S,x,PA,hne,h10,hl,lo,lt,hme,hnu,kk⟩:=h;obtain⟨C,dx,mP,T,hp⟩:=PA.ob;have eC:=mP;rw[a9]at eC;cases eC;obtain⟨cl,n1,n2,n3,n4,n5,n6,n7,n8,n9,n10,n11⟩:=id T;have tK:=aV.cl;have nL:=aV.n1;clean_wf;refine⟨p,rfl,S,x,PA,by omega,fun H1 D zs s1 hD pz od g1=>?_⟩;have P1:=PA.same s1;have hp1:=s1 _ _ hp;have zc:∀q∈zs,q∈S.kp:=fun q hq=>pz.mem_iff.mp hq;have zl:zs.length<=60:=by rw[pz.length_eq];exact hl
 have zr:Rk1 zs:=fun q hq r hr=>Nu hnu PA.kn q (zc q hq) r (zc r hr);have ez:(zs.map (·.1)).zip (zs.map (·.2))=zs:=by
  rw[Yq];exact Vs zs
 obtain⟨a0,ea⟩:∃a,ub S.ha=.int a:=by
  unfold ub;cases e:GB.hl S.ha with
  |nil=>rw[e]at hme;cases hme
  |cons a r=>exact⟨a,rfl⟩
 have zck:∀{A:Hp},(∀q∈zs,CllA K mg A q.1 q.2)->xU K mg A (zs.map (·.1)) (zs.map (·.2)):=fun h=>Bu h;have zrg:∀y∈zs.map (·.2),0<=y.c/\y.c<63:=fun y hy=>by
  obtain⟨q,hq,rfl⟩:=QE.mp hy;exact PA.kr q (zc q hq)
 have zl2:(zs.map (·.2)).length<=60:=by rw[gm];exact zl
 refine Dc (fun σ A=>∃od' o',σ=[some (.ref p),some (.ref D),none,none,none]/\Off [p] H1 A/\PgA K mg A p {S with od:=od'} {x with o:=o'}/\(o'=x.o∨H o'=none)/\od'.length<=400/\(ub S.ha≠.int S.me->od'=S.od)/\(ub S.ha=.int S.me->∃rw0 m0,Pw (zs.map (·.1)) (zs.map (·.2)) S.dn S.od rw0 od' m0/\LaR zs m0 none)) ?_ fun N rest=>?_
 ·rintro σ A ⟨od',o',rfl,oA,PgB,fo,lo',od1,od2⟩;obtain⟨xs,ho,hn⟩:=PgB.od;obtain⟨C',dx',mP',_,hpA⟩:=PgB.ob;rw[a9]at mP';cases mP';have gdA:=PgB.dn;have gDA:A D=some (.lst (zs.map (·.1))):=oA _ _ g1 (fun w=>by rw[tw.mp w,hp1]at g1;cases g1);have fr1:∀{a},A a=none->H a=none:=fun{a} e=>by
   cases w:H a with
   |none=>rfl
   |some u=>
    by_cases v:a=p
    ·rw[v,hpA]at e;cases e
    ·rw[oA _ _ (s1 _ _ w) (fun q=>v (tw.mp q))]at e;cases e
  obtain⟨⟨Ck1,dk1,ek1,hk1⟩,_⟩:=id PgB.ab;rw[aZ]at ek1;cases ek1;have zcA:∀q∈zs,CllA K mg A q.1 q.2:=fun q hq=>PgB.kc q (zc q hq);clean_wf;refine⟨x.d,D,o',rfl,S.dn,_,_,xs,od',.inl gdA,PA.td.toCk,SqL.of gDA,zck zcA,zl2,zrg,.inl (SqL.of ho),hn,fun H2 t l r hs m0 rw1 last m1 s2 hl' hr gt gl gr tm1 hsl hsm tm0 ctm0 fw fin=>?_⟩;have gts:SqT K H2 t [.ref l,.ref r]:=SqT.of gt;have P2:=PgB.same s2;have rn1:Rn (zs.map (·.1)) (zs.map (·.2)) S.dn od' rw1 m1:=⟨hs,m0,last,⟨hsl,hsm⟩,tm0,ctm0,fw,fin⟩;clean_wf;refine⟨x.ab,S.me,r,rfl,x.db,x.rb,S.ab,m1,P2.ab,.inl gr,tm1.toCk,fun H3 rb' ab' sm3 kn3 e1 e2 fr3=>?_⟩;have P3:=P2.lrb sm3 kn3 fr3;have o3:Off [x.db] H2 H3:=fun b u e n=>sm3 b u (fun w=>n (tw.mpr w)) e;have k3:KpF H2 H3:=o3.kpf1 P2.ab.dc trivial;have lr1:LrR S.ab S.me m1 ab':=⟨e1,e2⟩;obtain⟨xs3,ho3,hn3⟩:=P3.od;obtain⟨C3,dx3,mP3,_,hp3⟩:=P3.ob;rw[a9]at mP3;cases mP3;obtain⟨⟨Ck2,dk2,ek2,hk2⟩,_⟩:=id P3.ab;rw[aZ]at ek2;cases ek2;have gD3:H3 D=some (.lst (zs.map (·.1))):=o3 _ _ (s2 _ _ gDA) (ne1 (s2 _ _ gDA) P2.ab.dc (by intro w;cases w));have hS3:SqL K H3 o' xs3:=SqL.of ho3;clean_wf;refine⟨x.ab,o',rfl,x.db,rb',ab',xs3,od',P3.ab,.inl hS3,hn3,by omega,fun H4 s4=>?_⟩;have P4:=P3.same s4;obtain⟨C4,dx4,mP4,_,hp4⟩:=P4.ob;have hS4:SqL K H4 o' xs3:=s4.seq hS3;clean_wf;intro sp H5 hsp s5 gsp;have lx:=hn3.len;have lx':xs3.length=od'.length:=lx;have sl:=FH (tb:=ab') od';rw[Ai _ _ (by omega)]at gsp;have P5:=P4.same s5;obtain⟨C5,dx5,mP5,_,hp5⟩:=P5.ob;rw[a9]at mP5;cases mP5;have gd5:=P5.dn;have gD5:=s5 _ _ (s4 _ _ gD3);clean_wf;refine⟨x.d,D,sp,rfl,S.dn,_,_,_,od'.take (sur ab' od'),.inl gd5,PA.td.toCk,SqL.of gD5,zck (fun q hq=>P5.kc q (zc q hq)),zl2,zrg,.inl (SqL.of gsp),vd _ (hn3.up (.same (s4.trans s5))),fun H6 t2 l2 r2 hs2 m02 rw2 last2 m2 s6 hl2 hr2 gt2 gl2 gr2 tm2 hsl2 hsm2 tm02 ctm2 fw2 fin2=>?_⟩;have rn2:Rn (zs.map (·.1)) (zs.map (·.2)) S.dn (od'.take (sur ab' od')) rw2 m2:=⟨hs2,m02,last2,⟨hsl2,hsm2⟩,tm02,ctm2,fw2,fin2⟩;have gts2:SqT K H6 t2 [.ref l2,.ref r2]:=SqT.of gt2;have P6:=P5.same s6;have rin:=Oc rn2;have rlen:rw2.length<=60:=by
   have:=zf rn2;have ml:=Qf (fun q:Cll=>decide (ct S.dn q.c<q.k)) (zs.map (·.2));unfold mz at this;omega
  have nl:∀{a u},H5 a=some u->l2≠a:=fun e w=>by rw[w,e]at hl2;cases hl2
  clean_wf;refine lU (xs:=rw2.map (·.1)) (fun i σ B=>∃v,σ=[some (.ref p),some (.ref D),some (.ref sp),some (.ref l2),v]/\Off [x.d,x.t] H6 B/\PgA K mg B p {S with od:=od',ab:=ab',dn:=dnp S.dn (rw2.take i),tk:=S.tk++rw2.take i} {x with o:=o',rb:=rb'}) ⟨none,rfl,Off.refl _ _,by rw[List.take_zero,Q2];exact P6⟩ (fun i σ B _ z=>?_) ?_ ?_
  ·obtain⟨_,_,z,_⟩:=z;exact SqL.of (z _ _ gl2 (fun w=>by
    simp only[uc,Qy,or_false]at w;exact w.elim (nl P5.dn) (nl P5.tk)))
  ·rintro i y σ B hy ⟨v,rfl,oB,PB⟩;obtain⟨q,hq,rfl⟩:∃q,rw2[i]?=some q/\q.1=y:=by
    rw[CA]at hy;cases w:rw2[i]? with
    |none=>rw[w]at hy;cases hy
    |some q=>rw[w]at hy;exact⟨q,rfl,Qj hy⟩
   obtain⟨qz,qk⟩:=rin q (QA hq);have hi:=(pk.mp hq).1;obtain⟨C7,dx7,mP7,_,hp7⟩:=PB.ob;rw[a9]at mP7;cases mP7;clean_wf;refine⟨p,q.1,rfl,_,_,q.2,PB,PB.kc q (zc q qz),(PA.kr q (zc q qz)).1,(PA.kr q (zc q qz)).2,qk,?_,fun B2 o2 PB2=>?_⟩
   ·show(S.tk++rw2.take i).length<=900;rw[xp,Q9];omega
   ·clean_wf;refine⟨_,rfl,fun b u e nb=>o2 b u (oB b u e nb) nb,?_⟩;rw[aP hq,Gw,←RV];exact PB2
  rintro σ B ⟨v,rfl,oB,PB⟩;rw[gm,Qq]at PB;obtain⟨C7,dx7,mP7,_,hp7⟩:=PB.ob;rw[a9]at mP7;cases mP7;obtain⟨⟨Ck3,dk3,ek3,hk3⟩,_⟩:=id PB.ta;rw[aZ]at ek3;cases ek3;have gdB:=PB.dn;clean_wf;refine⟨x.ta,S.me,x.d,rfl,x.da,x.ra,S.ta,dnp S.dn rw2,PB.ta,.inl gdB,PB.td.toCk,fun H8 ra' ta' sm8 kn8 f1 f2 fr8=>?_⟩;have P8:=PB.lra sm8 kn8 fr8;have lr2:LrR S.ta S.me (dnp S.dn rw2) ta':=⟨f1,f2⟩;have lta:ta'.length=S.ta.length:=by
   have:=congrArg YF lr2.keys;rw[gm,gm]at this;exact this
  obtain⟨C8,dx8,mP8,_,hp8⟩:=P8.ob;rw[a9]at mP8;cases mP8;clean_wf;refine⟨p,rfl,_,_,P8,?_,by show ta'.length<=10;omega,hl,fun H9 k' j o9 nn9 fk fl9 P9=>?_⟩
  ·intro w;have w:ta'=[]:=w;rw[w]at lta;exact hne (List.length_eq_zero_iff.mp lta.symm)
  have oB':∀b u,H5 b=some u->b≠x.d->b≠x.t->B b=some u:=fun b u e n1 n2=>oB b u (s6 _ _ e) (fun w=>by
   simp only[uc,Qy,or_false]at w;exact w.elim n1 n2)
  have gl9:H9 l2=some (.lst (rw2.map (·.1))):=by
   have gB:B l2=some (.lst (rw2.map (·.1))):=oB _ _ gl2 (fun w=>by
    simp only[uc,Qy,or_false]at w;exact w.elim (nl P5.dn) (nl P5.tk))
   have g8:=sm8 _ _ (cR gB PB.ta.dc (by intro w;cases w)) gB;refine o9 _ _ g8 (fun w=>?_);simp only[uc,Qy,or_false]at w;rcases w with w|w
   ·rw[w,hp8]at g8;cases g8
   ·rw[w,P8.kp]at g8;cases g8
  have offA:∀b u,H b=some u->b∉x.ft p->H9 b=some u:=fun b u e nb=>by
   have nb':=fun h=>nb (ft_mem.mpr h);have e1:=oA b u (s1 _ _ e) (fun w=>nb' (.inl (tw.mp w)));have e3:=sm3 b u (fun w=>nb' (by simp[w])) (s2 _ _ e1);have e5:=s5 _ _ (s4 _ _ e3);have eB:=oB' b u e5 (fun w=>nb' (by simp[w])) (fun w=>nb' (by simp[w]));have e8:=sm8 b u (fun w=>nb' (by simp[w])) eB;refine o9 b u e8 (fun w=>?_);simp only[uc,Qy,or_false]at w;rcases w with w|w
   ·exact nb' (.inl w)
   ·exact nb' (.inr (.inr (.inr (.inl w))))
  clean_wf;intro E9 hE9;have cA9:∀q∈rw2,CllA K mg H9 q.1 q.2:=fun q hq=>P9.tc q (Qi _ hq);refine bz (K:=K) (a:=l2) (xs:=rw2.map (·.1)) (fun i σ B=>∃v ys,σ=[v]/\Same H9 B/\B E9=some (.lst ys)/\ys.length=i/\TkV B ys (rw2.take i)) ⟨none,[],rfl,aB hE9,af,rfl,.nil⟩ ?_ ?_ ?_
  ·rintro i σ B _ ⟨_,_,_,z,_⟩;exact SqL.of (z _ _ gl9)
  ·rintro i y σ B hy ⟨v,ys,rfl,sB,gE,ly,tv⟩;obtain⟨q,hq,rfl⟩:∃q,rw2[i]?=some q/\q.1=y:=by
    rw[CA]at hy;cases w:rw2[i]? with
    |none=>rw[w]at hy;cases hy
    |some q=>rw[w]at hy;exact⟨q,rfl,Qj hy⟩
   have hi:=(pk.mp hq).1;have cq:=(cA9 q (QA hq)).up (.same sB);obtain⟨qv,qx⟩:=q;have cq:CllA K mg B qv qx:=cq;obtain⟨pc,Cc,dxc,tc,xsc,rfl,hkc,hTc,hpc,htc,hpx,hcs⟩:=id cq;have tail:∀B1 tt,Same B B1->TldA B1 (.ref tt) qx->∀u B2,B1 u=none->Same B1 B2->B2 u=some (.tup [.ref tt,.str (Why qx)])->∃ys',B2 E9=some (.lst ys')/\ys'.length<sizeLine/\∃v ys,[some (V.ref pc)]=[v]/\Same H9 (upd B2 E9 (.lst (ys'++[.ref u])))/\(upd B2 E9 (.lst (ys'++[.ref u]))) E9=some (.lst ys)/\ys.length=i+ 1/\TkV (upd B2 E9 (.lst (ys'++[.ref u]))) ys (rw2.take (i+ 1)):=fun B1 tt sB1 tl u B2 hu sB2 gu=>by
    have gE2:=sB2 _ _ (sB1 _ _ gE);have kp:SmH B2 (upd B2 E9 (.lst (ys++[V.ref u]))):=SmH.lst gE2;refine⟨ys,gE2,aD (by omega),_,ys++[.ref u],rfl,fun c o e=>?_,af,by rw[xp,ly];rfl,?_⟩
    ·rw[aj (ai e hE9)];exact sB2 _ _ (sB1 _ _ (sB c o e))
    ·rw[aP hq];exact(tv.up (fun a xs e=>kp _ _ (sB2 _ _ (sB1 _ _ e)))).snoc ⟨u,tt,rfl,kp _ _ gu,tl.up (fun a xs e=>kp _ _ (sB2 _ _ e))⟩
   show eR _ _ _ _ _ (V.ref pc) _ _;rcases hkc with⟨_,e⟩|⟨_,e⟩|⟨_,e⟩
   ·rw[aC]at e;cases e;clean_wf;refine⟨.ref pc,rfl,qx,cq,fun B1 tt sB1 _ tl=>?_⟩;clean_wf;refine⟨.ref pc,rfl,qx,cq.up (.same sB1),?_⟩;clean_wf;intro u B2 hu sB2 gu;exact tail B1 tt sB1 tl u B2 hu sB2 gu
   ·rw[av]at e;cases e;clean_wf;refine⟨.ref pc,rfl,qx,cq,fun B1 tt sB1 _ tl=>?_⟩;clean_wf;refine⟨.ref pc,rfl,qx,cq.up (.same sB1),?_⟩;clean_wf;intro u B2 hu sB2 gu;exact tail B1 tt sB1 tl u B2 hu sB2 gu
   ·rw[aA]at e;cases e;clean_wf;refine⟨.ref pc,rfl,qx,cq,fun B1 tt sB1 _ tl=>?_⟩;clean_wf;refine⟨.ref pc,rfl,qx,cq.up (.same sB1),?_⟩;clean_wf;intro u B2 hu sB2 gu;exact tail B1 tt sB1 tl u B2 hu sB2 gu
  rintro σ B' ⟨v9,ys,rfl,sB',gE,ly,tv⟩;rw[gm,Qq]at tv;clean_wf;have trB:∀a,B a=none->H a=none:=fun a e=>by
   cases z:H a with
   |none=>rfl
   |some u=>
    by_cases w1:a=p
    ·rw[w1,hp7]at e;cases e
    ·by_cases w2:a=x.d
     ·rw[w2,PB.dn]at e;cases e
     ·by_cases w3:a=x.t
      ·rw[w3,PB.tk]at e;cases e
      ·by_cases w4:a=x.db
       ·rw[w4,PB.ab.dc]at e;cases e
       ·have e1:=oA a u (s1 _ _ z) (fun w=>w1 (tw.mp w));rw[oB' a u (s5 _ _ (s4 _ _ (sm3 a u w4 (s2 _ _ e1)))) w2 w3]at e;cases e
  have tr8:∀a,H8 a=none->H a=none:=fun a e=>by
   cases z:B a with
   |none=>exact trB a z
   |some u=>
    by_cases w:a=x.da
    ·rw[w,kn8.dc]at e;cases e
    ·rw[sm8 a u w z]at e;cases e
  refine kk B' _ _ rw2 E9 ys (fun b u e nb=>sB' _ _ (offA b u e nb)) (fun a e=>tr8 a (nn9 a (sB'.free e))) (P9.same sB') (fun a ha=>?_) ⟨zs,rw1,m1,m2,od',ab',ta',j,pz,od,od1,od2,rn1,lr1,rn2,lr2,fl9,rfl⟩ (tr8 _ (nn9 _ hE9)) (fun w=>?_) gE tv
  ·rcases ft_mem.mp ha with w|w|w|w|w|w|w|w|w|w|w
   ·exact .inl (ft_mem.mpr (by simp[w]))
   ·exact .inl (ft_mem.mpr (by simp[w]))
   ·exact .inl (ft_mem.mpr (by simp[w]))
   ·have w:a=k':=w;exact .inr (w▸tr8 _ fk)
   ·have w:a=o':=w;rcases fo with v|v
    ·exact .inl (ft_mem.mpr (by simp[w,v]))
    ·exact .inr (w▸v)
   ·exact .inl (ft_mem.mpr (by simp[w]))
   ·exact .inl (ft_mem.mpr (by simp[w]))
   ·exact .inl (ft_mem.mpr (by simp[w]))
   ·exact .inl (ft_mem.mpr (by simp[w]))
   ·obtain⟨q,hq,e⟩:=rwa_mem.mp w;rcases fr8 q hq with v|⟨r,e',v⟩
    ·have:a∈rwa x.ra:=rwa_mem.mpr ⟨q,v,e⟩;exact .inl (ft_mem.mpr (by simp[this]))
    ·rw[e]at e';cases e';exact .inr (trB _ v)
   ·obtain⟨q,hq,e⟩:=rwa_mem.mp w;rcases fr3 q hq with v|⟨r,e',v⟩
    ·have:a∈rwa x.rb:=rwa_mem.mpr ⟨q,v,e⟩;exact .inl (ft_mem.mpr (by simp[this]))
    ·rw[e]at e';cases e';exact .inr (fr1 (s2.free v))
  ·obtain⟨o,e,_⟩:=P9.fto E9 w;rw[hE9]at e;cases e
 ·obtain⟨xs,ho,hn⟩:=P1.od;have gd1:=P1.dn;clean_wf;refine⟨S.ha,rfl,PA.ha.1,PA.ha.2,fun H2 s2=>?_⟩;have hp2:=s2 _ _ hp1;have P2:=P1.same s2;have gd2:=P2.dn;have ho2:=s2 _ _ ho;rw[ea];clean_wf;refine dO (fun z=>?_) fun z=>?_
  ·have z:S.me=a0:=of_decide_eq_true z;clean_wf;refine⟨x.d,D,x.o,rfl,S.dn,_,_,xs,S.od,.inl gd2,PA.td.toCk,SqL.of (s2 _ _ g1),zck (fun q hq=>P2.kc q (zc q hq)),zl2,by rw[ez];exact zr,zrg,.inl (SqL.of ho2),hn.up (.same s2),lo,fun H3 t l g rw0 ys gs m0 s3 hl' hg gt gl gg nm pw la=>?_⟩;have hp3:=s3 _ _ hp2;have gts:SqT K H3 t [.ref l,.ref g]:=SqT.of gt;clean_wf;intro H4 b4 g4;rw[BV]at g4;have ngp:g≠p:=fun w=>by rw[w,hp2]at hg;cases hg
   have o4:Off [p] H3 H4:=fun b u e nb=>b4.at (fun w=>nb (tw.mpr w)) e;have k4:KpF H3 H4:=o4.kpf1 hp3 (by show(11:Nat)≠5;decide);have pl:=LN (by rw[ez];exact zr) pw;have ml:=Qf (fun q:Cll=>decide (ct S.dn q.c<q.k)) (zs.map (·.2));refine rest _ _ ⟨gs,g,rfl,fun b u e nb=>o4 b u (s3 _ _ (s2 _ _ e)) nb,(P2.same s3).newo (ma':=S.ma) o4 ⟨_,dx,mP,T,g4⟩ (b4.at ngp gg) (nm.up k4.smh) ?_,.inr (s1.free (s2.free hg)),?_,fun w=>?_,fun _=>⟨rw0,m0,pw,by rw[ez]at la;exact la⟩⟩
   ·intro w;rw[←w,P2.tk]at hg;cases hg
   ·unfold mz at pl;omega
   ·exact absurd (by rw[ea,z]) w
  ·have z:¬ S.me=a0:=fun w=>z (decide_eq_true w);exact rest _ _ ⟨S.od,x.o,rfl,Off.of s2,P2,.inl rfl,by omega,fun _=>rfl,fun w=>absurd (by rw[ea]at w;cases w;rfl) z⟩
abbrev jL:QB:=inClass (top 45) 4
theorem MP{S:List Int}(t:Ck m)(pm:S.Perm (m.map (·.1))):Ck (PKm m S):=by
 have nd:S.Nodup:=pm.nodup_iff.mpr t.nd;have ek:(PKm m S).map (·.1)=S.filter fun k=>decide (0<ct m k):=by
  unfold PKm;rw[Ri];exact Vs _
 refine⟨by rw[ek];exact nd.filter _,fun p hp=>?_,fun p hp=>?_⟩
 ·unfold PKm at hp;obtain⟨k,_,rfl⟩:=QE.mp hp;exact t.ct k
 ·unfold PKm at hp;obtain⟨k,hk,rfl⟩:=QE.mp hp;exact t.keys k (pm.mem_iff.mp (QS.mp hk).1)
def NwC(S:Pg)(kd:pe)(w:Int)(c:Cll):Prop:=∃hs:List Int,hs.Perm (S.dn.map (·.1))/\hs.Pairwise (·<=·)/\c=⟨kd,S.nu,S.me,S.ma+ 1,w,if kd="own"then[]else PKm S.dn hs⟩
structure PgOk(S:Pg)(n:Nat):Prop where
 ne:S.ta≠[]
 l10:S.ta.length<=10
 kl:S.kp.length<=n
 ol:S.od.length<=n
 tl:S.tk.length<=8*n
 me:S.me∈GB.hl S.ha
 nu:∀q∈S.kp,q.2.n=S.nu
 ma:0<=S.ma
 mx:∀q∈S.kp,q.2.c=S.me->q.2.k<=S.ma
variable{me nu:Int}
def nU(K:cw)(mg:pe->Option cT):Sp:=fun vs H Q E=>∃(p:dk) (kd:pe) (w:Int),vs=[.ref p,.str kd,.int w]/\∃S x,PgA K mg H p S x/\PgOk S 59/\(kd="own"∨kd="heard"∨kd="one")/\(if w<0 then-w else w)<10^(60:Int).toNat/\
 (∀H' x' S' rw l ys v c j,Off (x.ft p) H H'->(∀a,H' a=none->H a=none)->PgA K mg H' p S' x'->(∀a∈x'.ft p,a∈x.ft p∨H a=none)->Flr S.ta j->S.ma-ct j S.me<S.ro->NwC S kd w c->LS {S with ma:=S.ma+ 1,kp:=S.kp++[(v,c)]} S' rw->H l=none->l∉x'.ft p->H' l=some (.lst ys)->TkV H' ys rw->Q (.ref l) H')/\
 ∀H' j ea C,Same H H'->Flr S.ta j->¬ (S.ma-ct j S.me<S.ro)->mg "Held"=some (.ref C)->H ea=none->E (.ref ea) (some C) H'
abbrev zk:List pe:=["self","kind","word"]
theorem sc_Page_utter:FnScope ["self","kind","word","call"] zk (aw jL):=fsc
variable{rE:dk}{zT:dk}{iU:dk}{rY:dk}{rW:dk}{qf:xw}{wc:xw}{ij:xw}{pE:xw}{qd:xw}(rO:FnOk P w K mg base CX0 8 rE qf GN (qr K mg))(r9:Cal K mg "make_call" rE qf GN)(Ak:FnOk P w K mg base CX0 8 zT wc Am (wW K))(za:Cal K mg "packed" zT wc Am)(iC:FnOk P w K mg base (CXR P w) 8 iU ij aJ (ic K mg))(iM:Binds K ij aJ [])(rq:FnOk P w K mg base CX0 8 rY pE m9 (pF K mg))(rS:Binds K pE m9 [])(rP:FnOk P w K mg base CX0 8 rW qd aJ (pA K mg))(rB:Binds K qd aJ [])(cZ:Meth K bA "check_room" iU)(gG:Meth K bA "keep" rY)(gn:Meth K bA "step" rW)
include eV rO r9 Ak za iC iM rq rS rP rB au az ay a8 av aA aC a9 cZ gG gn in
theorem vG(F:Fun K "utter" "Page.utter" jL f fd):FnOk P w K mg base (CXR P w) 9 f fd zk (nU K mg):=by
 refine F.okX sc_Page_utter (fun vs H Q E h=>?_) (fun cdv A outer s H vs Q E hr h=>?_)
 ·obtain⟨p,kd,w,rfl,_⟩:=h;rfl
 obtain⟨p,kd,w,rfl,h⟩:=h;have hu64:=hr.units;have hu0:=hr.units0;have hu:=FW hr;refine⟨_,(ak (cH (Hc (pv 0) a8.cl cZ iC hr iM .nil Pm))
   (ak (aY (i:=3) sc_Page_utter.nd rfl (Ql rfl) (aT rO r9 hr (aa (aF (K:=K) rfl (pv 0) rfl) (aa (aF (K:=K) rfl (pv 0) rfl) (aa (bH jD (aF (K:=K) rfl (pv 0) rfl) aM) (aa (pv 1) (aa (pv 2) (aa (aT Ak za hr (aa (aF (K:=K) rfl (pv 0) rfl) ae)) ae))))))))
   (ak (bL (K:=K) rfl (pv 0) (aF (K:=K) rfl (pv 3) rfl) rfl)
   (ak (cH (dU (MOk.cons a8.cl gG rq rS MOk.nil) (pv 0) hr (aa (pv 3) ae)))
   (ax (aL (aX (MOk.cons a8.cl gn rP rB MOk.nil) (pv 0) hr))))))),?_⟩
 obtain⟨S,x,PA,ok,hkd,hw,k1,k2⟩:=h;obtain⟨C,dx,mP,T,hp⟩:=PA.ob;have eC:=mP;rw[a9]at eC;cases eC;obtain⟨cl,n1,n2,n3,n4,n5,n6,n7,n8,n9,n10,n11⟩:=id T;clean_wf;refine C0 ?_;clean_wf;refine⟨p,dx,_,rfl,hp,mM,?_⟩;clean_wf;refine⟨p,rfl,S,x,PA,ok.ne,ok.l10,fun H1 j s1 fl hro=>?_,fun H1 j ea Ce s1 fl hro mh he=>k2 H1 j ea Ce s1 fl hro mh he⟩;have P1:=PA.same s1;have hp1:=s1 _ _ hp;have gd1:=P1.dn;have ld:S.dn.length<64:=PA.td.toCk.len;clean_wf;refine⟨x.d,S.dn,rfl,.inl gd1,ld,fun H2 t xs hs s2 ht pm so gt pr=>?_⟩;clean_wf;refine⟨S.nu,S.me,S.ma+ 1,kd,w,t,rfl,xs,hkd,hw,gt,fun H3 pc Cc dxc t' s3 hpc kdc tc gc gt'=>?_⟩;have s13:Same H1 H3:=s2.trans s3;have P3:=P1.same s13;have hp3:=s13 _ _ hp1;obtain⟨cl',m1,m2,m3,m4,m5⟩:=id tc;have cA:CllA K mg H3 (.ref pc) ⟨kd,S.nu,S.me,S.ma+ 1,w,if kd="own"then[]else PKm S.dn hs⟩:=by
  refine⟨pc,Cc,dxc,t',_,rfl,kdc,tc,gc,gt',?_,?_⟩
  ·by_cases z:kd="own"
   ·show Prs H3 (if kd="own"then[]else xs) (if kd="own"then[]else PKm S.dn hs);rw[if_pos z,if_pos z];exact .nil
   ·show Prs H3 (if kd="own"then[]else xs) (if kd="own"then[]else PKm S.dn hs);rw[if_neg z,if_neg z];exact pr.mono (SmH.same s3)
  ·show Ck (if kd="own"then[]else PKm S.dn hs);by_cases z:kd="own"
   ·rw[if_pos z];exact Ck.nil
   ·rw[if_neg z];exact MP PA.td.toCk pm
 have nw:NwC S kd w ⟨kd,S.nu,S.me,S.ma+ 1,w,if kd="own"then[]else PKm S.dn hs⟩:=⟨hs,pm,so,rfl⟩;generalize (⟨kd,S.nu,S.me,S.ma+ 1,w,if kd="own"then[]else PKm S.dn hs⟩:Cll)=c at cA nw;obtain⟨ecn,ecc,eck⟩:c.n=S.nu/\c.c=S.me/\c.k=S.ma+ 1:=by
  obtain⟨_,_,_,e⟩:=nw;rw[e];exact⟨rfl,rfl,rfl⟩
 clean_wf;intro H4 b4 g4;rw[Ee]at g4;have o4:Off [p] H3 H4:=fun b u e nb=>b4.at (fun w=>nb (tw.mpr w)) e;have k4:KpF H3 H4:=o4.kpf1 hp3 (by show(11:Nat)≠5;decide);obtain⟨xo,ho3,hn3⟩:=P3.od;have P4:PgA K mg H4 p {S with ma:=S.ma+ 1} x:=P3.newo (ma':=S.ma+ 1) (o':=x.o) o4 ⟨_,dx,mP,T,g4⟩ (o4 _ _ ho3 (ne1 ho3 hp3 (by intro z;cases z))) (hn3.up k4.smh) P3.to;have c4:=cA.kpf k4;clean_wf;refine⟨p,.ref pc,rfl,_,x,c,P4,c4,?_,by rw[ecc];exact PA.me.1,by rw[ecc];exact PA.me.2,by have:=ok.kl;show S.kp.length<=900;omega,fun H5 o5 P5=>?_⟩
 ·intro z;obtain⟨q,hq,e⟩:=QE.mp z;have hq:q∈S.kp:=hq;unfold nmk at e;have e1:q.2.c=c.c:=by
   have:=(Sy (Sy e).2).1;exact Sn this
  have e2:q.2.k=c.k:=by
   have:=(Sy (Sy (Sy e).2).2).1;exact Sn this
  have:=ok.mx q hq (by rw[e1,ecc]);omega
 obtain⟨C5,dx5,mP5,_,hp5⟩:=P5.ob;rw[a9]at mP5;cases mP5;clean_wf;refine⟨p,rfl,_,x,P5,ok.ne,ok.l10,?_,by have:=ok.ol;show S.od.length<=300;omega,by have:=ok.tl;show S.tk.length<=800;omega,ok.me,fun q hq=>?_,fun H6 x' S' rw l ys o6 nn6 P6 ft6 st hl nl gl tv=>?_⟩
 ·show(S.kp++[(V.ref pc,c)]).length<=60;rw[xp];have:=ok.kl;show S.kp.length+ 1<=60;omega
 ·rcases Qw.mp hq with z|z
  ·exact ok.nu q z
  ·rw[tw.mp z];exact ecn
 have off5:∀b u,H b=some u->b∉x.ft p->H5 b=some u:=fun b u e nb=>by
  have e3:=s13 _ _ (s1 _ _ e);have e4:=o4 b u e3 (fun z=>nb (ft_mem.mpr (.inl (tw.mp z))));exact o5 b u e4 (fun z=>nb (ft_mem.mpr (by simp[tw.mp z])))
 have nn5:∀a,H5 a=none->H a=none:=fun a e=>by
  cases z:H a with
  |none=>rfl
  |some u=>
   by_cases w1:a=p
   ·rw[w1,hp5]at e;cases e
   ·by_cases w2:a=x.k
    ·rw[w2,P5.kp]at e;cases e
    ·rw[o5 a u (o4 a u (s13 _ _ (s1 _ _ z)) (by simp[w1])) (by simp[w2])]at e;cases e
 refine k1 H6 x' S' rw l ys (.ref pc) c j (fun b u e nb=>o6 b u (off5 b u e nb) nb) (fun a e=>nn5 a (nn6 a e)) P6 (fun a ha=>?_) fl hro nw st (nn5 l hl) nl gl tv;rcases ft6 a ha with z|z
 ·exact .inl z
 ·exact .inr (nn5 a z)
abbrev gL:QB:=top 48
mutual
inductive Pz (H:Hp):Nat->V->Rp->Prop
 |int {n:Nat} (i:Int):Pz H n (.int i) (.int i)
 |str {n:Nat} (t:pe):(PyData.str t).canLay0=true->Pz H n (.str t) (.str t)
 |tup {n:Nat} {a:dk} {xs:List V} {ds:List Rp}:H a=some (.tup xs)->xs.length<=300->Pzs H n xs ds->Pz H (n+ 1) (.ref a) (.tuple ds)
 |lst {n:Nat} {a:dk} {xs:List V} {ds:List Rp}:H a=some (.lst xs)->xs.length<=300->Pzs H n xs ds->Pz H (n+ 1) (.ref a) (.list ds)
inductive Pzs (H:Hp):Nat->List V->List Rp->Prop
 |nil {n:Nat}:Pzs H n [] []
 |cons {n:Nat} {x:V} {xs:List V} {d:Rp} {ds:List Rp}:Pz H n x d->Pzs H n xs ds->Pzs H n (x::xs) (d::ds)
end
mutual
theorem Pz.same{H H':Hp}(s:Same H H'):∀{n:Nat} {x:V} {d:Rp},Pz H n x d->Pz H' n x d
 |_,_,_,.int i=>.int i
 |_,_,_,.str i h=>.str i h
 |_,_,_,.tup e l h=>.tup (s _ _ e) l (Pzs.same s h)
 |_,_,_,.lst e l h=>.lst (s _ _ e) l (Pzs.same s h)
theorem Pzs.same{H H':Hp}(s:Same H H'):∀{n:Nat} {xs:List V} {ds:List Rp},Pzs H n xs ds->Pzs H' n xs ds
 |_,_,_,.nil=>.nil
 |_,_,_,.cons h t=>.cons (Pz.same s h) (Pzs.same s t)
end
theorem uh{H:Hp}{n:Nat}:∀{xs:List V} {ds:List Rp} {i:Nat} {x:V},Pzs H n xs ds->xs[i]?=some x->∃d,ds[i]?=some d/\Pz H n x d
 |_,_,_,_,.nil,e=>by simp at e
 |_,_,0,_,.cons h _,e=>by simp at e;subst e;exact⟨_,rfl,h⟩
 |_,_,i+ 1,x,.cons _ t,e=>by
  obtain⟨b,h1,h2⟩:=uh (i:=i) t (by simpa using e);exact⟨b,by simpa using h1,h2⟩
theorem pQ{H:Hp}{n:Nat}:∀{xs:List V} {ds:List Rp},Pzs H n xs ds->xs.length=ds.length
 |_,_,.nil=>rfl
 |_,_,.cons _ t=>congrArg (·+ 1) (pQ t)
def eS(K:cw):Nat->Sp
 |0=>fun _ _ _ _=>False
 |n+ 1=>fun vs H Q _=>∃x y,vs=[x,y]/\∃d,Pz H n x d/\Pz H n y d/\∀H',Same H H'->Q (.bl true) H'
abbrev pW:List pe:=["_law_found","_law_due"]
theorem vI:FnScope ["_law_found","_law_due"] pW (aw gL):=fsc
theorem ud(F:Fun K "_law_alike" "_law_alike" gL f fd)(n k:Nat)(bW:FnOk P w K mg base CX0 k f fd pW (eS K n))(bU:Cal K mg "_law_alike" f fd pW)(wR:mg "all"=none)(qG:mg "bool"=none)(uT:mg "int"=none)(aU:mg "isinstance"=none)(d5:mg "len"=none)(cM:mg "list"=none)(Dh:mg "str"=none)(iu:mg "tuple"=none)(Dx:mg "zip"=none):FnOk P w K mg base CX0 (k+ 1) f fd pW (eS K (n+ 1)):=by
 refine F.oj vI ?_;rintro _ A _ _ H _ _ E hr hu64 _ _ ⟨x,y,rfl,h⟩;refine⟨_,(ak (d7 (PW.pt (zI (br K rfl (aQ (bZ (K:=K) rfl) (by rfl) aU Qv (aa (pv 1) (aa (dE cM Q5) ae)))) (vy (br K rfl (aQ (bZ (K:=K) rfl) (by rfl) aU Qv (aa (pv 1) (aa (dE iu SQ) ae))))))) (ak (d7 (PW.pt (zI (bD AA (aQ (bZ (K:=K) rfl) (by rfl) aU Qv (aa (pv 0) (aa (dE cM Q5) ae))) (aQ (bZ (K:=K) rfl) (by rfl) aU Qv (aa (pv 1) (aa (dE cM Q5) ae))) (bw _)) (vy (bD AA (aQ (bZ (K:=K) rfl) (by rfl) aU Qv (aa (pv 0) (aa (dE iu SQ) ae))) (aQ (bZ (K:=K) rfl) (by rfl) aU Qv (aa (pv 1) (aa (dE iu SQ) ae))) (bw _))))) (ax (aL rN)) bS)
   (ak (d7 (bD AA (aQ (dD (K:=K) rfl) (by rfl) d5 RG (aa (pv 0) ae)) (aQ (dD (K:=K) rfl) (by rfl) d5 RG (aa (pv 1) ae)) (bw _)) (ax (aL rN)) bS)
   (ax (aL (aQ (yz rfl) (by rfl) wR Wa (aa (bV ["_law_one","_law_other"] [none,none] rfl rfl (by kernel_rfl) (JF (K:=K) rfl rfl Dx (aa (pv 0) (aa (pv 1) ae))) (fun _ _ _ _ _ nd=>wZ (K:=K) (n:=2) rfl rfl (jr (bg (i:=0) nd rfl (Ql rfl)) (jr (bg (i:=1) nd rfl (Ql rfl)) yq))) (fun _ _ _ _ _=>eJ) (fun _ _ _ _ _=>(aT bW bU hr (aa (pv 0) (aa (pv 1) ae))))) ae)))))) bS)
   (ak (d7 (br K rfl (aQ (bZ (K:=K) rfl) (by rfl) aU Qv (aa (pv 0) (aa (dE qG VU) ae)))) (ax (aL rN)) bS)
   (ak (d7 (br K rfl (aQ (bZ (K:=K) rfl) (by rfl) aU Qv (aa (pv 1) (aa (dE uT Uk) ae)))) (ax (aL (oR (aQ (bZ (K:=K) rfl) (by rfl) aU Qv (aa (pv 0) (aa (dE uT Uk) ae))) (lN (gN (Ba (K:=K) rfl hu64) (pv 0) (pv 1) (bw _)))))) bS)
   (ax (aL (oR (aQ (bZ (K:=K) rfl) (by rfl) aU Qv (aa (pv 0) (aa (dE Dh YS) ae))) (lN (gN (Ba (K:=K) rfl hu64) (pv 0) (pv 1) (bw _))))))))),?_⟩
 obtain⟨d,hp,hq,kk⟩:=h;cases hp with
 |int i=>
  cases hq;refine qq ?_;clean_wf;refine⟨_,_,_,false,rfl,.int _,(by kernel_rfl),?_⟩;clean_wf;refine⟨_,_,_,false,rfl,.int _,(by kernel_rfl),?_⟩;clean_wf;refine⟨_,_,_,false,rfl,.int _,(by kernel_rfl),?_⟩;clean_wf;refine⟨_,_,_,true,rfl,.int _,(by kernel_rfl),?_⟩;clean_wf;refine⟨_,_,_,true,rfl,.int _,(by kernel_rfl),true,rfl,?_⟩;clean_wf;exact vY (.inl (.int _)) (.inl (.int _)) rfl (QK rfl) (kk H (.refl _))
 |str i ly=>
  cases hq;refine qq ?_;clean_wf;refine⟨_,_,_,false,rfl,.str _,(by kernel_rfl),?_⟩;clean_wf;refine⟨_,_,_,false,rfl,.str _,(by kernel_rfl),?_⟩;clean_wf;refine⟨_,_,_,false,rfl,.str _,(by kernel_rfl),?_⟩;clean_wf;refine⟨_,_,_,false,rfl,.str _,(by kernel_rfl),?_⟩;clean_wf;refine⟨_,_,_,true,rfl,.str _,(by kernel_rfl),true,rfl,?_⟩;clean_wf;exact vY (.inl (.str _)) (.inl (.str _)) ly (QK rfl) (kk H (.refl _))
 |@tup m a xs ds e hl hs=>
  cases hq with
  |@tup _ b ys _ e' hl' hs'=>
  have sa:SqT K H a xs:=SqT.of e;have sb:SqT K H b ys:=SqT.of e';have le:xs.length=ys.length:=by rw[pQ hs,pQ hs']
  refine qq ?_;clean_wf;refine⟨_,_,_,false,rfl,.tup e',(by kernel_rfl),?_⟩;clean_wf;refine⟨_,_,_,true,rfl,.tup e',(by kernel_rfl),?_⟩;clean_wf;refine⟨_,_,_,false,rfl,.tup e,(by kernel_rfl),?_⟩;clean_wf;refine⟨_,_,_,false,rfl,.tup e',(by kernel_rfl),?_⟩;clean_wf;refine dO (fun w=>absurd w (by decide)) fun _=>?_;clean_wf;refine⟨_,_,_,true,rfl,.tup e,(by kernel_rfl),?_⟩;clean_wf;refine⟨_,_,_,true,rfl,.tup e',(by kernel_rfl),?_⟩;clean_wf;refine dO (fun w=>absurd w (by decide)) fun _=>?_;clean_wf;refine dO (fun w=>?_) fun _=>?_
  ·rw[le,decide_eq_true rfl]at w;cases w
  clean_wf;refine⟨false,a,b,xs,ys,rfl,SqT.of e,SqT.of e',fun E hE=>?_⟩;refine yU (fun i σ A=>∃v1 v2,σ=[v1,v2]/\Same H A/\A E=some (.lst (SJ i (.bl true)))) le ⟨none,none,rfl,aB hE,af⟩ ?_ ?_ ?_
  ·rintro i σ A _ ⟨_,_,_,z,_⟩;exact⟨SqT.of (z _ _ e),SqT.of (z _ _ e')⟩
  ·rintro i x y t σ A hx hy ht ⟨v1,v2,rfl,sA,gE⟩;obtain⟨d1,h1,p1⟩:=uh hs hx;obtain⟨d2,h2,p2⟩:=uh hs' hy;rw[h1]at h2;cases h2;have hi:=(pk.mp hx).1;have gt:upd A t (.tup [x,y]) t=some (.tup [x,y]):=af;have st:SqT K (upd A t (.tup [x,y])) t [x,y]:=SqT.of gt;have sB:Same H (upd A t (.tup [x,y])):=sA.trans (aB ht);clean_wf;refine⟨x,y,rfl,d1,p1.same sB,p2.same sB,fun A1 s1=>⟨_,s1 _ _ (aB ht _ _ gE),aD (by rw[Ui];omega),_,_,rfl,fun c o z=>?_,?_⟩⟩
   ·rw[aj (ai z hE)];exact s1 _ _ (sB c o z)
   ·rw[af,Ws]
  rintro σ A ⟨v1,v2,rfl,sA,gE⟩;clean_wf;refine⟨E,SJ xs.length true,rfl,SqL.of (by rw[WU];exact gE),?_⟩;have ea:((SJ xs.length true).all fun b=>b)=true:=by simp
  rw[ea];exact kk A sA
 |@lst m a xs ds e hl hs=>
  cases hq with
  |@lst _ b ys _ e' hl' hs'=>
  have sa:SqL K H a xs:=SqL.of e;have sb:SqL K H b ys:=SqL.of e';have le:xs.length=ys.length:=by rw[pQ hs,pQ hs']
  refine qq ?_;clean_wf;refine⟨_,_,_,true,rfl,.lst e',(by kernel_rfl),?_⟩;clean_wf;refine⟨_,_,_,true,rfl,.lst e,(by kernel_rfl),?_⟩;clean_wf;refine⟨_,_,_,true,rfl,.lst e',(by kernel_rfl),?_⟩;clean_wf;refine dO (fun w=>absurd w (by decide)) fun _=>?_;clean_wf;refine⟨_,_,_,false,rfl,.lst e,(by kernel_rfl),?_⟩;clean_wf;refine⟨_,_,_,false,rfl,.lst e',(by kernel_rfl),?_⟩;clean_wf;refine dO (fun w=>absurd w (by decide)) fun _=>?_;clean_wf;refine dO (fun w=>?_) fun _=>?_
  ·rw[le,decide_eq_true rfl]at w;cases w
  clean_wf;refine⟨true,a,b,xs,ys,rfl,SqL.of e,SqL.of e',fun E hE=>?_⟩;refine yU (fun i σ A=>∃v1 v2,σ=[v1,v2]/\Same H A/\A E=some (.lst (SJ i (.bl true)))) le ⟨none,none,rfl,aB hE,af⟩ ?_ ?_ ?_
  ·rintro i σ A _ ⟨_,_,_,z,_⟩;exact⟨SqL.of (z _ _ e),SqL.of (z _ _ e')⟩
  ·rintro i x y t σ A hx hy ht ⟨v1,v2,rfl,sA,gE⟩;obtain⟨d1,h1,p1⟩:=uh hs hx;obtain⟨d2,h2,p2⟩:=uh hs' hy;rw[h1]at h2;cases h2;have hi:=(pk.mp hx).1;have gt:upd A t (.tup [x,y]) t=some (.tup [x,y]):=af;have st:SqT K (upd A t (.tup [x,y])) t [x,y]:=SqT.of gt;have sB:Same H (upd A t (.tup [x,y])):=sA.trans (aB ht);clean_wf;refine⟨x,y,rfl,d1,p1.same sB,p2.same sB,fun A1 s1=>⟨_,s1 _ _ (aB ht _ _ gE),aD (by rw[Ui];omega),_,_,rfl,fun c o z=>?_,?_⟩⟩
   ·rw[aj (ai z hE)];exact s1 _ _ (sB c o z)
   ·rw[af,Ws]
  rintro σ A ⟨v1,v2,rfl,sA,gE⟩;clean_wf;refine⟨E,SJ xs.length true,rfl,SqL.of (by rw[WU];exact gE),?_⟩;have ea:((SJ xs.length true).all fun b=>b)=true:=by simp
  rw[ea];exact kk A sA
def nN(K:cw):Sp:=eS K 7
variable(Dh:mg "str"=none)(Dx:mg "zip"=none)
include eV wR qG uT aU d5 cM Dh iu Dx in
theorem vH(F:Fun K "_law_alike" "_law_alike" gL f fd)(C:Cal K mg "_law_alike" f fd pW):FnOk P w K mg base CX0 7 f fd pW (nN K):=by
 have go:∀n:Nat,FnOk P w K mg base CX0 n f fd ["_law_found","_law_due"] (eS K n):=by
  intro n
  induction n with
  |zero=>exact⟨fun _ _ _ _ h=>h.elim,fun _ _ _ _ _ _ _ _ _ _ _ _ _ h=>h.elim⟩
  |succ n ih=>exact ud F n n ih C wR qG uT aU d5 cM Dh iu Dx
 exact go 7
abbrev jO:QB:=inClass (top 45) 14
abbrev i8:QB:=inClass (top 45) 16
abbrev mL:QB:=inClass (top 45) 15
abbrev mi:QB:=inClass (top 45) 13
theorem J8{ks:List (List Int)}(h:OrdW ks xs ws)(g:Nat->Int)(hk:∀i j,i<xs.length->j<xs.length->ltL (ks.getD i []) (ks.getD j [])=decide (g i<g j))(mono:∀i j,i<j->j<xs.length->g i<g j):ws=xs:=by
 obtain⟨p,hp,rfl,ho⟩:=h;have lp:p.toList.length=xs.length:=by
  have:=hp.length_eq;rw[RI]at this;exact this
 have nd:p.toList.Nodup:=hp.nodup_iff.mpr List.nodup_range;have lt:∀i (hi:i<p.toList.length),p.toList[i]<xs.length:=fun i hi=>RD.mp (hp.mem_iff.mp (RB hi));have gd:∀i (hi:i<p.toList.length),p.getD i 0=p.toList[i]:=fun i hi=>by
  have hi':i<p.size:=by rw[QI]at hi;exact hi
  rw[Qh,KW hi',Tc];rfl
 have up:p.toList.Pairwise (·<·):=by
  rw[Rq];intro i j hi hj hij;have:=ho ⟨g,hk⟩ i j (QG hij) (by omega);rw[gd i hi,gd j hj,hk _ _ (lt j hj) (lt i hi)]at this;have:=of_decide_eq_false this;have ne:p.toList[i]≠p.toList[j]:=Rq.mp nd i j hi hj hij;by_cases z:p.toList[i]<p.toList[j]
  ·exact z
  ·exact absurd (mono _ _ (by omega) (lt i hi)) this
 have e:p.toList=QF xs.length:=oH up S0 fun x=>hp.mem_iff;rw[e];exact range_getD xs V.non
theorem PX(c a b:Int):ltL [c,a] [c,b]=decide (a<b):=by
 unfold ltL;show(if c=c then(if a=b then _ else decide (a<b))else _)=_;rw[if_pos rfl];by_cases z:a=b
 ·rw[if_pos z];exact(decide_eq_false (by omega)).symm
 ·rw[if_neg z]
def nD(K:cw)(mg:pe->Option cT):Sp:=fun vs H Q _=>∃(p:dk),vs=[.ref p]/\∃S x,PgA K mg H p S x/\∀H' d,Same H H'->H d=none->H' d=some (.dK (dI S.dn))->Q (.ref d) H'
theorem vA:FnScope ["self"] aJ (aw jO):=fsc
include eV fR a8 a9 in
theorem vC(F:Fun K "taken" "Page.taken" jO f fd):FnOk P w K mg base CX0 1 f fd aJ (nD K mg):=by
 refine F.oj vA ?_;rintro _ _ _ _ _ _ _ _ _ _ _ _ ⟨p,rfl,h⟩;refine⟨_,(ax (aL (bF ES (by rfl) fR RY (aa (aF (K:=K) rfl (pv 0) rfl) ae)))),?_⟩;obtain⟨S,x,PA,kk⟩:=h;obtain⟨C,dx,mP,T,hp⟩:=PA.ob;obtain⟨cl,n1,n2,n3,n4,n5,n6,n7,n8,n9,n10,n11⟩:=id T;have gd:=PA.dn;have ld:=PA.td.toCk.len;clean_wf;intro d H1 hd s1 g1;exact kk H1 d s1 hd g1
def kN(K:cw)(mg:pe->Option cT):Sp:=fun vs H Q _=>∃(p:dk),vs=[.ref p]/\∃S x,PgA K mg H p S x/\S.od.length<=60/\∀H' l xs,Same H H'->H l=none->H' l=some (.lst xs)->Nms H' xs S.od->Q (.ref l) H'
theorem ux:FnScope ["self"] aJ (aw i8):=fsc
include eV cM a8 a9 in
theorem tT(F:Fun K "places" "Page.places" i8 f fd):FnOk P w K mg base CX0 1 f fd aJ (kN K mg):=by
 refine F.oj ux ?_;rintro _ _ _ _ H _ _ _ _ _ _ _ ⟨p,rfl,h⟩;refine⟨_,(ax (aL (bF (uC (K:=K) rfl) (by rfl) cM Q5 (aa (aF (K:=K) rfl (pv 0) rfl) ae)))),?_⟩;obtain⟨S,x,PA,lo,kk⟩:=h;obtain⟨C,dx,mP,T,hp⟩:=PA.ob;obtain⟨cl,n1,n2,n3,n4,n5,n6,n7,n8,n9,n10,n11⟩:=id T;obtain⟨xs,go,no⟩:=PA.od;have lx:=no.len;have sl:SqL K H x.o xs:=SqL.of go;clean_wf;intro l H1 hl s1 g1;exact kk H1 l xs s1 hl g1 (no.up (.same s1))
def pJ(K:cw)(mg:pe->Option cT):Sp:=fun vs H Q _=>∃(p:dk),vs=[.ref p]/\∃S x,PgA K mg H p S x/\S.kp=[]/\∀H' l,Same H H'->H l=none->H' l=some (.lst [])->Q (.ref l) H'
theorem xX:FnScope ["self"] aJ (aw mL):=fsc
include eV cM dS a8 a9 in
theorem xq(F:Fun K "kept" "Page.kept" mL f fd):FnOk P w K mg base CX0 1 f fd aJ (pJ K mg):=by
 refine F.oj xX ?_;rintro _ _ _ _ H _ _ _ _ _ _ _ ⟨p,rfl,h⟩;refine⟨_,(ax (aL (aQ vE (by rfl) dS Sf (aa (bF (zQ rfl) (by rfl) cM Q5 (aa (aF (K:=K) rfl (pv 0) rfl) ae)) ae)))),?_⟩;obtain⟨S,x,PA,ek,kk⟩:=h;obtain⟨C,dx,mP,T,hp⟩:=PA.ob;obtain⟨cl,n1,n2,n3,n4,n5,n6,n7,n8,n9,n10,n11⟩:=id T;have gk:=PA.kp;rw[ek]at gk;clean_wf;refine⟨x.k,rfl,gk,fun l hl=>?_⟩;have gl:upd H l (.lst []) l=some (.lst []):=af;clean_wf;refine⟨l,[],[],rfl,SqL.of gl,(by decide),.nil,fun l2 ws h2 pm=>?_⟩;rw[Yr.mp pm];have s2:=aB (o:=.lst []) h2;have ne:l2≠l:=fun z=>by
  rw[z,af]at h2;cases h2
 rw[aj ne]at h2;exact kk _ l2 ((aB hl).trans s2) h2 af
theorem z0{K:cw}{x6:V}(h:H a=some (.tup [x1,x2,x3,x4,x5,x6]))(q:∀p H',H p=none->Same H H'->H' p=some (.tup [x1,x2,x3,x4,x5])->Q (.ref p) H'):JO K (.ref a) none (some 5) H Q:=
 ⟨a,_,rfl,SqT.of h,by show ¬ (HT.sIx 6 0 none=0/\HT.sIx 6 6 (some 5)=6);decide,fun p hp=>q p _ hp (aB hp) af⟩
theorem cj{α β:Type}{R:α->β->Prop}:∀{xs:List α} {ys:List β} {us:List α} {vs:List β},Paired R xs ys->Paired R us vs->Paired R (xs++us) (ys++vs)
 |_,_,_,_,.nil,h=>h
 |_,_,_,_,.cons r t,h=>.cons r (cj t h)
def f7(q:V×Cll):Bool:=decide (q.2.kd="one")
def Rw5(H:Hp)(v:V)(x:Cll):Prop:=∃a,v=.ref a/\H a=some (.tup [.int x.n,.int x.c,.int x.k,.str x.kd,.int x.w])
def oX(K:cw)(mg:pe->Option cT):Sp:=fun vs H Q _=>∃(p:dk),vs=[.ref p]/\∃S x c,PgA K mg H p S x/\S.tk.length<=60/\(∀q∈S.tk,q.2.c=c)/\(S.tk.map (·.2.k)).Pairwise (·<·)/\
 ∀H' l ys,Same H H'->H l=none->H' l=some (.lst ys)->Paired (Rw5 H') ys ((S.tk.filter f7++S.tk.filter fun q=>!f7 q).map (·.2))->Q (.ref l) H'
theorem sc_Page_rows:FnScope ["self","ones","others"] aJ (aw mi):=fsc
variable(bI:FnOk P w K mg base CX0 4 cF cU aJ (cS K))(cO:FnOk P w K mg base CX0 4 cG cD aJ (cC K))(eP:FnOk P w K mg base CX0 4 fL jH aJ (jQ K mg))
include eV bI aN cO aW eP cQ mV mX au az ay a8 av aA aC a9 aE bC aG bR aH bP in
theorem yo(F:Fun K "rows" "Page.rows" mi f fd):FnOk P w K mg base CX0 5 f fd aJ (oX K mg):=by
 refine F.oj sc_Page_rows ?_;rintro _ A _ _ H _ _ _ hr _ _ hu ⟨p,rfl,h⟩;refine⟨_,(ak (Dw (i:=1) ["call"] [none] sc_Page_rows.nd rfl (Ql rfl) rfl rfl (by kernel_rfl) (bx (K:=K) rfl (aF (K:=K) rfl (pv 0) rfl)) (fun _ _ _ _ _ nd=>bg (i:=0) nd rfl (Ql rfl)) (fun _ _ _ _ _=>(fF (br K rfl (aX (MOk.cons ay.cl aH bI aN (MOk.cons au.cl aE bI aN (MOk.cons az.cl aG cO aW MOk.nil))) (pv 0) hr)))) (fun _ _ _ _ _=>(pv 0)))
   (ak (Dw (i:=2) ["call"] [none] sc_Page_rows.nd rfl (Ql rfl) rfl rfl (by kernel_rfl) (bx (K:=K) rfl (aF (K:=K) rfl (pv 0) rfl)) (fun _ _ _ _ _ nd=>bg (i:=0) nd rfl (Ql rfl)) (fun _ _ _ _ _=>(fF (jR (br K rfl (aX (MOk.cons ay.cl aH bI aN (MOk.cons au.cl aE bI aN (MOk.cons az.cl aG cO aW MOk.nil))) (pv 0) hr))))) (fun _ _ _ _ _=>(pv 0)))
   (ax (aL (bV ["call"] [none] rfl rfl (by kernel_rfl) (bx (K:=K) rfl (bH q8 (pv 1) (aT mV mX hr (aa (pv 2) ae)))) (fun _ _ _ _ _ nd=>bg (i:=0) nd rfl (Ql rfl)) (fun _ _ _ _ _=>eJ) (fun _ _ _ _ _=>(hU (sY (K:=K) rfl) (aX (MOk.cons ay.cl bP eP cQ (MOk.cons au.cl bC eP cQ (MOk.cons az.cl bR eP cQ MOk.nil))) (pv 0) hr) mU (iK aM)))))))),?_⟩
 obtain⟨S,x,c,PA,lt,ec,up,kk⟩:=h;obtain⟨C,dx,mP,T,hp⟩:=PA.ob;obtain⟨cl,n1,n2,n3,n4,n5,n6,n7,n8,n9,n10,n11⟩:=id T;have gt:=PA.tk;have tc:=PA.tc;clean_wf;intro D1 hD1;refine bz (K:=K) (a:=x.t) (xs:=S.tk.map (·.1)) (fun i σ A=>∃v zs,σ=[v]/\Same H A/\A D1=some (.lst ((zs:List (V×Cll)).map (·.1)))/\zs=(S.tk.take i).filter f7) ⟨none,[],rfl,aB hD1,af,rfl⟩ ?_ ?_ ?_
 ·rintro i σ A _ ⟨_,_,_,z,_⟩;exact SqL.of (z _ _ gt)
 ·rintro i v σ A hx ⟨v0,zs,rfl,sA,gE,ez⟩;obtain⟨q,hq,rfl⟩:∃q,S.tk[i]?=some q/\q.1=v:=by
   rw[CA]at hx;cases e:S.tk[i]? with
   |none=>rw[e]at hx;cases hx
   |some q=>rw[e]at hx;exact⟨q,rfl,Qj hx⟩
  have hi:=(pk.mp hq).1;have lz:zs.length<=i:=by
   rw[ez];exact QT (Qf _ _) (RW _ _)
  have yes:f7 q=true->zs++[q]=(S.tk.take (i+ 1)).filter f7:=fun w=>by
   rw[aP hq,Qm,←ez];simp[w]
  have no:f7 q=false->zs=(S.tk.take (i+ 1)).filter f7:=fun w=>by
   rw[aP hq,Qm,←ez];simp[w]
  have put:f7 q=true->∃v' zs',[some q.1]=[v']/\Same H (upd A D1 (.lst (zs.map (·.1)++[q.1])))/\upd A D1 (.lst (zs.map (·.1)++[q.1])) D1=some (.lst ((zs':List (V×Cll)).map (·.1)))/\zs'=(S.tk.take (i+ 1)).filter f7:=fun w=>
   ⟨_,zs++[q],rfl,fun b o z=>by rw[aj (ai z hD1)];exact sA b o z,by rw[af,xt];rfl,yes w⟩
  obtain⟨v,y⟩:=q;obtain⟨pp,C',dx',t,xs',e0,hk,hT,hpp,ht,hpx,hcs⟩:=(tc _ (QA hq)).up (.same (sA));have e0:v=.ref pp:=e0;subst e0;obtain⟨kd,n,c',k,w,css⟩:=y;have hk:KdC mg kd C':=hk;have hpp:A pp=some (.ins C' dx' (cfl (.int n) (.int c') (.int k) (.int w) (.ref t))):=hpp;rcases hk with⟨rfl,e⟩|⟨rfl,e⟩|⟨rfl,e⟩
  ·rw[aC]at e;cases e;clean_wf;refine⟨pp,rfl,?_⟩;clean_wf;exact⟨_,zs,rfl,sA,gE,no (by unfold f7;kernel_rfl)⟩
  ·rw[av]at e;cases e;clean_wf;refine⟨pp,rfl,?_⟩;clean_wf;exact⟨_,zs,rfl,sA,gE,no (by unfold f7;kernel_rfl)⟩
  ·rw[aA]at e;cases e;clean_wf;refine⟨pp,rfl,?_⟩;clean_wf;exact⟨_,gE,by rw[gm];exact aD (by omega),put (by unfold f7;kernel_rfl)⟩
 rintro σ A1 ⟨v1,z1,rfl,s1,g1,ez1⟩;rw[gm,Qq]at ez1;have hp1:=s1 _ _ hp;have gt1:=s1 _ _ gt;clean_wf;intro D2 hD2;refine bz (K:=K) (a:=x.t) (xs:=S.tk.map (·.1)) (fun i σ A=>∃v zs,σ=[v]/\Same A1 A/\A D2=some (.lst ((zs:List (V×Cll)).map (·.1)))/\zs=(S.tk.take i).filter fun q=>!f7 q) ⟨none,[],rfl,aB hD2,af,rfl⟩ ?_ ?_ ?_
 ·rintro i σ A _ ⟨_,_,_,z,_⟩;exact SqL.of (z _ _ gt1)
 ·rintro i v σ A hx ⟨v0,zs,rfl,sA,gE,ez⟩;obtain⟨q,hq,rfl⟩:∃q,S.tk[i]?=some q/\q.1=v:=by
   rw[CA]at hx;cases e:S.tk[i]? with
   |none=>rw[e]at hx;cases hx
   |some q=>rw[e]at hx;exact⟨q,rfl,Qj hx⟩
  have hi:=(pk.mp hq).1;have lz:zs.length<=i:=by
   rw[ez];exact QT (Qf _ _) (RW _ _)
  have yes:(!f7 q)=true->zs++[q]=(S.tk.take (i+ 1)).filter (fun q=>!f7 q):=fun w=>by
   rw[aP hq,Qm,←ez];simp[w]
  have no:(!f7 q)=false->zs=(S.tk.take (i+ 1)).filter (fun q=>!f7 q):=fun w=>by
   rw[aP hq,Qm,←ez];simp[w]
  have put:(!f7 q)=true->∃v' zs',[some q.1]=[v']/\Same A1 (upd A D2 (.lst (zs.map (·.1)++[q.1])))/\upd A D2 (.lst (zs.map (·.1)++[q.1])) D2=some (.lst ((zs':List (V×Cll)).map (·.1)))/\zs'=(S.tk.take (i+ 1)).filter (fun q=>!f7 q):=fun w=>
   ⟨_,zs++[q],rfl,fun b o z=>by rw[aj (ai z hD2)];exact sA b o z,by rw[af,xt];rfl,yes w⟩
  obtain⟨v,y⟩:=q;obtain⟨pp,C',dx',t,xs',e0,hk,hT,hpp,ht,hpx,hcs⟩:=(tc _ (QA hq)).up (.same (s1.trans sA));have e0:v=.ref pp:=e0;subst e0;obtain⟨kd,n,c',k,w,css⟩:=y;have hk:KdC mg kd C':=hk;have hpp:A pp=some (.ins C' dx' (cfl (.int n) (.int c') (.int k) (.int w) (.ref t))):=hpp;rcases hk with⟨rfl,e⟩|⟨rfl,e⟩|⟨rfl,e⟩
  ·rw[aC]at e;cases e;clean_wf;refine⟨pp,rfl,?_⟩;clean_wf;exact⟨_,gE,by rw[gm];exact aD (by omega),put (by unfold f7;kernel_rfl)⟩
  ·rw[av]at e;cases e;clean_wf;refine⟨pp,rfl,?_⟩;clean_wf;exact⟨_,gE,by rw[gm];exact aD (by omega),put (by unfold f7;kernel_rfl)⟩
  ·rw[aA]at e;cases e;clean_wf;refine⟨pp,rfl,?_⟩;clean_wf;exact⟨_,zs,rfl,sA,gE,no (by unfold f7;kernel_rfl)⟩
 rintro σ A2 ⟨v2,z2,rfl,s2,g2,ez2⟩;rw[gm,Qq]at ez2;clean_wf;have cz:∀q∈S.tk,CllA K mg A2 q.1 q.2:=fun q hq=>(tc q hq).up (.same (s1.trans s2));have m1:∀q∈z1,q∈S.tk:=fun q hq=>by rw[ez1]at hq;exact(QS.mp hq).1
 have m2:∀q∈z2,q∈S.tk:=fun q hq=>by rw[ez2]at hq;exact(QS.mp hq).1
 have l1:z1.length<=S.tk.length:=by rw[ez1];exact Qf _ _
 have l2:z2.length<=S.tk.length:=by rw[ez2];exact Qf _ _
 have prs:∀{B:Hp} (l:List (V×Cll)),(∀q∈l,CllA K mg B q.1 q.2)->xU K mg B (l.map (·.1)) (l.map (·.2)):=fun{B} l=>by
  induction l with
  |nil=>exact fun _=>.nil
  |cons q l ih=>exact fun h=>.cons (h q xl) (ih fun r hr=>h r (xj _ hr))
 refine⟨D2,rfl,_,z2.map (·.2),SqL.of g2,prs z2 fun q hq=>cz q (m2 q hq),(by rw[gm];omega),fun A3 D3 ws' s3 hD3 pm od g3=>?_⟩;have e3:ws'=z2.map (·.1):=by
  have kd:∀i (hi:i<z2.length),((z2.map (·.2)).map fun x=>[x.c,x.k]).getD i []=[c,z2[i].2.k]:=fun i hi=>by
   rw[Qs,CA,CA,xi hi];show[z2[i].2.c,z2[i].2.k]=_;rw[ec _ (m2 _ (RB hi))]
  have gi:∀i (hi:i<z2.length),(z2.map (·.2.k)).getD i 0=z2[i].2.k:=fun i hi=>by
   rw[Qs,CA,xi hi];rfl
  refine J8 od (fun i=>(z2.map (·.2.k)).getD i 0) (fun i j hi hj=>?_) fun i j hij hj=>?_
  ·rw[gm]at hi hj;rw[kd i hi,kd j hj,gi i hi,gi j hj];exact PX _ _ _
  ·rw[gm]at hj;show(z2.map (·.2.k)).getD i 0<(z2.map (·.2.k)).getD j 0;rw[gi i (by omega),gi j hj];have u2:(z2.map (·.2.k)).Pairwise (·<·):=by
    rw[ez2];exact up.sublist (Tn.map _)
   have:=Rq.mp u2 i j (by rw[gm];omega) (by rw[gm];exact hj) hij;rw[SN,SN]at this;exact this
 rw[e3]at g3;refine we (s3 _ _ (s2 _ _ g1)) g3 (by rw[gm,gm];omega) fun D4 A4 hD4 s4 g4=>?_;rw[←xt]at g4;have sH4:Same H A4:=((s1.trans s2).trans s3).trans s4;have mm:∀q∈z1++z2,q∈S.tk:=fun q hq=>(Qw.mp hq).elim (m1 q) (m2 q);refine⟨D4,rfl,⟨_,SqL.of g4⟩,fun D5 hD5=>?_⟩;refine bz (K:=K) (a:=D4) (xs:=(z1++z2).map (·.1)) (fun i σ A=>∃v ys,σ=[v]/\Same A4 A/\A D5=some (.lst ys)/\ys.length=i/\Paired (Rw5 A) ys (((z1++z2).take i).map (·.2))) ⟨none,[],rfl,aB hD5,af,rfl,.nil⟩ ?_ ?_ ?_
 ·rintro i σ A _ ⟨_,_,_,z,_⟩;exact SqL.of (z _ _ g4)
 ·rintro i v σ A hx ⟨v0,ys,rfl,sA,gE,ly,py⟩;obtain⟨q,hq,rfl⟩:∃q,(z1++z2)[i]?=some q/\q.1=v:=by
   rw[CA]at hx;cases e:(z1++z2)[i]? with
   |none=>rw[e]at hx;cases hx
   |some q=>rw[e]at hx;exact⟨q,rfl,Qj hx⟩
  have hi:=(pk.mp hq).1;rw[xp]at hi;have cq:=(tc _ (mm q (QA hq))).up (.same (sH4.trans sA));obtain⟨v,y⟩:=q;obtain⟨pp,C',dx',t,xs',e0,hk,hT,hpp,ht,hpx,hcs⟩:=id cq;have e0:v=.ref pp:=e0;subst e0;have hk:KdC mg y.kd C':=hk;have ne5:∀b o,A4 b=some o->b≠D5:=fun b o z=>ai z hD5;rcases hk with⟨ek,e⟩|⟨ek,e⟩|⟨ek,e⟩
  ·rw[aC]at e;cases e;clean_wf;refine⟨_,rfl,y,cq,fun A5 u s5 hu tl=>?_⟩;obtain⟨u',t',xs'',e5,gu,_⟩:=tl;cases e5;clean_wf;refine z0 gu fun r A6 hr s6 gr=>?_;have g5:=s6 _ _ (s5 _ _ gE);refine⟨ys,g5,aD (by omega),_,ys++[.ref r],rfl,fun b o z=>?_,af,by rw[xp,ly];rfl,?_⟩
   ·rw[aj (ne5 b o z)];exact s6 _ _ (s5 _ _ (sA b o z))
   ·rw[aP hq,xt];have kt:SmH A6 (upd A6 D5 (.lst (ys++[.ref r]))):=SmH.lst g5;refine cj (Paired.mapP py fun v y' hv=>?_) (.cons ⟨r,rfl,kt _ _ gr⟩ .nil);obtain⟨a',e',h'⟩:=hv;exact⟨a',e',kt _ _ (s6 _ _ (s5 _ _ h'))⟩
  ·rw[av]at e;cases e;clean_wf;refine⟨_,rfl,y,cq,fun A5 u s5 hu tl=>?_⟩;obtain⟨u',t',xs'',e5,gu,_⟩:=tl;cases e5;clean_wf;refine z0 gu fun r A6 hr s6 gr=>?_;have g5:=s6 _ _ (s5 _ _ gE);refine⟨ys,g5,aD (by omega),_,ys++[.ref r],rfl,fun b o z=>?_,af,by rw[xp,ly];rfl,?_⟩
   ·rw[aj (ne5 b o z)];exact s6 _ _ (s5 _ _ (sA b o z))
   ·rw[aP hq,xt];have kt:SmH A6 (upd A6 D5 (.lst (ys++[.ref r]))):=SmH.lst g5;refine cj (Paired.mapP py fun v y' hv=>?_) (.cons ⟨r,rfl,kt _ _ gr⟩ .nil);obtain⟨a',e',h'⟩:=hv;exact⟨a',e',kt _ _ (s6 _ _ (s5 _ _ h'))⟩
  ·rw[aA]at e;cases e;clean_wf;refine⟨_,rfl,y,cq,fun A5 u s5 hu tl=>?_⟩;obtain⟨u',t',xs'',e5,gu,_⟩:=tl;cases e5;clean_wf;refine z0 gu fun r A6 hr s6 gr=>?_;have g5:=s6 _ _ (s5 _ _ gE);refine⟨ys,g5,aD (by omega),_,ys++[.ref r],rfl,fun b o z=>?_,af,by rw[xp,ly];rfl,?_⟩
   ·rw[aj (ne5 b o z)];exact s6 _ _ (s5 _ _ (sA b o z))
   ·rw[aP hq,xt];have kt:SmH A6 (upd A6 D5 (.lst (ys++[.ref r]))):=SmH.lst g5;refine cj (Paired.mapP py fun v y' hv=>?_) (.cons ⟨r,rfl,kt _ _ gr⟩ .nil);obtain⟨a',e',h'⟩:=hv;exact⟨a',e',kt _ _ (s6 _ _ (s5 _ _ h'))⟩
 rintro σ A ⟨v0,ys,rfl,sA,gE,ly,py⟩;rw[gm,Qq,ez1,ez2]at py;have hn:H D5=none:=by
  cases z:H D5 with
  |none=>rfl
  |some o=>rw[sH4 _ _ z]at hD5;cases hD5
 exact kk A D5 ys (sH4.trans sA) hn gE py
def nmc(c:Cll):Nm:=(c.n,c.c,c.k)
theorem Gs(h:∀k,ct m k=ct m' k)(x:Cll):frb m x=frb m' x:=by
 unfold frb cov;simp only[h]
theorem Mg(h:∀k,ct m k=ct m' k)(x:Cll)(o:Option Nm):tkb m x o=tkb m' x o:=by
 unfold tkb;rw[Gs h]
theorem J9(e:∀k,ct m' k=ct m k)(ns:List Nm):nxo ns m'=nxo ns m:=by
 unfold nxo cvd;simp only[e]
theorem JB(h:frb m c=true):ct m c.c=c.k-1:=of_decide_eq_true (Uw.mp h).1
theorem NK(fr:frb m0 c=true)(h:Fw hs (LkC [(v,c)]) ns m0 rw last m):(rw=[]/\last=none/\m=m0)∨(rw=[(v,c)]/\m=dh m0 c.c c.k/\tkb m0 c (nxo ns m0)=true):=by
 induction h with
 |start=>exact .inl ⟨rfl,rfl,rfl⟩
 |@step rw last m v' x f e ih=>
  obtain⟨h,_,e1,e2⟩:=sX e;obtain⟨e3,e4,e5⟩:=mW e1;have e6:=tw.mp e3;cases e6;have e4:c.c=h:=e4;have e5:c.k=ct m h+ 1:=e5;rcases ih with⟨rfl,rfl,rfl⟩|⟨rfl,rfl,_⟩
  ·exact .inr ⟨rfl,rfl,e2⟩
  ·rw[←e4,qL,if_pos rfl]at e5;omega
theorem w5(fr:frb m c=true)(h:Rn [v] [c] m ns rw m'):
  (tkb m c (nxo ns m)=true->rw=[(v,c)]/\∀k,ct m' k=if k=c.c then c.k else ct m k)/\(tkb m c (nxo ns m)=false->rw=[]/\∀k,ct m' k=ct m k):=by
 obtain⟨hs,m0,last,⟨hu,hm⟩,_,e,f,g⟩:=h;have f:Fw hs (LkC [(v,c)]) ns m0 rw last m':=f;have g:fst (frm hs last) (LkC [(v,c)]) m' (nxo ns m')=none:=g;have fr0:frb m0 c=true:=by rw[Gs e];exact fr
 have et:tkb m0 c (nxo ns m0)=tkb m c (nxo ns m):=by rw[Mg e,J9 e]
 have ch:c.c∈hs:=(hm _).mpr ⟨c,TV c,rfl⟩;rcases NK fr0 f with⟨rfl,rfl,rfl⟩|⟨rfl,rfl,t⟩
 ·have nt:tkb m c (nxo ns m)=false:=by
   rw[←et];cases z:tkb m' c (nxo ns m')with
   |false=>rfl
   |true=>
    have:=UY.mp g c.c ch;unfold tk1 at this;have lk:LkC [(v,c)] c.c (ct m' c.c+ 1)=some (v,c):=by
     have:=JB fr0;unfold LkC;rw[List.reverse_singleton,T5];exact decide_eq_true ⟨rfl,by show c.k=ct m' c.c+ 1;omega⟩
    rw[lk]at this;simp[z]at this
  exact⟨(fun z=>by rw[nt]at z;cases z),fun _=>⟨rfl,e⟩⟩
 ·rw[et]at t;refine⟨fun _=>⟨rfl,fun k=>?_⟩,(fun z=>by rw[t]at z;cases z)⟩;rw[qL];by_cases z:k=c.c
  ·rw[if_pos z,if_pos z]
  ·rw[if_neg z,if_neg z,e]
theorem Nq(fr:frb m c=true)(hc:∀p∈ns,cvd m p)(h:Pw [v] [c] m ns row gs m'):(gs=ns/\(c.kd="one"->∀k,ct m' k=ct m k))∨(c.kd="one"/\gs=ns++[nmc c]/\ct m' c.c=c.k):=by
 have nn:nxo ns m=none:=by
  unfold nxo;refine UQ.mpr fun p hp=>?_;have:=hc p hp;simp[this]
 induction h with
 |start r=>
  refine .inl ⟨rfl,fun o=>?_⟩;refine((w5 fr r).2 ?_).2;rw[nn];unfold tkb;rw[o];simp
 |@step row rw gs m1 m2 q j p la fo rn ih=>
  obtain⟨l1,l2,_⟩:=la;have e:=tw.mp l1;cases e;have l2:fN m1 c=true:=l2;obtain⟨o,f1⟩:=Uw.mp l2;have o:=of_decide_eq_true o;rcases ih with⟨rfl,e⟩|⟨_,_,e⟩
  ·have e:=e o;have jl:j=gs.length:=by
    have:=fo.1;by_cases z:j<gs.length
    ·have:=fo.2.2 z;refine absurd ?_ this;show _<=ct m1 _;rw[e];exact hc _ (RB z)
    ·omega
   rw[jl,Qq]at rn⊢;refine .inr ⟨o,rfl,?_⟩;have nx:nxo (gs++[nmc c]) m1=some (nmc c):=by
    have:=xA (m:=m1) (ns:=gs) (j:=gs.length) (p:=nmc c) (fun k hk _=>by show _<=ct m1 _;rw[e];exact hc _ (RB hk)) (oh _) (by
     show ¬ c.k<=ct m1 c.c;have:=JB f1;omega)
    rw[Qq]at this;exact this
   have:=((w5 f1 rn).1 (by
    show tkb m1 c (nxo (gs++[nmc c]) m1)=true;rw[nx];unfold tkb;rw[f1,decide_eq_true (show some (nmc c)=some (c.n,c.c,c.k)from rfl)];simp)).2 c.c
   rw[if_pos rfl]at this;exact this
  ·have:=JB f1;omega
def dn1(me:Int)(n:Nat):List (Int×Int):=if n=0 then[]else[(me,(n:Int))]
theorem Bl(me x k:Int):ct [(me,x)] k=if k=me then x else 0:=by
 unfold ct lkI;by_cases z:me=k
 ·rw[if_pos z,if_pos z.symm];rfl
 ·rw[if_neg z,if_neg (QH z)];rfl
theorem xG(me:Int)(n:Nat)(k:Int):ct (dn1 me n) k=if k=me then(n:Int)else 0:=by
 unfold dn1;by_cases z:n=0
 ·rw[if_pos z,z];show(0:Int)=_;split<;>rfl
 ·rw[if_neg z];exact Bl _ _ _
theorem JU(me:Int)(n:Nat):dh (dn1 me n) me (n+ 1)=dn1 me (n+ 1):=by
 unfold dn1;by_cases z:n=0
 ·rw[if_pos z,z];rfl
 ·rw[if_neg z,if_neg (by omega)];show(if me=me then _ else _)=_;rw[if_pos rfl];simp
theorem Dk{me:Int}{j:List (Int×Int)}:∀{ns:List Nm},(∀p∈ns,p.2.1=me/\p.2.2<=ct j me)->sur [(me,j)] ns=ns.length
 |[],_=>rfl
 |p::ns,h=>by
  obtain⟨h1,h2⟩:=h p xl;have r1:rch [(me,j)] p.2.1 p.2.2=1:=by
   unfold rch;rw[h1,SR]
   ·rfl
   ·exact decide_eq_true h2
  unfold sur;rw[if_neg (by rw[r1];show ¬ 2*1<=1;decide),Dk fun q hq=>h q (xj _ hq)];rfl
theorem GD{d:List (Int×Int)}(h:LrR [(me,d)] me m tb)(hd:ct d me<=n)(hm:ct m me=n):∃j,tb=[(me,j)]/\ct j me=n:=by
 have t:tbl [(me,d)] me=some d:=by
  unfold tbl;rw[if_pos rfl]
 obtain⟨j,_,mx,rfl⟩:=h.2 d t;refine⟨j,by unfold vj;rw[WV,if_pos rfl],?_⟩;obtain⟨⟨x,hx,e⟩,le⟩:=mx me;have l1:=le m (by simp);rcases uc.mp hx with z|z
 ·rw[z]at e;omega
 ·rw[tw.mp z]at e;omega
structure Al(me nu ro:Int)(S:Pg)(cs:List Cll):Prop where
 em:S.me=me
 en:S.nu=nu
 hl:GB.hl S.ha=[me]
 er:S.ro=ro
 ma:S.ma=cs.length
 kp:S.kp=[]
 tk:S.tk.map (·.2)=cs
 ck:∀(i:Nat) (c:Cll),cs[i]?=some c->c.n=nu/\c.c=me/\c.k=(i:Int)+ 1
 dn:S.dn=dn1 me cs.length
 od:S.od=(cs.filter fun c=>decide (c.kd=("one":pe))).map nmc
 ta:∃d,S.ta=[(me,d)]/\ct d me=cs.length
 ab:∃d,S.ab=[(me,d)]/\ct d me=cs.length
theorem Al.mem(h:Al me nu ro S cs)(hc:c∈cs):c.n=nu/\c.c=me/\0<c.k/\c.k<=cs.length:=by
 obtain⟨i,hi⟩:=QJ hc;obtain⟨h1,h2,h3⟩:=h.ck i c hi;have:=(pk.mp hi).1;exact⟨h1,h2,by omega,by omega⟩
theorem Al.odm(h:Al me nu ro S cs){p:Nm}(hp:p∈S.od):p.2.1=me/\p.2.2<=cs.length:=by
 rw[h.od]at hp;obtain⟨c,hc,rfl⟩:=QE.mp hp;obtain⟨_,h2,_,h4⟩:=h.mem (QS.mp hc).1;exact⟨h2,h4⟩
theorem JS{S':Pg}(h:Al me nu ro S cs)(h1:c.n=nu)(h2:c.c=me)(h3:c.k=cs.length+ 1)(fr:frb S.dn c=true)(st:LS {S with ma:=S.ma+ 1,kp:=S.kp++[(v,c)]} S' rw):rw=[(v,c)]/\Al me nu ro S' (cs++[c]):=by
 obtain⟨zs,rw1,m1,m2,od',ab',ta',j,pm,_,_,pl,r1,la,r2,lt,fl,rfl⟩:=st;have pm:zs.Perm (S.kp++[(v,c)]):=pm;rw[h.kp,X5]at pm;have ez:zs=[(v,c)]:=WB.mp pm;subst ez;have cd:∀p∈S.od,cvd S.dn p:=fun p hp=>by
  obtain⟨a,b⟩:=h.odm hp;show p.2.2<=ct S.dn p.2.1;rw[h.dn,xG,a,if_pos rfl];exact b
 have lv:ub S.ha=.int S.me:=by
  unfold ub;rw[h.hl,h.em]
 obtain⟨rw0,m0,pw,ln⟩:=pl lv;have pw:Pw [v] [c] S.dn S.od rw0 od' m0:=pw;have ln:fN m0 c=false:=ln (v,c) (TV _);have eo:od'=S.od++if c.kd="one"then[nmc c]else[]:=by
  rcases Nq fr cd pw with⟨e,f⟩|⟨o,e,_⟩
  ·by_cases o:c.kd="one"
   ·exfalso;rw[Cv (f o)]at ln;unfold fN at ln;rw[fr,decide_eq_true o]at ln;cases ln
   ·rw[if_neg o,Q2];exact e
  ·rw[if_pos o];exact e
 have tk:tkb S.dn c (nxo od' S.dn)=true:=by
  unfold tkb;rw[fr];by_cases o:c.kd="one"
  ·have nx:nxo od' S.dn=some (nmc c):=by
    rw[eo,if_pos o];have:=xA (m:=S.dn) (ns:=S.od) (j:=S.od.length) (p:=nmc c) (fun k hk _=>cd _ (RB hk)) (oh _) (by
     show ¬ c.k<=ct S.dn c.c;have:=JB fr;omega)
    rw[Qq]at this;exact this
   rw[nx,decide_eq_true (show some (nmc c)=some (c.n,c.c,c.k)from rfl)];simp
  ·simp[o]
 have e1:=((w5 (v:=v) fr r1).1 tk).2 me;rw[h2,if_pos rfl]at e1;obtain⟨d,ea,ed⟩:=h.ab;obtain⟨jb,eb,cb⟩:=GD (n:=c.k) (by rw[←ea,←h.em];exact la) (by omega) e1;have odm:∀p∈od',p.2.1=me/\p.2.2<=ct jb me:=fun p hp=>by
  rw[eo]at hp;rcases Qw.mp hp with z|z
  ·obtain⟨a,b⟩:=h.odm z;exact⟨a,by omega⟩
  ·by_cases o:c.kd="one"
   ·rw[if_pos o]at z;rw[tw.mp z];exact⟨h2,by show c.k<=_;omega⟩
   ·rw[if_neg o]at z;cases z
 rw[eb,Dk odm,Qq]at r2;obtain⟨er,e2⟩:=(w5 (v:=v) fr r2).1 tk;subst er;have ed':dnp S.dn [(v,c)]=dn1 me (cs.length+ 1):=by
  show dh S.dn c.c c.k=_;rw[h.dn,h2,h3];exact JU _ _
 obtain⟨t,et,ct'⟩:=h.ta;have lt:LrR S.ta S.me (dnp S.dn [(v,c)]) ta':=lt;obtain⟨jt,eb2,cb2⟩:=GD (n:=c.k) (by rw[←et,←h.em];exact lt) (by omega) (by rw[ed',xG,if_pos rfl,h3];simp);obtain⟨_,mn⟩:=fl;rw[eb2]at mn;obtain⟨⟨x,hx,ex⟩,_⟩:=mn me;rw[tw.mp hx]at ex;have ex:ct jt me=ct j me:=ex;refine⟨rfl,h.em,h.en,h.hl,h.er,?_,?_,?_,fun i c' hi=>?_,?_,?_,⟨jt,eb2,?_⟩,⟨jb,eb,?_⟩⟩
 ·show S.ma+ 1=_;rw[h.ma,xp];simp
 ·show kpl j (S.kp++[(v,c)])=[];rw[h.kp];unfold kpl;rw[X5,VB]
  ·rfl
  ·show ¬ (!decide (c.k<=ct j c.c))=true;rw[h2,decide_eq_true (by omega)];decide
 ·show(S.tk++[(v,c)]).map (·.2)=_;rw[xt,h.tk];rfl
 ·by_cases z:i<cs.length
  ·rw[Tq z]at hi;exact h.ck i c' hi
  ·rw[Tf (by omega)]at hi;have zz:i-cs.length=0:=by
    have:=(pk.mp hi).1;simp at this;omega
   rw[zz]at hi;cases hi;exact⟨h1,h2,by omega⟩
 ·show dnp S.dn [(v,c)]=_;rw[ed',xp];rfl
 ·show od'=_;rw[eo,h.od,Qm,xt];congr 1;by_cases o:c.kd="one"
  ·rw[if_pos o,SR]
   ·rfl
   ·exact decide_eq_true o
  ·rw[if_neg o,VB]
   ·rfl
   ·simpa using o
 ·rw[cb2,h3,xp];simp
 ·rw[cb,h3,xp];simp
abbrev ie:QB:=top 47
abbrev lJ:QB:=top 49
def j5(K:cw):Sp:=fun vs H Q _=>∃(a:dk) (k:Int),vs=[.ref a,.int k]/\∃ns:List Int,SqL K H a (ns.map V.int)/\0<=k/\∀c:Int,Q (.int c) H
abbrev y7:List pe:=["_law_script","_law_k"]
theorem sU:FnScope ["_law_script","_law_k"] y7 (aw ie):=fsc
include eV d5 in
theorem sQ(F:Fun K "_law_cell_at" "_law_cell_at" ie f fd):FnOk P w K mg base CX0 1 f fd y7 (j5 K):=by
 refine F.oj sU ?_;rintro _ _ _ _ _ _ _ _ _ _ _ _ ⟨a,k,rfl,h⟩;refine⟨_,(ak (d7 (bD yK (pv 1) (aQ (dD (K:=K) rfl) (by rfl) d5 RG (aa (pv 0) ae)) (bw _)) (ax (aL (fX (zX (K:=K) rfl) (pv 0) (pv 1) (fun _ _=>rfl)))) bS)
   (ax (aL aM))),?_⟩
 obtain⟨ns,hS,h0,q⟩:=h;clean_wf;refine dO (fun h1=>?_) fun h1=>?_
 ·have h1:k<((ns.map V.int).length:Nat):=of_decide_eq_true h1;rw[gm]at h1;have hx:k.toNat<ns.length:=by omega
  have hat:atI (ns.map V.int) k=some (V.int ns[k.toNat]):=CO h0 (by rw[CA,xi hx];rfl);clean_wf;exact q _
 ·clean_wf;exact q _
def pf(K:cw):Sp:=fun vs H Q _=>∃(c:Int),vs=[.int c]/\∀w:Int,(if w<0 then-w else w)<10^(60:Int).toNat->Q (.int w) H
abbrev zM:List pe:=["_law_cell"]
theorem w9:FnScope ["_law_cell"] zM (aw lJ):=fsc
include eV in
theorem wY(F:Fun K "_law_word" "_law_word" lJ f fd):FnOk P w K mg base CX0 1 f fd zM (pf K):=by
 refine F.oj w9 ?_;rintro _ _ _ _ _ _ _ _ _ _ _ _ ⟨c,rfl,h⟩;refine⟨_,(ax (aL (bH jD (bH vn (bH vi (pv 0) (bH vn (bH Gp aM (bH yg aM aM)) aM)) (bH yg aM aM)) aM))),?_⟩;have p60:=HF;have p60d:(0:Int)<2*10^(60:Int).toNat-1:=by omega
 have cp60:Gz 10 60:=⟨by decide,by decide,by decide⟩;have c60:CMul 2 (10^(60:Int).toNat):=.inl ⟨by decide,by decide⟩;have y0:=VJ c (Int.ne_of_gt p60d);have y1:=WW c p60d;clean_wf;refine h _ ?_;generalize c%(2*10^WO 60-1)=y at y0 y1⊢;generalize (10:Int)^WO 60=P at y0 y1⊢;split<;>omega
def HldA(H:Hp)(F:List dk)(v:V)(c:Cll):Prop:=∃l y,v=.ref l/\l∉F/\H l=some (.lst [y])/\TkA H y (.non,c)
theorem HldA.keep{F':List dk}(h:HldA H F v c)(sm:SmH H H')(ls:∀a xs,a∉F->H a=some (.lst xs)->H' a=some (.lst xs))(ff:∀a∈F',a∈F∨H a=none):HldA H' F' v c:=by
 obtain⟨l,y,e,n,g,t⟩:=h;refine⟨l,y,e,fun z=>?_,ls l _ n g,t.up sm⟩;rcases ff l z with w|w
 ·exact n w
 ·rw[w]at g;cases g
structure Lw(H:Hp)(p ao aq ah ad:dk)(x:PgX)(os qs hs ds:List V)(co cq ch cd:List Cll):Prop where
 no:ao∉x.ft p
 nq:aq∉x.ft p
 nh:ah∉x.ft p
 nd:ad∉x.ft p
 e1:ao≠aq
 e2:ao≠ah
 e3:ao≠ad
 e4:aq≠ah
 e5:aq≠ad
 e6:ah≠ad
 go:H ao=some (.lst os)
 gq:H aq=some (.lst qs)
 gh:H ah=some (.lst hs)
 gd:H ad=some (.lst ds)
 po:Paired (Rw5 H) os co
 pq:Paired (Rw5 H) qs cq
 ph:Paired (HldA H (ao::aq::ah::ad::x.ft p)) hs ch
 pd:Paired (HldA H (ao::aq::ah::ad::x.ft p)) ds cd
theorem Rw5.up(s:SmH H H'){x:Cll}(h:Rw5 H v x):Rw5 H' v x:=by
 obtain⟨a,e,h1⟩:=h;exact⟨a,e,s _ _ h1⟩
section
variable{ad:dk}{x':PgX}{os hs:List V}
theorem Lw.move(h:Lw H p ao aq ah ad x os qs hs ds co cq ch cd)(sm:SmH H H')(ls:∀a xs,a∉x.ft p->H a=some (.lst xs)->H' a=some (.lst xs))(ff:∀a∈x'.ft p,a∈x.ft p∨H a=none):Lw H' p ao aq ah ad x' os qs hs ds co cq ch cd:=by
 have out:∀{a:dk} {xs:List V},a∉x.ft p->H a=some (.lst xs)->a∉x'.ft p:=fun{a xs} n g z=>by
  rcases ff a z with w|w
  ·exact n w
  ·rw[w]at g;cases g
 have f4:∀a∈ao::aq::ah::ad::x'.ft p,a∈ao::aq::ah::ad::x.ft p∨H a=none:=fun a ha=>by
  simp only[uc]at ha⊢;rcases ha with z|z|z|z|z
  ·exact .inl (.inl z)
  ·exact .inl (.inr (.inl z))
  ·exact .inl (.inr (.inr (.inl z)))
  ·exact .inl (.inr (.inr (.inr (.inl z))))
  ·exact(ff a z).imp (fun w=>.inr (.inr (.inr (.inr w)))) id
 have l4:∀a xs,a∉ao::aq::ah::ad::x.ft p->H a=some (.lst xs)->H' a=some (.lst xs):=fun a xs n g=>ls a xs (fun z=>n (by simp[z])) g;exact⟨out h.no h.go,out h.nq h.gq,out h.nh h.gh,out h.nd h.gd,h.e1,h.e2,h.e3,h.e4,h.e5,h.e6,ls _ _ h.no h.go,ls _ _ h.nq h.gq,ls _ _ h.nh h.gh,ls _ _ h.nd h.gd,Paired.mapP h.po fun _ _ z=>z.up sm,Paired.mapP h.pq fun _ _ z=>z.up sm,Paired.mapP h.ph fun _ _ z=>z.keep sm l4 f4,Paired.mapP h.pd fun _ _ z=>z.keep sm l4 f4⟩
theorem Lw.same(h:Lw H p ao aq ah ad x os qs hs ds co cq ch cd)(s:Same H H'):Lw H' p ao aq ah ad x os qs hs ds co cq ch cd:=h.move (.same s) (fun a xs _ g=>s _ _ g) fun a ha=>.inl ha
theorem Lw.add_o(h:Lw H p ao aq ah ad x os qs hs ds co cq ch cd)(b:But ao H H')(g:H' ao=some (.lst (os++[r])))(hr:Rw5 H' r c):Lw H' p ao aq ah ad x (os++[r]) qs hs ds (co++[c]) cq ch cd:=by
 have sm:SmH H H':=fun a xs e=>(b _ (fun z=>by rw[z,h.go]at e;cases e)).trans e;have l4:∀a xs,a∉ao::aq::ah::ad::x.ft p->H a=some (.lst xs)->H' a=some (.lst xs):=fun a xs n e=>(b _ (fun z=>n (by simp[z]))).trans e;exact⟨h.no,h.nq,h.nh,h.nd,h.e1,h.e2,h.e3,h.e4,h.e5,h.e6,g,(b _ h.e1.symm).trans h.gq,(b _ h.e2.symm).trans h.gh,(b _ h.e3.symm).trans h.gd,cj (Paired.mapP h.po fun _ _ z=>z.up sm) (.cons hr .nil),(Paired.mapP h.pq fun _ _ z=>z.up sm),(Paired.mapP h.ph fun _ _ z=>z.keep sm l4 fun a ha=>.inl ha),(Paired.mapP h.pd fun _ _ z=>z.keep sm l4 fun a ha=>.inl ha)⟩
theorem Lw.add_q(h:Lw H p ao aq ah ad x os qs hs ds co cq ch cd)(b:But aq H H')(g:H' aq=some (.lst (qs++[r])))(hr:Rw5 H' r c):Lw H' p ao aq ah ad x os (qs++[r]) hs ds co (cq++[c]) ch cd:=by
 have sm:SmH H H':=fun a xs e=>(b _ (fun z=>by rw[z,h.gq]at e;cases e)).trans e;have l4:∀a xs,a∉ao::aq::ah::ad::x.ft p->H a=some (.lst xs)->H' a=some (.lst xs):=fun a xs n e=>(b _ (fun z=>n (by simp[z]))).trans e;exact⟨h.no,h.nq,h.nh,h.nd,h.e1,h.e2,h.e3,h.e4,h.e5,h.e6,(b _ h.e1).trans h.go,g,(b _ h.e4.symm).trans h.gh,(b _ h.e5.symm).trans h.gd,(Paired.mapP h.po fun _ _ z=>z.up sm),cj (Paired.mapP h.pq fun _ _ z=>z.up sm) (.cons hr .nil),(Paired.mapP h.ph fun _ _ z=>z.keep sm l4 fun a ha=>.inl ha),(Paired.mapP h.pd fun _ _ z=>z.keep sm l4 fun a ha=>.inl ha)⟩
theorem Lw.add_h(h:Lw H p ao aq ah ad x os qs hs ds co cq ch cd)(b:But ah H H')(g:H' ah=some (.lst (hs++[r])))(hr:HldA H' (ao::aq::ah::ad::x.ft p) r c):Lw H' p ao aq ah ad x os qs (hs++[r]) ds co cq (ch++[c]) cd:=by
 have sm:SmH H H':=fun a xs e=>(b _ (fun z=>by rw[z,h.gh]at e;cases e)).trans e;have l4:∀a xs,a∉ao::aq::ah::ad::x.ft p->H a=some (.lst xs)->H' a=some (.lst xs):=fun a xs n e=>(b _ (fun z=>n (by simp[z]))).trans e;exact⟨h.no,h.nq,h.nh,h.nd,h.e1,h.e2,h.e3,h.e4,h.e5,h.e6,(b _ h.e2).trans h.go,(b _ h.e4).trans h.gq,g,(b _ h.e6.symm).trans h.gd,(Paired.mapP h.po fun _ _ z=>z.up sm),(Paired.mapP h.pq fun _ _ z=>z.up sm),cj (Paired.mapP h.ph fun _ _ z=>z.keep sm l4 fun a ha=>.inl ha) (.cons hr .nil),(Paired.mapP h.pd fun _ _ z=>z.keep sm l4 fun a ha=>.inl ha)⟩
theorem Lw.add_d(h:Lw H p ao aq ah ad x os qs hs ds co cq ch cd)(b:But ad H H')(g:H' ad=some (.lst (ds++[r])))(hr:HldA H' (ao::aq::ah::ad::x.ft p) r c):Lw H' p ao aq ah ad x os qs hs (ds++[r]) co cq ch (cd++[c]):=by
 have sm:SmH H H':=fun a xs e=>(b _ (fun z=>by rw[z,h.gd]at e;cases e)).trans e;have l4:∀a xs,a∉ao::aq::ah::ad::x.ft p->H a=some (.lst xs)->H' a=some (.lst xs):=fun a xs n e=>(b _ (fun z=>n (by simp[z]))).trans e;exact⟨h.no,h.nq,h.nh,h.nd,h.e1,h.e2,h.e3,h.e4,h.e5,h.e6,(b _ h.e3).trans h.go,(b _ h.e5).trans h.gq,(b _ h.e6).trans h.gh,g,(Paired.mapP h.po fun _ _ z=>z.up sm),(Paired.mapP h.pq fun _ _ z=>z.up sm),(Paired.mapP h.ph fun _ _ z=>z.keep sm l4 fun a ha=>.inl ha),cj (Paired.mapP h.pd fun _ _ z=>z.keep sm l4 fun a ha=>.inl ha) (.cons hr .nil)⟩
end
def hdD(c:Cll):Rp:=.list [.tuple [tlD c,.str (Why c)]]
theorem Hk{H:Hp}:∀{xs:List V} {cs:List (Int×Int)},Prs H xs cs->Pzs H 1 xs (cs.map prD)
 |_,_,.nil=>.nil
 |_,_,.cons ⟨a,e,h⟩ t=>.cons (by rw[e];exact .tup h (QK rfl) (.cons (.int _) (.cons (.int _) .nil))) (Hk t)
theorem MG(h:TldA H v c)(l:c.cs.length<=10)(k:c.kd="own"∨c.kd="heard"∨c.kd="one"):Pz H 3 v (tlD c):=by
 obtain⟨a,t,xs,rfl,e2,e3,e4⟩:=h;have lx:xs.length=c.cs.length:=Qk e4;have ek:(PyData.str c.kd).canLay0=true:=by
  rcases k with h|h|h<;>rw[h]<;>decide +kernel
 exact .tup e2 (QK rfl) (.cons (.int _) (.cons (.int _) (.cons (.int _) (.cons (.str _ ek) (.cons (.int _) (.cons (.tup e3 (by omega) (Hk e4)) .nil))))))
theorem Ku(c:Cll):(PyData.str (Why c)).canLay0=true:=by
 unfold Why;split<;>decide +kernel
theorem MO(h:HldA H F v c)(l:c.cs.length<=10)(k:c.kd="own"∨c.kd="heard"∨c.kd="one"):Pz H 5 v (hdD c):=by
 obtain⟨l',y,rfl,_,g,a,tt,rfl,ga,tl⟩:=h;exact .lst g (QK rfl) (.cons (.tup ga (QK rfl) (.cons (MG tl l k) (.cons (.str _ (Ku c)) .nil))) .nil)
theorem yr{H:Hp}{F:List dk}:∀{vs:List V} {cs:List Cll},Paired (HldA H F) vs cs->(∀c∈cs,c.cs.length<=10/\(c.kd="own"∨c.kd="heard"∨c.kd="one"))->Pzs H 5 vs (cs.map hdD)
 |_,_,.nil,_=>.nil
 |_,_,.cons h t,w=>.cons (MO h (w _ xl).1 (w _ xl).2) (yr t fun c hc=>w c (xj _ hc))
def r5D(c:Cll):Rp:=.tuple [.int c.n,.int c.c,.int c.k,.str c.kd,.int c.w]
theorem ua{H:Hp}:∀{vs:List V} {cs:List Cll},Paired (Rw5 H) vs cs->(∀c∈cs,c.kd="own"∨c.kd="heard"∨c.kd="one")->Pzs H 1 vs (cs.map r5D)
 |_,_,.nil,_=>.nil
 |_,_,@Paired.cons _ _ _ _ c _ _ ⟨a,e,h⟩ t,w=>.cons (by
   have ek:(PyData.str c.kd).canLay0=true:=by
    rcases w c xl with h|h|h<;>rw[h]<;>decide +kernel
   rw[e];exact .tup h (QK rfl) (.cons (.int _) (.cons (.int _) (.cons (.int _) (.cons (.str _ ek) (.cons (.int _) .nil)))))) (ua t fun c hc=>w c (xj _ hc))
def OR(p:Nm):Rp:=.tuple [.int p.1,.int p.2.1,.int p.2.2]
theorem Bc{H:Hp}:∀{vs:List V} {ns:List Nm},Nms H vs ns->Pzs H 1 vs (ns.map OR)
 |_,_,.nil=>.nil
 |_,_,.cons ⟨a,e,h⟩ t=>.cons (by rw[e];exact .tup h (QK rfl) (.cons (.int _) (.cons (.int _) (.cons (.int _) .nil)))) (Bc t)
mutual
theorem Pz.up{H:Hp}:∀{n:Nat} {x:V} {d:Rp},Pz H n x d->Pz H (n+ 1) x d
 |_,_,_,.int i=>.int i
 |_,_,_,.str i h=>.str i h
 |_,_,_,.tup e l h=>.tup e l (Pzs.up h)
 |_,_,_,.lst e l h=>.lst e l (Pzs.up h)
theorem Pzs.up{H:Hp}:∀{n:Nat} {xs:List V} {ds:List Rp},Pzs H n xs ds->Pzs H (n+ 1) xs ds
 |_,_,_,.nil=>.nil
 |_,_,_,.cons h t=>.cons (Pz.up h) (Pzs.up t)
end
abbrev wU:QB:=top 50
theorem LF(h0:0<=me)(h1:me<63):0<=1*(2:Int)^me.toNat/\1*(2:Int)^me.toNat<9223372036854775808/\GB.hl (1*(2:Int)^me.toNat)=[me]:=by
 have c:Hs [me]:=⟨List.pairwise_singleton _ _,fun x hx=>by rw[tw.mp hx];exact⟨h0,h1⟩⟩;have:=c.set;simp only[Qd,Tw,T8,WN,Int.add_zero]at this;exact this
theorem Mn{ha:Int}(h:GB.hl ha=[me]):Al me nu ro (Pg.new me nu ha ro) []:=by
 refine⟨rfl,rfl,h,rfl,rfl,rfl,rfl,fun i c e=>by simp at e,rfl,rfl,⟨[],?_,rfl⟩,⟨[],?_,rfl⟩⟩
 ·show(GB.hl ha).map _=_;rw[h];rfl
 ·show(GB.hl ha).map _=_;rw[h];rfl
theorem uL(b:But l H H')(g:H l=some (.lst xs)):SmH H H':=fun a ys e=>(b _ (fun z=>by rw[z,g]at e;cases e)).trans e
theorem uf(P:PgA K mg H p S x)(b:But l H H')(g:H l=some (.lst xs))(n:l∉x.ft p):PgA K mg H' p S x:=by
 have o:Off [l] H H':=fun c u e m=>(b _ (fun z=>m (by simp[z]))).trans e;exact P.off o (o.kpf1 g trivial) fun c hc z=>n (by rw[←tw.mp z];exact hc)
theorem Lw.out{ad:dk}{os hs:List V}(h:Lw H p ao aq ah ad x os qs hs ds co cq ch cd)(P:PgA K mg H p S x){c:dk}(n:H c=none):c∉ao::aq::ah::ad::x.ft p:=fun z=>by
 simp only[uc]at z;rcases z with z|z|z|z|z
 ·rw[z,h.go]at n;cases n
 ·rw[z,h.gq]at n;cases n
 ·rw[z,h.gh]at n;cases n
 ·rw[z,h.gd]at n;cases n
 ·obtain⟨o,e,_⟩:=P.fto c z;rw[e]at n;cases n
theorem NM(h:Al me nu ro S cs)(hl:cs.length<=30):PgOk S 59:=by
 obtain⟨d,et,_⟩:=h.ta;have lo:S.od.length<=cs.length:=by
  rw[h.od,gm];exact Qf _ _
 have lt:S.tk.length=cs.length:=by rw[←h.tk,gm]
 refine⟨by rw[et];exact List.cons_ne_nil _ _,by rw[et];exact QK rfl,by rw[h.kp];exact Qt _,by omega,by omega,by rw[h.hl,h.em];exact TV _,?_,by rw[h.ma];omega,?_⟩
 ·rw[h.kp];exact fun q hq=>nomatch hq
 ·rw[h.kp];exact fun q hq=>nomatch hq
theorem M6(h:Al me nu ro S cs)(f:Flr S.ta j):S.ma-ct j S.me=0:=by
 obtain⟨d,et,ed⟩:=h.ta;obtain⟨_,mn⟩:=f;rw[et]at mn;obtain⟨⟨x,hx,ex⟩,_⟩:=mn me;rw[tw.mp hx]at ex;have ex:ct d me=ct j me:=ex;rw[h.em,h.ma];omega
def czs(kd:pe)(me:Int)(i:Nat):List (Int×Int):=if kd="own"∨i=0 then[]else[(me,(i:Int))]
theorem MZ{w:Int}(h:Al me nu ro S cs)(n:NwC S kd w c):c=⟨kd,nu,me,(cs.length:Int)+ 1,w,czs kd me cs.length⟩:=by
 obtain⟨hs,pm,_,rfl⟩:=n;rw[h.en,h.em,h.ma];congr 1;unfold czs;by_cases o:kd="own"
 ·rw[if_pos o,if_pos (.inl o)]
 ·rw[if_neg o];by_cases z:cs.length=0
  ·rw[if_pos (.inr z)];rw[h.dn,z]at pm;have:hs=[]:=Yr.mp pm;rw[this];rfl
  ·rw[if_neg (by rintro(q|q);exact o q;exact z q)];have ed:S.dn=[(me,(cs.length:Int))]:=by rw[h.dn];unfold dn1;rw[if_neg z]
   rw[ed]at pm⊢;have:hs=[me]:=WB.mp pm;rw[this];unfold PKm;have c1:ct [(me,(cs.length:Int))] me=cs.length:=by rw[Bl,if_pos rfl]
   rw[SR]
   ·rw[List.filter_nil,WV,c1]
   ·rw[c1];exact decide_eq_true (by omega)
theorem Of{w:Int}(h:Al me nu ro S cs)(hm:0<=me/\me<63):frb S.dn ⟨kd,nu,me,(cs.length:Int)+ 1,w,czs kd me cs.length⟩=true:=by
 unfold frb;have e1:ct S.dn me=(cs.length:Int)+ 1-1:=by rw[h.dn,xG,if_pos rfl];omega
 refine Uw.mpr ⟨decide_eq_true e1,?_⟩;by_cases o:kd="own"
 ·exact WC.mpr (.inl (decide_eq_true o))
 ·refine WC.mpr (.inr ?_);unfold cov;refine Vq.mpr fun k _=>decide_eq_true ?_;show ct (dJ (czs kd me cs.length)) k<=ct S.dn k;rw[h.dn,xG];unfold czs;by_cases z:cs.length=0
  ·rw[if_pos (.inr z),z];show(0:Int)<=_;split<;>decide
  ·rw[if_neg (by rintro(q|q);exact o q;exact z q)];have:dJ [(me,(cs.length:Int))]=[(me,(cs.length:Int))]:=by
    unfold dJ;rw[SR]
    ·rfl
    ·exact decide_eq_true (by show(0:Int)<cs.length;omega)
   rw[this,Bl];exact R6 _
theorem Ly{K:cw}(h:H a=some (.tup [x1,x2,x3,x4,x5]))(q:∀p H',H p=none->Same H H'->H' p=some (.tup [x1,x2,x3])->Q (.ref p) H'):JO K (.ref a) none (some 3) H Q:=
 ⟨a,_,rfl,SqT.of h,by show ¬ (HT.sIx 5 0 none=0/\HT.sIx 5 5 (some 3)=5);decide,fun p hp=>q p _ hp (aB hp) af⟩
def dM(c:Cll):Bool:=decide (c.kd="one")
theorem wX{α:Type}(f:α->Bool):∀l:List α,(l.filter f).length+ (l.filter fun a=>!f a).length=l.length
 |[]=>rfl
 |a::l=>by
  have:=wX f l;cases h:f a<;>simp[h]<;>omega
theorem Ki(kd:pe)(me:Int)(i:Nat):(czs kd me i).length<=10:=by
 unfold czs;split
 ·exact Qt _
 ·show 1<=10;decide
def xF(K:cw):Sp:=fun vs H Q _=>∃(a:dk) (ns:List Int),vs=[.ref a]/\SqL K H a (ns.map V.int)/\ns.length<=63/\∀H',Q (.bl true) H'
theorem sc_law:FnScope ["_law_script","_law_me","_law_number","_law_page","_law_ones","_law_others","_law_held","_law_dues","_law_cell","_law_kind","_law_count","_law_causes","_law_due","_law_counts","_law_rows"] ["_law_script"] (aw wU):=fsc
variable{j4:dk}{p0:dk}{p6:dk}{qy:dk}{nX:dk}{sf:dk}{rR:dk}{mD:dk}{rD:dk}{jq:xw}{nr:xw}{og:xw}{nY:xw}{mK:xw}{qp:xw}{pK:xw}{kC:xw}{pH:xw}(kj:FnOk P w K mg base CX0 8 j4 jq yy (ji K mg))(jY:Binds K jq yy [])(oZ:FnOk P w K mg base (CXR P w) 9 p0 nr zk (nU K mg))(p8:Binds K nr zk [])(bW:FnOk P w K mg base CX0 9 p6 og pW (nN K))(bU:Cal K mg "_law_alike" p6 og pW)(jU:FnOk P w K mg base CX0 9 qy nY aJ (nD K mg))(jJ:Binds K nY aJ [])(jf:FnOk P w K mg base CX0 9 nX mK aJ (kN K mg))(jh:Binds K mK aJ [])(rZ:FnOk P w K mg base CX0 9 sf qp aJ (pJ K mg))(rG:Binds K qp aJ [])(lQ:FnOk P w K mg base CX0 9 rR pK aJ (oX K mg))(lZ:Binds K pK aJ [])(eE:FnOk P w K mg base CX0 9 mD kC y7 (j5 K))(eN:Cal K mg "_law_cell_at" mD kC y7)(rM:FnOk P w K mg base CX0 9 rD pH zM (pf K))(rQ:Cal K mg "_law_word" rD pH zM)(x8:Mk K bA j4)(fZ:Meth K bA "kept" sf)(dA:Meth K bA "places" nX)(eQ:Meth K bA "rows" rR)(dR:Meth K bA "taken" qy)(fB:Meth K bA "utter" p0)
include eV kj jY oZ p8 bW bU jU jJ jf jh rZ rG lQ lZ eE eN rM rQ fR aU d5 cM rH au aV az ay a8 av aZ aA aC a9 x8 fZ dA eQ dR fB in
theorem Mm(F:Fun K "law" "law" wU f fd):FnOk P w K mg base CX0 10 f fd ["_law_script"] (xF K):=by
 refine F.oj sc_law ?_;rintro _ A _ s H _ _ _ hr _ _ hu ⟨a,ns,rfl,h⟩;refine⟨_,(ak (aY (i:=1) sc_law.nd rfl (Ql rfl) (bH vi (aT eE eN hr (aa (pv 0) (aa aM ae))) aM))
   (ak (aY (i:=2) sc_law.nd rfl (Ql rfl) (bH vi (aT eE eN hr (aa (pv 0) (aa aM ae))) (bH jD (bH yg aM aM) aM)))
   (ak (aY (i:=3) sc_law.nd rfl (Ql rfl) (mR x8 kj hr rfl a9 jY .nil nZ (aa (pv 1) (aa (pv 2) (aa (bH Hh aM (pv 1)) (aa (bH jD aM (bH vi (aT eE eN hr (aa (pv 0) (aa aM ae))) aM)) ae))))))
   (ak (aY (i:=4) sc_law.nd rfl (Ql rfl) (dN ae))
   (ak (aY (i:=5) sc_law.nd rfl (Ql rfl) (dN ae))
   (ak (aY (i:=6) sc_law.nd rfl (Ql rfl) (dN ae))
   (ak (aY (i:=7) sc_law.nd rfl (Ql rfl) (dN ae))
   (ak (vp Sh rfl (bx (K:=K) rfl (hU (uM (K:=K) rfl) (pv 0) (iK aM) (iK aM))) (bg (i:=8) sc_law.nd rfl (Ql rfl))
   (ak (aY (i:=9) sc_law.nd rfl (Ql rfl) (fX (zX (K:=K) rfl) (dN (aa eu (aa eu (aa eu ae)))) (bH vi (pv 8) aM) (fun _ _=>rfl)))
   (ak (aY (i:=10) sc_law.nd rfl (Ql rfl) (bH jD (bH jD (aQ (dD (K:=K) rfl) (by rfl) d5 RG (aa (pv 4) ae)) (aQ (dD (K:=K) rfl) (by rfl) d5 RG (aa (pv 5) ae))) aM))
   (ak (aY (i:=11) sc_law.nd rfl (Ql rfl) (cg ae))
   (ak (d7 (PW.pt (xJ (bD AA (pv 9) eu (bw _)) (tf (bD IC (pv 10) aM (bw _))))) (ax (aY (i:=11) sc_law.nd rfl (Ql rfl) (cg (aa (cg (aa (pv 1) (aa (bH vn (pv 10) aM) ae))) ae)))) bS)
   (ak (aY (i:=12) sc_law.nd rfl (Ql rfl) (cg (aa (pv 2) (aa (pv 1) (aa (pv 10) (aa (pv 9) (aa (aT rM rQ hr (aa (bH Je (pv 8) aM) ae)) (aa (pv 11) ae))))))))
   (ak (d7 (bD wN (pv 9) eu (bw _)) (ak (cH (dw (K:=K) rfl (pU QY Q6 Rj dH (pv 4) (aa (hU (sY (K:=K) rfl) (pv 12) mU (iK aM)) ae))))
   (ax (cH (dw (K:=K) rfl (pU QY Q6 Rj dH (pv 7) (aa (dN (aa (cg (aa (pv 12) (aa eu ae))) ae)) ae)))))) (ak (cH (dw (K:=K) rfl (pU QY Q6 Rj dH (pv 5) (aa (hU (sY (K:=K) rfl) (pv 12) mU (iK aM)) ae))))
   (ax (cH (dw (K:=K) rfl (pU QY Q6 Rj dH (pv 7) (aa (dN (aa (cg (aa (pv 12) (aa eu ae))) ae)) ae)))))))
   (ak (cH (dw (K:=K) rfl (pU QY Q6 Rj dH (pv 6) (aa (JH (pv 3) a8.cl fB oZ hr p8 .nil My (aa (pv 9) (aa (fX (dX (K:=K) rfl) (pv 12) aM (fun _ _=>rfl)) ae))) ae))))
   (ak (aY (i:=13) sc_law.nd rfl (Ql rfl) (aX (MOk.cons a8.cl dR jU jJ MOk.nil) (pv 3) hr))
   (ak (d7 (PW.pt (zI (jR (br K rfl (aQ (bZ (K:=K) rfl) (by rfl) aU Qv (aa (pv 13) (aa (dE fR RY) ae))))) (vy (jR (br K rfl (aT bW bU hr (aa (bF (Bd rfl) (by rfl) cM Q5 (aa (va Ry S1 Vy EV (pv 13)) ae)) (aa (dN (aa (cg (aa (pv 1) (aa (pv 10) ae))) ae)) ae)))))))) (ax (aL rN)) bS)
   (ak (d7 (PW.pt (zI (jR (br K rfl (aT bW bU hr (aa (aX (MOk.cons a8.cl fZ rZ rG MOk.nil) (pv 3) hr) (aa (dN ae) ae))))) (vy (jR (br K rfl (aT bW bU hr (aa (aX (MOk.cons a8.cl dA jf jh MOk.nil) (pv 3) hr) (aa (bV ["_law_row"] [none] rfl rfl (by kernel_rfl) (bx (K:=K) rfl (pv 4)) (fun _ _ _ _ _ nd=>bg (i:=0) nd rfl (Ql rfl)) (fun _ _ _ _ _=>eJ) (fun _ _ _ _ _=>(hU (sY (K:=K) rfl) (pv 0) mU (iK aM)))) ae)))))))) (ax (aL rN)) bS)
   (ak (cH (dw (K:=K) rfl (pU QY Q6 Rj dH (aX (MOk.cons a8.cl dA jf jh MOk.nil) (pv 3) hr) (aa (cg (aa (pv 2) (aa (pv 1) (aa aM ae)))) ae))))
   (ax (qt hu (pv 13) (pv 1) aM rfl))))))))))))))
   (ak (aY (i:=14) sc_law.nd rfl (Ql rfl) (aX (MOk.cons a8.cl eQ lQ lZ MOk.nil) (pv 3) hr))
   (ak (d7 (PW.pt (zI (jR (br K rfl (aT bW bU hr (aa (pv 6) (aa (pv 7) ae))))) (vy (jR (br K rfl (aT bW bU hr (aa (pv 14) (aa (bH q8 (pv 4) (pv 5)) ae)))))))) (ax (aL rN)) bS)
   (ak (cH (va QY VA PySem.F.type_list_clear EC (pv 14)))
   (ax (aL (oR (aT bW bU hr (aa (aX (MOk.cons a8.cl eQ lQ lZ MOk.nil) (pv 3) hr) (aa (bH q8 (pv 4) (pv 5)) ae))) (lN (gN wN (aQ uQ (by rfl) d5 RG (aa (aX (MOk.cons a8.cl dR jU jJ MOk.nil) (pv 3) hr) ae)) (aQ (Fl rfl) (by rfl) rH S5 (aa aM (aa (aQ (dD (K:=K) rfl) (by rfl) d5 RG (aa (pv 7) ae)) ae))) (bw _))))))))))))))))),?_⟩
 obtain⟨hS,ln,kk⟩:=h;clean_wf;refine⟨a,0,rfl,ns,hS,by decide,fun c0=>?_⟩;have me0:=VJ c0 (show(63:Int)≠0 by decide);have me1:=WW c0 (show(0:Int)<63 by decide);have p18:Gz 10 18:=⟨by decide,by decide,by decide⟩;have p18d:(0:Int)<10^(18:Int).toNat+ 1:=by decide
 clean_wf;refine⟨a,1,rfl,ns,hS,by decide,fun c1=>?_⟩;clean_wf;generalize em:c0%63=me at me0 me1⊢;generalize c1%(10^WO 18+ 1)=nu;have pm:Gz 1 me:=⟨me0,by omega,by decide⟩;obtain⟨b0,b1,bh⟩:=LF me0 me1;generalize eh:1*(2:Int)^me.toNat=ha at b0 b1 bh;clean_wf;refine⟨a,2,rfl,ns,hS,by decide,fun c2=>?_⟩;clean_wf;rw[eh];generalize er:1+ c2%60=ro;have ro0:0<ro:=by
  have:=VJ c2 (show(60:Int)≠0 by decide);omega
 intro p dx H1 hp s1 g1;refine⟨p,me,nu,ha,ro,rfl,bA,dx,a9,a8,g1,b0,b1,me0,me1,fun H2 x0 k2 PA0 ft0=>⟨rfl,?_⟩⟩;have sH2:Same H H2:=fun b o e=>k2 b o (s1 _ _ e) (ai e hp);have A0:=Mn (nu:=nu) (ro:=ro) bh;have out:∀{B:Hp} {c:dk},Same H2 B->B c=none->c∉x0.ft p:=fun{B c} s n z=>by
  obtain⟨o,e,_⟩:=PA0.fto c z;rw[s _ _ e]at n;cases n
 clean_wf;intro ao H3 hao s3 g3;clean_wf;intro aq H4 haq s4 g4;clean_wf;intro ah H5 hah s5 g5;clean_wf;intro ad H6 had s6 g6;clean_wf;have sH6:Same H H6:=(((sH2.trans s3).trans s4).trans s5).trans s6;refine Lr (sH6.seq hS) fun sl H7 hsl s7 g7=>?_;generalize eX:su (ns.map V.int) (some 3) (some 33)=XS at g7;have hX:∀(i:Nat) (v:V),XS[i]?=some v->∃c:Int,v=.int c:=fun i v hv=>by
  have:=QA hv;rw[←eX]at this;unfold su at this;obtain⟨c,_,e⟩:=QE.mp (List.mem_of_mem_drop (Wk this));exact⟨c,e.symm⟩
 have lX:XS.length<=30:=by
  rw[←eX];unfold su;rw[Q9];have e1:HT.sIx (ns.map V.int).length (ns.map V.int).length (some 33)=min 33 (ns.map V.int).length:=rfl;have e2:HT.sIx (ns.map V.int).length 0 (some 3)=min 3 (ns.map V.int).length:=rfl;rw[e1,e2];omega
 refine⟨sl,rfl,⟨_,SqL.of g7⟩,?_⟩;have t67:=s7;have t57:=s6.trans s7;have t47:=s5.trans t57;have t37:=s4.trans t47;have t27:=s3.trans t37;have L0:Lw H7 p ao aq ah ad x0 [] [] [] [] [] [] [] []:=
  ⟨out (.refl _) hao,out s3 haq,out (s3.trans s4) hah,out ((s3.trans s4).trans s5) had,ai g3 haq,ai (s4 _ _ g3) hah,ai ((s4.trans s5) _ _ g3) had,ai g4 hah,ai (s5 _ _ g4) had,ai g5 had,t37 _ _ g3,t47 _ _ g4,t57 _ _ g5,s7 _ _ g6,.nil,.nil,.nil,.nil⟩
 have nsl0:sl∉ao::aq::ah::ad::x0.ft p:=fun z=>by
  simp only[uc]at z;rcases z with z|z|z|z|z
  ·exact absurd z (ai (((s4.trans s5).trans s6) _ _ g3) hsl).symm
  ·exact absurd z (ai ((s5.trans s6) _ _ g4) hsl).symm
  ·exact absurd z (ai (s6 _ _ g5) hsl).symm
  ·exact absurd z (ai g6 hsl).symm
  ·exact out (((s3.trans s4).trans s5).trans s6) hsl z
 refine lU (K:=K) (xs:=XS) (fun i σ A=>∃v8 v9 v10 v11 v12 v13 S x os qs hs ds cs,σ=[some (.ref a),some (.int me),some (.int nu),some (.ref p),some (.ref ao),some (.ref aq),some (.ref ah),some (.ref ad),v8,v9,v10,v11,v12,v13,none]/\PgA K mg A p S x/\Al me nu ro S cs/\cs.length=i/\(∀c∈cs,c.cs.length<=10/\(c.kd="own"∨c.kd="heard"∨c.kd="one"))/\Lw A p ao aq ah ad x os qs hs ds (cs.filter dM) (cs.filter fun c=>!dM c) cs cs/\A sl=some (.lst XS)/\sl∉ao::aq::ah::ad::x.ft p)
  ⟨none,none,none,none,none,none,_,x0,[],[],[],[],[],rfl,PA0.same t27,A0,rfl,(fun c hc=>nomatch hc),L0,g7,nsl0⟩ (fun i σ A _ z=>?_) ?_ ?_
 ·obtain⟨_,_,_,_,_,_,_,_,_,_,_,_,_,_,_,_,_,_,_,g,_⟩:=z;exact SqL.of g
 ·rintro i v σ A hv ⟨v8,v9,v10,v11,v12,v13,S,x,os,qs,hs,ds,cs,rfl,PA,al,lc,wf,L,gsl,nsl⟩;obtain⟨cell,rfl⟩:=hX i v hv;have hi:=(pk.mp hv).1;obtain⟨kd,hat,hkd⟩:∃kd:pe,atI [V.str "own",V.str "heard",V.str "one"] (cell%3)=some (.str kd)/\(kd="own"∨kd="heard"∨kd="one"):=by
   have:cell%3=0∨cell%3=1∨cell%3=2:=by omega
   rcases this with e|e|e<;>rw[e]
   ·exact⟨_,eD (j:=0) rfl,.inl rfl⟩
   ·exact⟨_,eD (j:=1) rfl,.inr (.inl rfl)⟩
   ·exact⟨_,eD (j:=2) rfl,.inr (.inr rfl)⟩
  clean_wf;intro kl A1 hkl sk gk;have skl:SqL K A1 kl [V.str "own",V.str "heard",V.str "one"]:=SqL.of gk;have L1:=L.same sk;have so:SqL K A1 ao os:=SqL.of L1.go;have sq:SqL K A1 aq qs:=SqL.of L1.gq;have ec:(os.length:Int)+ (qs.length:Int)+ 1=(i:Int)+ 1:=by
   have h1:os.length=(cs.filter dM).length:=Qk L.po;have h2:qs.length=(cs.filter fun c=>!dM c).length:=Qk L.pq;have:=wX dM cs;omega
  clean_wf;rw[ec];intro t0 A2 ht0 st0 gt0;have s02:=sk.trans st0;refine Dc (fun σ B=>∃tc xc,σ=[some (.ref a),some (.int me),some (.int nu),some (.ref p),some (.ref ao),some (.ref aq),some (.ref ah),some (.ref ad),some (.int cell),some (.str kd),some (.int ((i:Int)+ 1)),some (.ref tc),v12,v13,none]/\Same A B/\B tc=some (.tup xc)/\Prs B xc (czs kd me i)) ?_ fun N rest=>?_
  rotate_left
  ·clean_wf;refine dO (fun z=>?_) fun z=>?_
   ·have z:¬ kd="own":=fun q=>by rw[q]at z;exact absurd z (by decide)
    clean_wf;refine dO (fun y=>?_) fun y=>?_
    ·have y:(1:Int)<(i:Int)+ 1:=of_decide_eq_true y;have ei:(i:Int)+ 1-1=i:=by omega
     clean_wf;rw[ei];intro u B1 hu1 sb1 gu;clean_wf;intro tc B2 htc sb2 gtc;refine rest _ _ ⟨tc,_,rfl,s02.trans (sb1.trans sb2),gtc,?_⟩;unfold czs;rw[if_neg (by rintro(w|w);exact z w;omega)];exact .cons ⟨u,rfl,sb2 _ _ gu⟩ .nil
    ·have y:¬ (1:Int)<(i:Int)+ 1:=fun w=>y (decide_eq_true w);refine rest _ _ ⟨t0,_,rfl,s02,gt0,?_⟩;unfold czs;rw[if_pos (.inr (by omega))];exact .nil
   ·have z:kd="own":=by
     by_cases q:kd="own"
     ·exact q
     ·exact absurd (by rw[decide_eq_false q];rfl) z
    refine rest _ _ ⟨t0,_,rfl,s02,gt0,?_⟩;unfold czs;rw[if_pos (.inl z)];exact .nil
  rintro σ B ⟨tc,xc,rfl,sB,gtc,prc⟩;have LB:=L.same sB;have PB:=PA.same sB;clean_wf;refine⟨_,rfl,fun wd hwd=>?_⟩;clean_wf;intro du B1 hdu s1 gdu;obtain⟨cc,ecc⟩:∃cc:Cll,cc=⟨kd,nu,me,(i:Int)+ 1,wd,czs kd me i⟩:=⟨_,rfl⟩;have L1:=LB.same s1;have P1:=PB.same s1;have gsl1:B1 sl=some (.lst XS):=s1 _ _ (sB _ _ gsl);have tl1:TldA B1 (.ref du) cc:=by
   rw[ecc];exact⟨du,tc,xc,rfl,gdu,s1 _ _ gtc,prc.mono (SmH.same s1)⟩
  have ek:cc.kd=kd:=by rw[ecc]
  refine Dc (fun σ B=>∃os' qs' ds',σ=[some (.ref a),some (.int me),some (.int nu),some (.ref p),some (.ref ao),some (.ref aq),some (.ref ah),some (.ref ad),some (.int cell),some (.str kd),some (.int ((i:Int)+ 1)),some (.ref tc),some (.ref du),v13,none]/\PgA K mg B p S x/\Lw B p ao aq ah ad x os' qs' hs ds' ((cs++[cc]).filter dM) ((cs++[cc]).filter fun c=>!dM c) cs (cs++[cc])/\B sl=some (.lst XS)/\TldA B (.ref du) cc) ?_ fun N rest=>?_
  rotate_left
  ·clean_wf;refine dO (fun z=>?_) fun z=>?_
   ·have z:kd="one":=of_decide_eq_true z;have g1:=L1.go;have gd1:=L1.gd;have lo:=Qk L1.po;have lof:=Qf dM cs;have log:=Qf (fun c=>!dM c) cs;have lds:=Qk L1.pd;refine qq ?_;clean_wf;refine z0 gdu fun r B2 hr s2 gr=>?_;have L2:=L1.same s2;have g2:=L2.go;clean_wf;intro B3 b3 g3;have L3:=L2.add_o b3 g3 (c:=cc) ⟨r,rfl,(b3 _ (fun w=>by rw[w,g2]at gr;cases gr)).trans (by rw[ecc];exact gr)⟩;have P2:=P1.same s2;have P3:=uf P2 b3 g2 L2.no;have gsl3:B3 sl=some (.lst XS):=(b3 _ (fun w=>nsl (by simp[w]))).trans (s2 _ _ gsl1);have tl3:=(tl1.up (SmH.same s2)).up (uL b3 g2);have gd3:=L3.gd;clean_wf;intro pt B4 hpt s4 gpt;clean_wf;intro pl B5 hpl s5 gpl;have s35:=s4.trans s5;have L5:=L3.same s35;have P5:=P3.same s35;have gd5:=L5.gd;have plF:=(L3.same s4).out (P3.same s4) hpl;clean_wf;intro B6 b6 g6;have sm6:=uL b6 gd5;have tl6:=(tl3.up (SmH.same s35)).up sm6;have L6:=L5.add_d b6 g6 (c:=cc) ⟨pl,.ref pt,rfl,plF,(b6 _ (fun w=>plF (by simp[w]))).trans gpl,pt,du,rfl,by rw[show Why (V.non,cc).2="sure"from if_pos (ek.trans z)];exact sm6 _ _ (s5 _ _ gpt),tl6⟩;have ho:dM cc=true:=decide_eq_true (ek.trans z);refine rest _ _ ⟨os++[.ref r],qs,ds++[.ref pl],rfl,uf P5 b6 gd5 L5.nd,?_,(b6 _ (fun w=>nsl (by simp[w]))).trans (s35 _ _ gsl3),tl6⟩;have f1:(cs++[cc]).filter dM=cs.filter dM++[cc]:=by simp[Qm,ho]
    have f2:((cs++[cc]).filter fun c=>!dM c)=(cs.filter fun c=>!dM c):=by simp[Qm,ho]
    rw[f1,f2];exact L6
   ·have z:¬ kd="one":=fun w=>z (decide_eq_true w);have g1:=L1.gq;have gd1:=L1.gd;have lo:=Qk L1.pq;have lof:=Qf dM cs;have log:=Qf (fun c=>!dM c) cs;have lds:=Qk L1.pd;refine qq ?_;clean_wf;refine z0 gdu fun r B2 hr s2 gr=>?_;have L2:=L1.same s2;have g2:=L2.gq;clean_wf;intro B3 b3 g3;have L3:=L2.add_q b3 g3 (c:=cc) ⟨r,rfl,(b3 _ (fun w=>by rw[w,g2]at gr;cases gr)).trans (by rw[ecc];exact gr)⟩;have P2:=P1.same s2;have P3:=uf P2 b3 g2 L2.nq;have gsl3:B3 sl=some (.lst XS):=(b3 _ (fun w=>nsl (by simp[w]))).trans (s2 _ _ gsl1);have tl3:=(tl1.up (SmH.same s2)).up (uL b3 g2);have gd3:=L3.gd;clean_wf;intro pt B4 hpt s4 gpt;clean_wf;intro pl B5 hpl s5 gpl;have s35:=s4.trans s5;have L5:=L3.same s35;have P5:=P3.same s35;have gd5:=L5.gd;have plF:=(L3.same s4).out (P3.same s4) hpl;clean_wf;intro B6 b6 g6;have sm6:=uL b6 gd5;have tl6:=(tl3.up (SmH.same s35)).up sm6;have L6:=L5.add_d b6 g6 (c:=cc) ⟨pl,.ref pt,rfl,plF,(b6 _ (fun w=>plF (by simp[w]))).trans gpl,pt,du,rfl,by rw[show Why (V.non,cc).2="ready"from if_neg fun w=>z (ek.symm.trans w)];exact sm6 _ _ (s5 _ _ gpt),tl6⟩;have ho:dM cc=false:=decide_eq_false fun w=>z (ek.symm.trans w);refine rest _ _ ⟨os,qs++[.ref r],ds++[.ref pl],rfl,uf P5 b6 gd5 L5.nd,?_,(b6 _ (fun w=>nsl (by simp[w]))).trans (s35 _ _ gsl3),tl6⟩;have f1:(cs++[cc]).filter dM=cs.filter dM:=by simp[Qm,ho]
    have f2:((cs++[cc]).filter fun c=>!dM c)=(cs.filter fun c=>!dM c)++[cc]:=by simp[Qm,ho]
    rw[f1,f2];exact L6
  rintro σ B2 ⟨os',qs',ds',rfl,P2,L2,gsl2,tl2⟩;have gh2:=L2.gh;have lh2:=Qk L2.ph;obtain⟨C',dx',mP,T',hpp⟩:=P2.ob;rw[a9]at mP;cases mP;obtain⟨du',tc',xc',edu,gdu2,_⟩:=id tl2;cases edu;have sdu:SqT K B2 du [.int cc.n,.int cc.c,.int cc.k,.str cc.kd,.int cc.w,.ref tc']:=SqT.of gdu2;have ew:cc.w=wd:=by rw[ecc]
  have ecc':cc=⟨kd,nu,me,(cs.length:Int)+ 1,wd,czs kd me cs.length⟩:=by rw[ecc,lc]
  clean_wf;refine C0 ?_;clean_wf;refine⟨p,_,_,rfl,hpp,by kernel_rfl,?_⟩;clean_wf;rw[ew];refine⟨p,kd,wd,rfl,S,x,P2,NM al (by omega),hkd,hwd,?_,fun B j ea Ce _ fl n=>absurd (by rw[M6 al fl,al.er];exact ro0) n⟩;intro B3 x' S' rw l ys v c j oB fr P3 ft fl _ nw st hl nl gl tv;obtain rfl:c=cc:=(MZ al nw).trans ecc'.symm;obtain⟨erw,al'⟩:=JS al (by rw[ecc']) (by rw[ecc']) (by rw[ecc']) (by rw[ecc'];exact Of al ⟨me0,me1⟩) st;subst erw;obtain⟨y,rfl,ty⟩:∃y,ys=[y]/\TkA B3 y (.non,c):=by
   cases tv with
   |cons h t=>cases t;exact⟨_,rfl,h⟩
  have sm3:SmH B2 B3:=(qo oB P2.fto).smh;have L3:=L2.move (x':=x') sm3 (fun b xs n e=>oB b _ e n) ft;have gh3:=L3.gh;have F2:=L2.out P2 hl;have lF:l∉ao::aq::ah::ad::x'.ft p:=fun z=>by
   simp only[uc]at z F2;rcases z with z|z|z|z|z
   ·exact F2 (.inl z)
   ·exact F2 (.inr (.inl z))
   ·exact F2 (.inr (.inr (.inl z)))
   ·exact F2 (.inr (.inr (.inr (.inl z))))
   ·exact nl z
  have gsl3:B3 sl=some (.lst XS):=oB _ _ gsl2 fun z=>nsl (by simp[z]);have nsl':sl∉ao::aq::ah::ad::x'.ft p:=fun z=>by
   simp only[uc]at z nsl;rcases z with z|z|z|z|z
   ·exact nsl (.inl z)
   ·exact nsl (.inr (.inl z))
   ·exact nsl (.inr (.inr (.inl z)))
   ·exact nsl (.inr (.inr (.inr (.inl z))))
   ·rcases ft sl z with w|w
    ·exact nsl (.inr (.inr (.inr (.inr w))))
    ·rw[w]at gsl2;cases gsl2
  clean_wf;intro B4 b4 g4;have sm4:=uL b4 gh3;have L4:=L3.add_h b4 g4 (c:=c) ⟨l,y,rfl,lF,(b4 _ (fun w=>lF (by simp[w]))).trans gl,ty.up sm4⟩;have P4:=uf P3 b4 gh3 L3.nh;have gsl4:B4 sl=some (.lst XS):=(b4 _ (fun w=>nsl' (by simp[w]))).trans gsl3;have lc':(cs++[c]).length=i+ 1:=by rw[xp,lc];rfl
  obtain⟨_,dx4,mP4,_,hp4⟩:=P4.ob;rw[a9]at mP4;cases mP4;clean_wf;refine⟨p,rfl,S',x',P4,fun B5 d s5 hd gd=>?_⟩;have edn:S'.dn=[(me,(i:Int)+ 1)]:=by
   rw[al'.dn,lc'];unfold dn1;rw[if_neg (by omega)];simp
  rw[edn]at gd;have gd:B5 d=some (.dK [(GV me,.int ((i:Int)+ 1))]):=gd;clean_wf;refine⟨_,_,_,true,rfl,.dK gd,(by kernel_rfl),?_⟩;clean_wf;refine⟨d,_,rfl,rfl,gd,fun v6 hv6=>?_⟩;have s6:Same B5 (upd B5 v6 (ViO v6 d)):=aB hv6;have gv6:upd B5 v6 (ViO v6 d) v6=some (ViO v6 d):=af;generalize upd B5 v6 (ViO v6 d)=B6 at s6 gv6⊢;clean_wf;refine⟨v6,d,_,_,rfl,gv6,.inl (s6 _ _ gd),fun l7 t7 hl7 ht7 ne7=>?_⟩;have s7:Same B6 (upd (upd B6 t7 (.tup [kV (GV me),.int ((i:Int)+ 1)])) l7 (.lst [.ref t7])):=(aB ht7).trans (aB (by rw[aj (QH ne7)];exact hl7));have gt7:upd (upd B6 t7 (.tup [kV (GV me),.int ((i:Int)+ 1)])) l7 (.lst [.ref t7]) t7=some (.tup [.int me,.int ((i:Int)+ 1)]):=by rw[aj ne7,af];rfl
  have gl7:upd (upd B6 t7 (.tup [kV (GV me),.int ((i:Int)+ 1)])) l7 (.lst [.ref t7]) l7=some (.lst [.ref t7]):=af;generalize upd (upd B6 t7 (.tup [kV (GV me),.int ((i:Int)+ 1)])) l7 (.lst [.ref t7])=B7 at s7 gt7 gl7⊢;clean_wf;intro t8 B8 ht8 s8 g8;clean_wf;intro l9 B9 hl9 s9 g9;have t79:=s8.trans s9;refine⟨.ref l7,.ref l9,rfl,.list [.tuple [.int me,.int ((i:Int)+ 1)]],.lst (t79 _ _ gl7) (QK rfl) (.cons (.tup (t79 _ _ gt7) (QK rfl) (.cons (.int _) (.cons (.int _) .nil))) .nil),.lst g9 (QK rfl) (.cons (.tup (s9 _ _ g8) (QK rfl) (.cons (.int _) (.cons (.int _) .nil))) .nil),fun BA sA=>?_⟩;have s4A:Same B4 BA:=s5.trans (s6.trans (s7.trans (t79.trans sA)));have hpA:=s4A _ _ hp4;clean_wf;refine⟨p,rfl,S',x',P4.same s4A,al'.kp,fun BB lB sB hlB gB=>?_⟩;clean_wf;intro lC BC hlC sC gC;refine⟨.ref lB,.ref lC,rfl,.list [],.lst (sC _ _ gB) (Qt _) .nil,.lst gC (Qt _) .nil,fun BD sD=>?_⟩;have s4D:Same B4 BD:=s4A.trans (sB.trans (sC.trans sD));have hpD:=s4D _ _ hp4;have lod:S'.od.length<=60:=by
   rw[al'.od,gm];have:=Qf (fun c:Cll=>decide (c.kd=("one":pe))) (cs++[c]);omega
  clean_wf;refine⟨p,rfl,S',x',P4.same s4D,lod,fun BE lE xE sE hlE gE nE=>?_⟩;have LE:=L4.same (s4D.trans sE);have goE:=LE.go;have poE:=LE.po;have leo:os'.length=((cs++[c]).filter dM).length:=Qk poE;have lfo:=Qf dM (cs++[c]);clean_wf;intro DF hDF;refine bz (K:=K) (a:=ao) (xs:=os') (fun j σ A=>∃v ys,σ=[v]/\Same BE A/\A DF=some (.lst ys)/\ys.length=j/\Nms A ys ((((cs++[c]).filter dM).take j).map nmc)) ⟨none,[],rfl,aB hDF,af,rfl,.nil⟩ ?_ ?_ ?_
  ·rintro j σ A _ ⟨_,_,_,z,_⟩;exact SqL.of (z _ _ goE)
  ·rintro j v σ A hv ⟨v0,ys,rfl,sA',gF,ly,ny⟩;obtain⟨cx,hcx,ar,rfl,gr⟩:=c8 poE hv;have hj:=(pk.mp hv).1;have grA:=sA' _ _ gr;clean_wf;refine Ly grA fun r A1 hr s1 gr1=>?_;have kt:SmH A1 (upd A1 DF (.lst (ys++[.ref r]))):=SmH.lst (s1 _ _ gF);refine⟨ys,s1 _ _ gF,aD (by omega),_,ys++[.ref r],rfl,fun b o z=>?_,af,by rw[xp,ly];rfl,?_⟩
   ·rw[aj (ai z hDF)];exact s1 _ _ (sA' b o z)
   ·rw[aP hcx,xt];exact cj ((ny.up (SmH.same s1)).up kt) (.cons ⟨r,rfl,kt _ _ gr1⟩ .nil)
  rintro σ A ⟨v0,ys,rfl,sF,gF,ly,ny⟩;rw[leo,Qq]at ny;have lyE:=nE.len;clean_wf;refine⟨.ref lE,.ref DF,rfl,.list (S'.od.map OR),.lst (sF _ _ gE) (by omega) (Bc (nE.up (SmH.same sF))).up.up.up.up,.lst gF (by omega) (by rw[al'.od];exact(Bc ny).up.up.up.up),fun BG sG=>?_⟩;have s4G:Same B4 BG:=s4D.trans (sE.trans (sF.trans sG));have hpG:=s4G _ _ hp4;have s5G:Same B5 BG:=s6.trans (s7.trans (t79.trans (sA.trans (sB.trans (sC.trans (sD.trans (sE.trans (sF.trans sG))))))));clean_wf;refine⟨p,rfl,S',x',P4.same s4G,lod,fun BH lH xH sH hlH gH nH=>?_⟩;have lxH:=nH.len;clean_wf;intro tI BI htI sI gI;have gHI:=sI _ _ gH;clean_wf;intro BJ bJ gJ;have sGJ:Same BG BJ:=bJ.same (sH.trans sI) hlH;have s4J:=s4G.trans sGJ;have gdJ:BJ d=some (.dK (dI [(me,(i:Int)+ 1)])):=sGJ _ _ (s5G _ _ gd);have tm:Td [(me,(i:Int)+ 1)]:=by rw[←edn];exact P4.td
  have nd:=tm.nd;have lm:=tm.toCk.len;clean_wf;intro BK bK gK;have s4K:Same B4 BK:=bK.same s4J hd;refine⟨_,_,_,_,_,_,S',x',os',qs',_,ds',cs++[c],rfl,P4.same s4K,al',lc',fun c' hc'=>?_,L4.same s4K,s4K _ _ gsl4,nsl'⟩;rcases Qw.mp hc' with z|z
  ·exact wf c' z
  ·rw[tw.mp z,ecc];exact⟨Ki _ _ _,hkd⟩
 ·rintro σ A ⟨v8,v9,v10,v11,v12,v13,S,x,os,qs,hs,ds,cs,rfl,PA,al,lc,wf,L,gsl,nsl⟩;obtain⟨_,dxA,mPA,_,hpA⟩:=PA.ob;rw[a9]at mPA;cases mPA;have ltk:S.tk.length=cs.length:=by rw[←al.tk,gm]
  have tkc:∀q∈S.tk,q.2.c=me:=fun q hq=>(al.mem (by rw[←al.tk];exact QE.mpr ⟨q,hq,rfl⟩)).2.1;have tkp:(S.tk.map (·.2.k)).Pairwise (·<·):=by
   have e:S.tk.map (·.2.k)=cs.map (·.k):=by rw[←al.tk,Ri];rfl
   rw[e,Rq];intro i j hi hj hij;rw[gm]at hi hj;rw[SN,SN,(al.ck i _ (xi hi)).2.2,(al.ck j _ (xi hj)).2.2];omega
  have etk:(S.tk.filter f7++S.tk.filter fun q=>!f7 q).map (·.2)=cs.filter dM++cs.filter fun c=>!dM c:=by
   rw[xt,←al.tk,X6,X6];rfl
  have kdw:∀c∈cs.filter dM++cs.filter fun c=>!dM c,c.kd="own"∨c.kd="heard"∨c.kd="one":=fun c hc=>by
   rcases Qw.mp hc with z|z
   ·exact(wf c (QS.mp z).1).2
   ·exact(wf c (QS.mp z).1).2
  have lsum:=wX dM cs;clean_wf;refine⟨p,rfl,S,x,me,PA,by omega,tkc,tkp,fun B l ys sB hl gl pr=>?_⟩;rw[etk]at pr;have LB:=L.same sB;have lys:=Qk pr;rw[xp]at lys;have lhs:=Qk LB.ph;have lds:=Qk LB.pd;have los:=Qk LB.po;have lqs:=Qk LB.pq;refine qq ?_;clean_wf;refine⟨.ref ah,.ref ad,rfl,.list (cs.map hdD),.lst LB.gh (by omega) (yr LB.ph wf),.lst LB.gd (by omega) (yr LB.pd wf),fun B1 s1=>?_⟩;have L1:=LB.same s1;have go1:=L1.go;have gq1:=L1.gq;clean_wf;refine we go1 gq1 (by omega) fun q B2 hq s2 gq2=>?_;have pz1:=ua pr kdw;have pz2:=ua (cj (L1.same s2).po (L1.same s2).pq) kdw;clean_wf;refine⟨.ref l,.ref q,rfl,.list ((cs.filter dM++cs.filter fun c=>!dM c).map r5D),.lst (s2 _ _ (s1 _ _ gl)) (by omega) ((pz1.same (s1.trans s2)).up.up.up.up),.lst gq2 (by rw[xp];omega) pz2.up.up.up.up,fun B3 s3=>?_⟩;have sB3:Same B B3:=s1.trans (s2.trans s3);have gl3:=sB3 _ _ gl;clean_wf;refine⟨l,_,rfl,rfl,gl3,?_⟩;have b4:But l B3 (upd B3 l (.lst [])):=fun b n=>aj n;have s4:Same A (upd B3 l (.lst [])):=b4.same (sB.trans sB3) hl;generalize upd B3 l (.lst [])=B4 at s4⊢;have L4:=L.same s4;have P4:=PA.same s4;have hp4:=s4 _ _ hpA;clean_wf;refine⟨p,rfl,S,x,me,P4,by omega,tkc,tkp,fun B5 l5 ys5 s5 hl5 gl5 pr5=>?_⟩;rw[etk]at pr5;have lys5:=Qk pr5;rw[xp]at lys5;have L5:=L4.same s5;have go5:=L5.go;have gq5:=L5.gq;clean_wf;refine we go5 gq5 (by omega) fun q6 B6 hq6 s6 gq6=>?_;have pz5:=ua pr5 kdw;have pz6:=ua (cj (L5.same s6).po (L5.same s6).pq) kdw;clean_wf;refine⟨.ref l5,.ref q6,rfl,.list ((cs.filter dM++cs.filter fun c=>!dM c).map r5D),.lst (s6 _ _ gl5) (by omega) ((pz5.same s6).up.up.up.up),.lst gq6 (by rw[xp];omega) pz6.up.up.up.up,fun B7 s7=>?_⟩;have s47:=s5.trans (s6.trans s7);have hp7:=s47 _ _ hp4;have L7:=L4.same s47;have gd7:=L7.gd;clean_wf;refine⟨p,rfl,S,x,P4.same s47,fun B8 d8 s8 hd8 gd8=>?_⟩;have sld:SqL K B8 ad ds:=SqL.of (s8 _ _ gd7);clean_wf;refine⟨1,(ds.length:Nat),rfl,?_⟩;have ee:decide ((((dI S.dn).length:Nat):Int)=if((ds.length:Nat):Int)<1 then((ds.length:Nat):Int)else 1)=true:=by
   refine decide_eq_true ?_;rw[vv,al.dn,lds];unfold dn1;by_cases z:cs.length=0
   ·rw[if_pos z,if_pos (by omega)];show((0:Nat):Int)=_;omega
   ·rw[if_neg z,if_neg (by omega)];rfl
  clean_wf;rw[ee];exact kk _
end
end K41
namespace K41
open PySem L2
theorem NJ{l:Wu}{w:Qu}{K:cw}{h:Qg}{mg:pe->Option cT}{fa f_0 f_1 f_2 f_3 f_4 f_5 f_6 f_7 f_8 f_9 f_10 f_11 f_12 f_13 f_14 f_15 f_16 f_17 f_18 f_19 f_20 f_21 f_22 f_23 f_24 f_25 f_26 f_27 f_28 f_29 f_30 f_31 f_32 f_33 f_34 f_35 f_36 f_37 f_38 f_39 f_40 f_41 f_42 f_43 f_44 f_45 f_46 f_47 f_48 f_49 f_50 f_51 f_52 f_53 f_54 f_55 f_56 f_57 f_58 f_59 f_60 f_61 oG aR cW bf bc bA cu LM Df aK:dk}{d_0 d_1 d_2 d_3 d_4 d_5 d_6 d_7 d_8 d_9 d_10 d_11 d_12 d_13 d_14 d_15 d_16 d_17 d_18 d_19 d_20 d_21 d_22 d_23 d_24 d_25 d_26 d_27 d_28 d_29 d_30 d_31 d_32 d_33 d_34 d_35 d_36 d_37 d_38 d_39 d_40 d_41 d_42 d_43 d_44 d_45 d_46 d_47 d_48 d_49 d_50 d_51 d_52 d_53 d_54 d_55 d_56 d_57 d_58 d_59 d_60 d_61:xw}(X:K.In h)(G:h.Ns Qz mg)(hfa:mg "law"=some (.ref fa))
  {Ke J6:pe} {IK mT IM:List cT} {xb Jy:Bool} {Kq:List pe} {Ka:Option Bool} {KC:Option dk} {JX KL JA Jk JQ:Option cT} {CD:String} {nK:Nat} {t1K t2K t3K:TQ}
  (a_0:nI K "count_of" f_0)
  (a_1:nI K "hands_among" f_1)
  (a_2:nI K "covers" f_2)
  (a_3:nI K "unpacked" f_3)
  (a_4:nI K "joined" f_4)
  (a_5:nI K "covers_name" f_5)
  (a_8:nI K "is_whole" f_8)
  (a_9:nI K "is_word" f_9)
  (a_10:nI K "make_call" f_10)
  (a_14:nI K "first_open" f_14)
  (a_15:nI K "name_at" f_15)
  (a_20:nI K "rank_of" f_20)
  (a_21:nI K "can_be_taken" f_21)
  (a_22:nI K "first_to_take" f_22)
  (a_23:nI K "callers_from" f_23)
  (a_24:nI K "run" f_24)
  (a_25:nI K "least_asking" f_25)
  (a_26:nI K "placed" f_26)
  (a_27:nI K "least_count" f_27)
  (a_28:nI K "common" f_28)
  (a_29:nI K "packed" f_29)
  (a_30:nI K "bit_of" f_30)
  (a_31:nI K "has" f_31)
  (a_32:nI K "hands_of" f_32)
  (a_42:nI K "why_of" f_42)
  (a_43:nI K "by_rank" f_43)
  (a_44:nI K "least" f_44)
  (a_54:nI K "_law_alike" f_54)
  (a_59:nI K "_law_cell_at" f_59)
  (a_60:nI K "_law_word" f_60)
  (a_61:nI K "law" f_61)
  (LP:nI K "Call" oG)
  (yP:nI K "HeardCall" aR)
  (Kj:nI K "Known" cW)
  (Ep:nI K "OneCall" bf)
  (Fe:nI K "OwnCall" bc)
  (Mb:nI K "Page" bA)
  (Nj:Sg K Qz "Held"=some (some (.ref cu)))
  (Ef:Sg K Qz "KINDS"=some (some (.ref aK)))
  (Ol:Sg K Qz "abs"=some none)
  (NT:Sg K Qz "all"=some none)
  (MV:Sg K Qz "bool"=some none)
  (Mj:Sg K Qz "dict"=some none)
  (OQ:Sg K Qz "int"=some none)
  (xg:Sg K Qz "isinstance"=some none)
  (N0:Sg K Qz "len"=some none)
  (NI:Sg K Qz "list"=some none)
  (N9:Sg K Qz "max"=some none)
  (OD:Sg K Qz "min"=some none)
  (Ko:Sg K Qz "range"=some none)
  (OM:Sg K Qz "set"=some none)
  (Gy:Sg K Qz "sorted"=some none)
  (NQ:Sg K Qz "str"=some none)
  (IQ:Sg K Qz "tuple"=some none)
  (O0:Sg K Qz "zip"=some none)
  (aE:Meth K aR "asks_place" f_18)
  (bB:Meth K aR "free" f_13)
  (cJ:Meth K aR "in_turn" f_11)
  (df:Meth K aR "kind" f_39)
  (a7:Meth K aR "name" f_16)
  (dg:Meth K aR "rank" f_17)
  (bC:Meth K aR "told" f_41)
  (cB:Meth K cW "floor" f_37)
  (dC:Meth K cW "learn" f_34)
  (eT:Meth K cW "reach" f_35)
  (fE:Meth K cW "sure" f_36)
  (aG:Meth K bf "asks_place" f_19)
  (bQ:Meth K bf "free" f_13)
  (cY:Meth K bf "in_turn" f_11)
  (dW:Meth K bf "kind" f_40)
  (bj:Meth K bf "name" f_16)
  (d0:Meth K bf "rank" f_17)
  (bR:Meth K bf "told" f_41)
  (aH:Meth K bc "asks_place" f_18)
  (bO:Meth K bc "free" f_12)
  (cV:Meth K bc "in_turn" f_11)
  (dZ:Meth K bc "kind" f_38)
  (bo:Meth K bc "name" f_16)
  (dY:Meth K bc "rank" f_17)
  (bP:Meth K bc "told" f_41)
  (cZ:Meth K bA "check_room" f_47)
  (gG:Meth K bA "keep" f_48)
  (fZ:Meth K bA "kept" f_57)
  (cX:Meth K bA "kept_calls" f_49)
  (eK:Meth K bA "let_go" f_51)
  (dA:Meth K bA "places" f_56)
  (eQ:Meth K bA "rows" f_58)
  (gn:Meth K bA "step" f_52)
  (gp:Meth K bA "take" f_50)
  (dR:Meth K bA "taken" f_55)
  (fB:Meth K bA "utter" f_53)
  (iI:Mk K aR f_6)
  (qA:Mk K cW f_33)
  (mO:Mk K bf f_6)
  (mN:Mk K bc f_7)
  (x8:Mk K bA f_45)
  (II:Qx K (.ref cu) "__init__"=some (some (.ref f_46)))
  (dF:ClsFn K oG "__init__" f_6)
  (F_0:Fun K "count_of" "count_of" oq f_0 d_0)
  (F_1:Fun K "hands_among" "hands_among" iY f_1 d_1)
  (F_2:Fun K "covers" "covers" uN f_2 d_2)
  (F_3:Fun K "unpacked" "unpacked" ox f_3 d_3)
  (F_4:Fun K "joined" "joined" vm f_4 d_4)
  (F_5:Fun K "covers_name" "covers_name" i9 f_5 d_5)
  (F_6:Fun K "__init__" "Call.__init__" fQ f_6 d_6)
  (F_7:Fun K "__init__" "OwnCall.__init__" d4 f_7 d_7)
  (F_8:Fun K "is_whole" "is_whole" ot f_8 d_8)
  (F_9:Fun K "is_word" "is_word" ri f_9 d_9)
  (F_10:Fun K "make_call" "make_call" lK f_10 d_10)
  (F_11:Fun K "in_turn" "Call.in_turn" gP f_11 d_11)
  (F_12:Fun K "free" "Call.free" l8 f_12 d_12)
  (F_13:Fun K "free" "HeardCall.free" fb f_13 d_13)
  (F_14:Fun K "first_open" "first_open" jC f_14 d_14)
  (F_15:Fun K "name_at" "name_at" qT f_15 d_15)
  (F_16:Fun K "name" "Call.name" kL f_16 d_16)
  (F_17:Fun K "rank" "Call.rank" kT f_17 d_17)
  (F_18:Fun K "asks_place" "Call.asks_place" eW f_18 d_18)
  (F_19:Fun K "asks_place" "OneCall.asks_place" dz f_19 d_19)
  (F_20:Fun K "rank_of" "rank_of" qE f_20 d_20)
  (F_21:Fun K "can_be_taken" "can_be_taken" gX f_21 d_21)
  (F_22:Fun K "first_to_take" "first_to_take" fT f_22 d_22)
  (F_23:Fun K "callers_from" "callers_from" ip f_23 d_23)
  (F_24:Fun K "run" "run" FE f_24 d_24)
  (F_25:Fun K "least_asking" "least_asking" gU f_25 d_25)
  (F_26:Fun K "placed" "placed" tR f_26 d_26)
  (F_27:Fun K "least_count" "least_count" iZ f_27 d_27)
  (F_28:Fun K "common" "common" tN f_28 d_28)
  (F_29:Fun K "packed" "packed" uF f_29 d_29)
  (F_30:Fun K "bit_of" "bit_of" uX f_30 d_30)
  (F_31:Fun K "has" "has" Ha f_31 d_31)
  (F_32:Fun K "hands_of" "hands_of" oE f_32 d_32)
  (F_33:Fun K "__init__" "Known.__init__" eZ f_33 d_33)
  (F_34:Fun K "learn" "Known.learn" i5 f_34 d_34)
  (F_35:Fun K "reach" "Known.reach" i7 f_35 d_35)
  (F_36:Fun K "sure" "Known.sure" jP f_36 d_36)
  (F_37:Fun K "floor" "Known.floor" ja f_37 d_37)
  (F_38:Fun K "kind" "OwnCall.kind" gQ f_38 d_38)
  (F_39:Fun K "kind" "HeardCall.kind" fh f_39 d_39)
  (F_40:Fun K "kind" "OneCall.kind" ir f_40 d_40)
  (F_41:Fun K "told" "Call.told" mf f_41 d_41)
  (F_42:Fun K "why_of" "why_of" ur f_42 d_42)
  (F_43:Fun K "by_rank" "by_rank" rh f_43 d_43)
  (F_44:Fun K "least" "least" xV f_44 d_44)
  (F_45:Fun K "__init__" "Page.__init__" fP f_45 d_45)
  (F_46:Fun K "__init__" "Held.__init__" fO f_46 d_46)
  (F_47:Fun K "check_room" "Page.check_room" eI f_47 d_47)
  (F_48:Fun K "keep" "Page.keep" lY f_48 d_48)
  (F_49:Fun K "kept_calls" "Page.kept_calls" eF f_49 d_49)
  (F_50:Fun K "take" "Page.take" kG f_50 d_50)
  (F_51:Fun K "let_go" "Page.let_go" iX f_51 d_51)
  (F_52:Fun K "step" "Page.step" kZ f_52 d_52)
  (F_53:Fun K "utter" "Page.utter" jL f_53 d_53)
  (F_54:Fun K "_law_alike" "_law_alike" gL f_54 d_54)
  (F_55:Fun K "taken" "Page.taken" jO f_55 d_55)
  (F_56:Fun K "places" "Page.places" i8 f_56 d_56)
  (F_57:Fun K "kept" "Page.kept" mL f_57 d_57)
  (F_58:Fun K "rows" "Page.rows" mi f_58 d_58)
  (F_59:Fun K "_law_cell_at" "_law_cell_at" ie f_59 d_59)
  (F_60:Fun K "_law_word" "_law_word" lJ f_60 d_60)
  (F_61:Fun K "law" "law" wU f_61 d_61)
  (CW:K.lookup cu=some (excClassObj Ke J6 cu LM IK mT xb Kq IM Jy Ka KC JX KL JA Jk JQ CD))
  (Bw:TCall K oG)
  (au:TCall K aR)
  (aV:TKnown K cW)
  (az:TCall K bf)
  (ay:TCall K bc)
  (a8:TPage K bA)
  (Jf:YL K [.type "ValueError",.type "Exception",.type "BaseException",.type "object"] mT=true)
  (Ji:CD="ValueError.__new__")
  (Jr:WI K (.ref f_46)=some (.type "function"))
  (JL:UR K cu (.ref cu)=some true)
  (Kr:R9 K (.ref cu)=true)
  (Gb:Qx K (.ref cu) "__setattr__"=some (some (.builtin "object.__setattr__")))
  (FQ:UR K cu (.type "object")=some true)
  (GF:xb=true)
  (J3:mT=[zt Df,.type "ValueError",.type "Exception",.type "BaseException",.type "object"])
  (Gj:mT.contains (RL "BaseException")=true)
  (gw:Qx K (.ref cu) "many"=some none)
  (f9:Qx K (.ref cu) "room"=some none)
  (F3:K.lookup aK=some ⟨.type "tuple",none,.seq #[.str "own" t1K,.str "heard" t2K,.str "one" t3K] nK,#[]⟩)
 :∃fd:xw,(∀(s:lr) (v:cT),BindsTo s fd ⟨[v],[]⟩ [("_law_script",v)])/\∀base:Qg,K.In base->base.Ns Qz mg->FnOk l.prog w K mg base CX0 10 fa fd ["_law_script"] (xF K):=by
 have e:=hfa.symm.trans (To X G a_61);cases e;have CA_0:Cal K mg _ _ _ Eu:=F_0.cal X G a_0;have CA_1:Cal K mg _ _ _ t9:=F_1.cal X G a_1;have CA_2:Cal K mg _ _ _ uW:=F_2.cal X G a_2;have CA_3:Cal K mg _ _ _ ET:=F_3.cal X G a_3;have CA_4:Cal K mg _ _ _ uW:=F_4.cal X G a_4;have CA_5:Cal K mg _ _ _ EW:=F_5.cal X G a_5;have B_6:Binds K _ vb []:=F_6.bq;have B_7:Binds K _ vb []:=F_7.bq;have CA_8:Cal K mg _ _ _ ["value"]:=F_8.cal X G a_8;have CA_9:Cal K mg _ _ _ ["word"]:=F_9.cal X G a_9;have CA_10:Cal K mg _ _ _ GN:=F_10.cal X G a_10;have B_11:Binds K _ oK []:=F_11.bq;have B_12:Binds K _ oK []:=F_12.bq;have B_13:Binds K _ oK []:=F_13.bq;have CA_14:Cal K mg _ _ _ Eh:=F_14.cal X G a_14;have CA_15:Cal K mg _ _ _ Iz:=F_15.cal X G a_15;have B_16:Binds K _ aJ []:=F_16.bq;have B_17:Binds K _ aJ []:=F_17.bq;have B_18:Binds K _ aJ []:=F_18.bq;have B_19:Binds K _ aJ []:=F_19.bq;have CA_20:Cal K mg _ _ _ kW:=F_20.cal X G a_20;have CA_21:Cal K mg _ _ _ Ag:=F_21.cal X G a_21;have CA_22:Cal K mg _ _ _ Az:=F_22.cal X G a_22;have CA_23:Cal K mg _ _ _ Aq:=F_23.cal X G a_23;have CA_24:Cal K mg _ _ _ kU:=F_24.cal X G a_24;have CA_25:Cal K mg _ _ _ zY:=F_25.cal X G a_25;have CA_26:Cal K mg _ _ _ kU:=F_26.cal X G a_26;have CA_27:Cal K mg _ _ _ zA:=F_27.cal X G a_27;have CA_28:Cal K mg _ _ _ t9:=F_28.cal X G a_28;have CA_29:Cal K mg _ _ _ Am:=F_29.cal X G a_29;have CA_30:Cal K mg _ _ _ ["hand"]:=F_30.cal X G a_30;have CA_31:Cal K mg _ _ _ zp:=F_31.cal X G a_31;have CA_32:Cal K mg _ _ _ oi:=F_32.cal X G a_32;have B_33:Binds K _ yA []:=F_33.bq;have B_34:Binds K _ zD []:=F_34.bq;have B_35:Binds K _ y8 []:=F_35.bq;have B_36:Binds K _ zR []:=F_36.bq;have B_37:Binds K _ aJ []:=F_37.bq;have B_38:Binds K _ aJ []:=F_38.bq;have B_39:Binds K _ aJ []:=F_39.bq;have B_40:Binds K _ aJ []:=F_40.bq;have B_41:Binds K _ aJ []:=F_41.bq;have CA_42:Cal K mg _ _ _ kW:=F_42.cal X G a_42;have CA_43:Cal K mg _ _ _ ["calls"]:=F_43.cal X G a_43;have CA_44:Cal K mg _ _ _ oi:=F_44.cal X G a_44;have B_45:Binds K _ yy []:=F_45.bq;have B_46:Binds K _ Aa []:=F_46.bq;have B_47:Binds K _ aJ []:=F_47.bq;have B_48:Binds K _ m9 []:=F_48.bq;have B_49:Binds K _ aJ []:=F_49.bq;have B_50:Binds K _ m9 []:=F_50.bq;have B_51:Binds K _ aJ []:=F_51.bq;have B_52:Binds K _ aJ []:=F_52.bq;have B_53:Binds K _ zk []:=F_53.bq;have CA_54:Cal K mg _ _ _ pW:=F_54.cal X G a_54;have B_55:Binds K _ aJ []:=F_55.bq;have B_56:Binds K _ aJ []:=F_56.bq;have B_57:Binds K _ aJ []:=F_57.bq;have B_58:Binds K _ aJ []:=F_58.bq;have CA_59:Cal K mg _ _ _ y7:=F_59.cal X G a_59;have CA_60:Cal K mg _ _ _ zM:=F_60.cal X G a_60;have yl:=To X G LP;have av:=To X G yP;have aZ:=To X G Kj;have aA:=To X G Ep;have aC:=To X G Fe;have a9:=To X G Mb;have tO:=To X G Nj;have Dv:=XCls.mk CW;have tF:XiF K cu f_46 [.type "ValueError",.type "Exception",.type "BaseException",.type "object"] "ValueError.__new__":=⟨⟨_,_,Ji▸Dv,Jf⟩,II,Jr,JL,Kr⟩;have KO:∃cd,Wo K cu=some cd/\cd.hasDict=xb/\cd.mro=.ref cu::mT:=by unfold Wo;rw[CW];exact⟨_,rfl,rfl,rfl⟩
 have tu:XaF K cu:=by obtain⟨cd,h1,h2,h3⟩:=KO;exact⟨Gb,FQ,cd,mT,h1,h2.trans GF,h3,[Df],J3⟩
 have tE:∃N up newId,XCls K cu N up newId/\up.contains (.type "BaseException")=true:=⟨_,_,_,Dv,Gj⟩;have pB:=To X G Ef;have ql:RelV (.ref aK) (.ref aK):=rfl;have p9:yM K (.ref aK):=⟨aK,rfl,fun H=>.inr ⟨_,_,_,F3,rfl,rfl,(by show 3<=sizeLine;decide),.cons ⟨_,rfl⟩ (.cons ⟨_,rfl⟩ (.cons ⟨_,rfl⟩ .nil))⟩⟩;have Ow:mg "abs"=none:=Rk X G Ol;have Lj:mg "all"=none:=Rk X G NT;have Ik:mg "bool"=none:=Rk X G MV;have qD:mg "dict"=none:=Rk X G Mj;have K3:mg "int"=none:=Rk X G OQ;have jE:mg "isinstance"=none:=Rk X G xg;have uU:mg "len"=none:=Rk X G N0;have mr:mg "list"=none:=Rk X G NI;have Pf:mg "max"=none:=Rk X G N9;have Dr:mg "min"=none:=Rk X G OD;have Kc:mg "range"=none:=Rk X G Ko;have Lb:mg "set"=none:=Rk X G OM;have mB:mg "sorted"=none:=Rk X G Gy;have N5:mg "str"=none:=Rk X G NQ;have DI:mg "tuple"=none:=Rk X G IQ;have OB:mg "zip"=none:=Rk X G O0;obtain⟨_,_,kV,dc,pm,an,cd,ct,_,rfl,_⟩:=id F_61.ex;refine⟨SA "law" "law" (jS wU) (fA wU) (aw wU) .none kV dc pm an cd ct,fun s v=>.of_eq rfl,fun base _ _=>?_⟩;have eV:Tg l.prog w mg base:=trivial;have G_0:=zm eV F_0;have G_1:=t5 eV mr Lb mB F_1;have G_2:=EF eV (G_0.mono (by decide)) CA_0 (G_1.mono (by decide)) CA_1 Lj F_2;have G_3:=y3 eV qD F_3;have G_4:=EZ eV (G_0.mono (by decide)) CA_0 (G_1.mono (by decide)) CA_1 (G_3.mono (by decide)) CA_3 Pf F_4;have G_5:=u9 eV (G_0.mono (by decide)) CA_0 F_5;have G_6:=qK eV F_6;have G_7:=m7 eV (G_6.mono (by decide)) B_6 Bw yl dF F_7;have G_8:=yD eV Ik K3 jE F_8;have G_9:=BP eV (G_8.mono (by decide)) CA_8 Ow F_9;have G_10:=w8 eV B_6 (G_6.mono (by decide)) (G_7.mono (by decide)) B_7 (G_9.mono (by decide)) CA_9 au az ay av aA aC iI mO mN pB ql p9 F_10;have G_11:=sW eV (G_0.mono (by decide)) CA_0 F_11;have G_12:=yi eV ay aC (G_11.mono (by decide)) B_11 cV F_12;have G_13:=qj eV CA_3 au az av aA (G_11.mono (by decide)) B_11 (G_2.mono (by decide)) CA_2 (G_3.mono (by decide)) cJ cY F_13;have G_14:=vN eV (G_5.mono (by decide)) CA_5 uU F_14;have G_15:=Cd eV uU F_15;have G_16:=xW eV F_16;have G_17:=xZ eV F_17;have G_18:=oF eV F_18;have G_19:=kD eV F_19;have G_20:=AY eV au az ay av aA aC (G_17.mono (by decide)) B_17 dg d0 dY F_20;have G_21:=sO eV au az ay av aA aC (G_12.mono (by decide)) B_12 (G_13.mono (by decide)) B_13 (G_16.mono (by decide)) B_16 (G_18.mono (by decide)) B_18 (G_19.mono (by decide)) B_19 aE bB a7 aG bQ bj aH bO bo F_21;have G_22:=qB eV CA_0 au az ay av aA aC (G_0.mono (by decide)) (G_21.mono (by decide)) CA_21 F_22;have G_23:=sM eV F_23;have G_24:=MC eV Lb mB qD au az ay av aA aC (G_4.mono (by decide)) CA_4 (G_14.mono (by decide)) CA_14 (G_15.mono (by decide)) CA_15 (G_20.mono (by decide)) CA_20 (G_22.mono (by decide)) CA_22 (G_23.mono (by decide)) CA_23 F_24;have G_25:=sL eV au az ay av aA aC (G_12.mono (by decide)) B_12 (G_13.mono (by decide)) B_13 (G_18.mono (by decide)) B_18 (G_19.mono (by decide)) B_19 aE bB aG bQ aH bO CA_20 (G_20.mono (by decide)) Dr F_25;have G_26:=DP eV mr au az ay av aA aC B_16 a7 bj bo CA_14 (G_14.mono (by decide)) (G_16.mono (by decide)) (G_24.mono (by decide)) CA_24 (G_25.mono (by decide)) CA_25 F_26;have G_27:=uo eV (G_0.mono (by decide)) CA_0 Dr F_27;have G_28:=DX eV CA_1 CA_3 (G_3.mono (by decide)) (G_1.mono (by decide)) (G_27.mono (by decide)) CA_27 F_28;have G_29:=EX eV mB DI F_29;have G_30:=Fi eV F_30;have G_31:=ME eV (G_30.mono (by decide)) CA_30 F_31;have G_32:=AF eV (G_31.mono (by decide)) CA_31 Kc F_32;have G_33:=pY eV qD (G_32.mono (by decide)) CA_32 F_33;have G_34:=uA eV CA_4 (G_4.mono (by decide)) aV aZ F_34;have G_35:=ve eV (G_5.mono (by decide)) CA_5 uU aV aZ F_35;have G_36:=vF eV uU aV aZ (G_35.mono (by decide)) B_35 eT F_36;have G_37:=uk eV mr aV aZ (G_28.mono (by decide)) CA_28 F_37;have G_38:=sy eV F_38;have G_39:=qm eV F_39;have G_40:=sV eV F_40;have G_41:=ya eV au az ay av aA aC (G_38.mono (by decide)) B_38 (G_39.mono (by decide)) B_39 (G_40.mono (by decide)) B_40 df dW dZ F_41;have G_42:=D6 eV au az ay av aA aC B_18 B_19 aE aG aH (G_18.mono (by decide)) (G_19.mono (by decide)) F_42;have G_43:=By eV mB au az ay av aA aC CA_20 (G_20.mono (by decide)) F_43;have G_44:=HW eV Dr (G_32.mono (by decide)) CA_32 F_44;have G_45:=qN eV aV aZ (G_33.mono (by decide)) B_33 qA F_45;have G_46:=qS eV F_46;have G_47:=om eV CA_0 (G_0.mono (by decide)) aV aZ (G_37.mono (by decide)) B_37 (G_46.mono (by decide)) B_46 a8 a9 cB tO tF tu tE gw f9 F_47;have G_48:=xT eV au az ay av aA aC B_16 a7 bj bo a8 a9 (G_16.mono (by decide)) F_48;have G_49:=oV eV mr au az ay av aA aC a8 a9 (G_43.mono (by decide)) CA_43 F_49;have G_50:=xh eV au az ay av aA aC a8 a9 F_50;have G_51:=tS eV qD au az ay av aA aC CA_5 aV aZ (G_37.mono (by decide)) B_37 a8 a9 cB (G_5.mono (by decide)) F_51;have G_52:=xn eV au az ay av aA aC CA_24 aV aZ a8 a9 (G_24.mono (by decide)) (G_26.mono (by decide)) CA_26 (G_34.mono (by decide)) B_34 (G_36.mono (by decide)) B_36 (G_41.mono (by decide)) B_41 (G_42.mono (by decide)) CA_42 (G_44.mono (by decide)) CA_44 (G_49.mono (by decide)) B_49 (G_50.mono (by decide)) B_50 (G_51.mono (by decide)) B_51 bC dC fE bR bP cX eK gp F_52;have G_53:=vG eV au az ay av aA aC a8 a9 (G_10.mono (by decide)) CA_10 (G_29.mono (by decide)) CA_29 (G_47.mono (by decide)) B_47 (G_48.mono (by decide)) B_48 (G_52.mono (by decide)) B_52 cZ gG gn F_53;have G_54:=vH eV mr Lj Ik K3 jE uU DI N5 OB F_54 CA_54;have G_55:=vC eV qD a8 a9 F_55;have G_56:=tT eV mr a8 a9 F_56;have G_57:=xq eV mr mB a8 a9 F_57;have G_58:=yo eV au az ay av aA aC B_18 B_19 aE aG aH a8 a9 (G_43.mono (by decide)) CA_43 B_41 bC bR bP (G_18.mono (by decide)) (G_19.mono (by decide)) (G_41.mono (by decide)) F_58;have G_59:=sQ eV uU F_59;have G_60:=wY eV F_60;exact Mm eV mr qD jE au az ay av aA aC uU Dr aV aZ a8 a9 (G_45.mono (by decide)) B_45 (G_53.mono (by decide)) B_53 (G_54.mono (by decide)) CA_54 (G_55.mono (by decide)) B_55 (G_56.mono (by decide)) B_56 (G_57.mono (by decide)) B_57 (G_58.mono (by decide)) B_58 (G_59.mono (by decide)) CA_59 (G_60.mono (by decide)) CA_60 x8 fZ dA eQ dR fB F_61
theorem walk{l:Wu}{q:Qo}{loose:List pe}{XP:(pe->Option cT)->Qg->Prop}{YP:Qu->Qg->Prop}{d:DefRec}{K:Params->cw}(hn:l.most=some 63)(hdf:d.params.defaults=[])
  (hY:∀(w:Qu) (h:Qg),YP w h->(K w.params).In h)
  (F:∀(w:Qu) (mg:pe->Option cT) (fa:dk) (h:Qg),(K w.params).In h->h.Ns Qz mg->mg d.name=some (.ref fa)->
   ∃fd:xw,(∀(s:lr) (u:cT),BindsTo s fd ⟨[u],[]⟩ [("_law_script",u)])/\∀base:Qg,(K w.params).In base->base.Ns Qz mg->FnOk l.prog w (K w.params) mg base CX0 10 fa fd ["_law_script"] (xF (K w.params))):
  Yp q loose XP YP l.row.toRowW d [] (fun f vs=>PySem.call f vs):=
 L2.JE (n:=63) (k:=10) (x:="_law_script") (CX:=fun _=>CX0) (sp:=fun w=>xF (K w.params)) hn (by decide) hdf ⟨rfl,by decide,by decide⟩ hY F (fun _ _ a ns hl _ hS=>⟨a,ns,rfl,hS,hl,fun _=>rfl⟩) fun _ _ _ _ _ z=>z
end K41
namespace PySem.W.Fast
def tw17856552072744446483:=()
def tw8812078346277233822:=()
def tw15095917093526592206:=()
def tw15565157313798465442:=()
def tw7171057746915893081:=()
def tw6040935693914128532:=()
def tw10510934106260910:=()
def tw16951672949125759653:=()
def tw9330795958820653780:=()
def tw17566041474297984045:=()
def tw8598966257862573544:=()
def tw6499601108452336440:=()
def tw18291293885736917127:=()
def tw8909937324850810613:=()
def tw18073997748541622306:=()
def tw7529919332952456603:=()
def tw18150896377076860723:=()
def tw17056707239110124377:=()
def tw10698967234530997275:=()
def tw8934514767733358060:=()
def tw9084770715832585704:=()
def tw4024693534061367758:=()
def tw3519282084660383344:=()
def tw5005587814648554043:=()
def tw2419171890358017721:=()
def tw14883118955628240418:=()
def tw943326136016676250:=()
def tw16385588687266775333:=()
def tw2405131942908371505:=()
def tw790370975499893421:=()
def tw18410011278146875036:=()
def tw4542022643357188007:=()
def tw13751984345247566638:=()
def tw12820173778515200084:=()
def tw9929892398014611682:=()
def tw16794350654606266210:=()
def tw10332904238172024575:=()
def tw15055264537027813820:=()
def tw669646296832345712:=()
def tw4698874939185327202:=()
def tw602608558183055999:=()
def tw14614137517733581975:=()
def tw14029404762465958700:=()
def tw17771209969087860436:=()
def tw11677435809141208526:=()
def tw3599425205766564520:=()
def tw16598577365937272788:=()
def tw16834794786410546463:=()
def tw7742590394407671140:=()
def tw10011073901787091245:=()
def tw3460266030547424609:=()
def tw6299399096755871046:=()
def tw4280495778873798668:=()
def tw928767310603590808:=()
def tw2081749742543821767:=()
def tw2031148366394314855:=()
def tw13241500694888591117:=()
def tw11229134840030698549:=()
def tw6546461443806561742:=()
def tw13687837737055002379:=()
def tw4945877878851491691:=()
def tw17574931079922198936:=()
def tw13814637019324682239:=()
def tw13387832328059252060:=()
def tw4987396118969755473:=()
def tw8376879024098415732:=()
def tw14105894998325834550:=()
def tw323762051324161353:=()
def tw985123709305964849:=()
def tw11658627943697763109:=()
def tw13154604675949493512:=()
def tw2975969412911524936:=()
def tw13196338387062448877:=()
def tw17895306387111362698:=()
def tw11010904318071049092:=()
def tw7668990924244977440:=()
def tw1896507845227038426:=()
def tw17543899810159267813:=()
def tw15841000100448948231:=()
def tw725398714697090953:=()
def tw8029080305130630763:=()
def tw4613519937278310763:=()
def tw3045148532981770171:=()
def tw9528500880717417371:=()
def tw12207572017745841852:=()
def tw17740326719023246388:=()
def tw12999768478328001712:=()
def tw5188793487997655162:=()
def tw5581105000170018784:=()
def tw11069421705278231628:=()
def tw15451320380775812168:=()
def tw11724500325265817395:=()
def tw14839862846632240716:=()
def tw18279999182986130029:=()
def tw9600617526227141195:=()
def tw9358594881109720312:=()
def tw5934676797596121586:=()
def tw16458197350269833669:=()
def tw12131130224128596437:=()
def tw9661943674807127236:=()
def tw3688028066631435672:=()
def tw3913684852543733977:=()
def tw7227873058349101148:=()
def tw6088499855259777731:=()
def tw17036300817845147198:=()
def tw14201366007726964415:=()
def tw15451956349878802455:=()
def tw3075366196215798474:=()
def tw3998614741772026049:=()
def tw13720613405177178721:=()
def tw14849795924833028078:=()
def tw9679618504439799059:=()
def tw9820789949308256213:=()
def tw1597240663371872705:=()
def tw2781192209739791866:=()
def tw6823051335475492588:=()
def tw2408847327711906759:=()
def tw13823487766975001405:=()
def tw6803002107455908648:=()
def tw463161485835431397:=()
def tw12913691657483103145:=()
def tw3112320087070227984:=()
def tw6619978177999071053:=()
def tw9825976260719107901:=()
def tw2894191134994352495:=()
def tw11141321369351396124:=()
def tw4195845517790261755:=()
def tw2579765164513613435:=()
def tw3596446578298450710:=()
def tw17478991784852401104:=()
def tw5821783320433209683:=()
def tw15311085835602974147:=()
def tw9265931152300346995:=()
def tw388249595693024334:=()
def tw12149634064180378375:=()
def tw8192110731057495092:=()
def tw11356858888109620445:=()
def tw17874651921376887017:=()
def tw657719246321880898:=()
def tw10988283628674743035:=()
def tw10850762691427625346:=()
def tw8718576632532144321:=()
def tw5914456181835416549:=()
def tw13125884407764107940:=()
def tw17812903657819639759:=()
def tw334565500984783016:=()
def tw9667054411579533348:=()
def tw9654170603198025672:=()
def tw1025899382443949033:=()
def tw4079553774983842434:=()
def tw8359141948834157762:=()
def tw4902399601416161220:=()
def tw708740546611080395:=()
def tw5246831101272454802:=()
def tw3828632424697354607:=()
def tw17805820398264400147:=()
def tw662135503585491765:=()
def tw8896702342043502540:=()
def tw8308657779870107147:=()
def tw5832280566192265803:=()
def tw16694823626756823922:=()
def tw5241425957964586016:=()
def tw16174189562720616987:=()
def tw11765171425717447450:=()
def tw1773007481854051973:=()
def tw4056773816270772969:=()
def tw14109658193603261982:=()
def tw5808761803790345994:=()
def tw6578571892126021558:=()
def tw4811679768722032291:=()
def tw5650179087632366406:=()
def tw15546156431191790947:=()
def tw13668170082417467305:=()
def tw1321340792276010291:=()
def tw12263482267240204422:=()
def tw16536805756955865862:=()
def tw1400982304042337490:=()
def tw15561822854843460238:=()
def tw4926690869777134217:=()
def tw6075636126758655282:=()
def tw11240618501177028590:=()
def tw9059722033275534013:=()
def tw9904699039206260348:=()
def tw2037492207199464102:=()
def tw13683223808086643859:=()
def tw11634243456655109395:=()
def tw4334455453767230698:=()
def tw11902139528115639657:=()
def tw5215373770958647411:=()
def tw5948823454186985097:=()
def tw13535453667758681962:=()
def tw17140633875332726895:=()
def tw5034451389823953046:=()
def tw9417133931037152196:=()
def tw5464007256930692812:=()
def tw11991154244327673760:=()
def tw9384366919814936325:=()
def tw6870299164587303205:=()
def tw15552325055200414910:=()
def tw7159698776091961286:=()
def tw15789155977376600533:=()
def tw11371776830814777994:=()
def tw8422498968523952795:=()
def tw12745455799730872478:=()
def tw4931275861657452220:=()
def tw11111881767851036950:=()
def tw13638698376327108675:=()
def tw17340077322672169082:=()
def tw16193305606780137931:=()
def tw7331696242120989312:=()
def tw17465646056139777108:=()
def tw15695644718533524876:=()
def tw7880591568203175883:=()
def tw2867502271934638159:=()
def tw3568241658651240271:=()
def tw3854708166724100932:=()
def tw3243572830969280528:=()
def tw15383410300436247305:=()
def tw8659122114384301969:=()
def tw14371091516903618092:=()
def tw16749553216387790267:=()
def tw17138471486945897581:=()
def tw11075328208956551639:=()
def tw12890397684749973085:=()
def tw1008872206162268475:=()
def tw7118937378183422788:=()
def tw18229627665244536868:=()
def tw13140723736388980298:=()
def tw4026062369393638849:=()
def tw7949757851174450761:=()
def tw15502498397140348053:=()
def tw10866451999138133274:=()
def tw18182089512499914939:=()
def tw12284829151267796140:=()
def tw17734814821204209641:=()
def tw10841144645646805447:=()
def tw341078909886929884:=()
def tw10570652184560774705:=()
def tw4326909826814841140:=()
def tw4526029911340792296:=()
def tw2086076342593327615:=()
def tw9496801998666098096:=()
def tw695784133442185470:=()
def tw14364321279254076910:=()
def tw12817728712105103660:=()
def tw1245517480508701279:=()
def tw6816021179952577581:=()
def tw2018398554338884124:=()
def tw17976620100088460585:=()
def tw14983340860913393592:=()
def tw16587641039225192857:=()
def tw16730849933184971189:=()
def tw11119591605880566272:=()
def tw1337937732605621363:=()
def tw13563275940965722987:=()
def tw6275009130488903364:=()
def tw3511769868927928048:=()
def tw17654566755553153205:=()
def tw18338530733528051056:=()
def tw16311999300386409503:=()
def tw1480734378868927812:=()
def tw12839297396275562126:=()
def tw1824165333948274895:=()
def tw14235231694514672196:=()
def tw13848968306575497304:=()
def tw12855750235128265477:=()
def tw11198187888521286027:=()
def tw18179741731874662009:=()
def tw12806134158421819367:=()
def tw5852926871216418297:=()
def tw14640453723410528679:=()
def tw9265089761557675916:=()
def tw14093030150115987266:=()
def tw3323990596038818964:=()
def tw14090310260414201498:=()
def tw8309905954533596825:=()
def tw16167930644348835580:=()
def tw4693294393506620168:=()
def tw3904086098998236694:=()
def tw17331568658333171247:=()
def tw13761948272218653136:=()
def tw13563132452330293514:=()
def tw12773543167550664892:=()
def tw11091994914023097187:=()
def tw10645478148270661577:=()
def tw8261886943044017253:=()
def tw6852638271406337094:=()
def tw14922983817329732153:=()
def tw9076675409219523188:=()
def tw18018008854082416097:=()
def tw16621531344554510665:=()
def tw17517846717613626882:=()
def tw11884458433274920206:=()
def tw514337246059432035:=()
def tw18115510001515101477:=()
def tw14263246642131841095:=()
def tw528901983297036603:=()
def tw7046952676731013437:=()
def tw3178334968062225629:=()
def tw84684953291847260:=()
def tw10241297135457945668:=()
def tw3808250474585421522:=()
def tw9047014655615935284:=()
def tw4146022724454208554:=()
def tw1145763484684384221:=()
def tw5062347440375758457:=()
def tw4261791084333583246:=()
def tw13205613909790960857:=()
def tw14717779809409820217:=()
def tw3390346986455802889:=()
def tw8234210986218603313:=()
def tw2699868281950026227:=()
def tw14162195449385543016:=()
def tw3199834746916633152:=()
def tw12797318411489946557:=()
def tw12793028852239201312:=()
def tw2688140197829529392:=()
def tw2068540586503174355:=()
def tw8885983373552187611:=()
def tw17752314422041785709:=()
def tw14790779316175480976:=()
def tw14743744506883798410:=()
def tw15128477358328504701:=()
def tw13110051955774618470:=()
def tw14245088461367283094:=()
def tw129803150515786991:=()
def tw17146573055158893017:=()
def tw17768422650153937964:=()
def tw7637391967549077834:=()
def tw5789511804708355878:=()
def tw14484461521773133170:=()
def tw17151484522289393965:=()
def tw3783532862575389852:=()
def tw1420364402178492618:=()
def tw12596271308944699623:=()
def tw13997206092572021542:=()
def tw18273313202483965286:=()
def tw9991362112357754836:=()
def tw12045427317934485734:=()
def tw116653095518207727:=()
def tw2219250918900162926:=()
def tw18131811098325431386:=()
def tw7983447629468465790:=()
def tw6494020593325574741:=()
def tw1339381819016380208:=()
def tw3449534571975835279:=()
def tw9325542975356903484:=()
def tw2123409712768070302:=()
def tw17750785029031016508:=()
def tw13115092050329144185:=()
def tw15189264333354759627:=()
def tw2227766712565834596:=()
def tw1484131438321162331:=()
def tw7622978659060044592:=()
def tw13441311325512107073:=()
def tw15711378098312081052:=()
def tw4435798531356056613:=()
def tw6892221909304149747:=()
def tw11207996463187835133:=()
def tw328928028456885533:=()
def tw6975485814500259313:=()
def tw15944122754711292575:=()
def tw15790530611227523599:=()
def tw1700861815945621066:=()
def tw143354846721327081:=()
def tw10062977213016343551:=()
def tw12829075417792886293:=()
def tw12629261518586067860:=()
def tw7641333108246255394:=()
def tw4980629211537894692:=()
def tw17670782701179739667:=()
def tw16176997670131626997:=()
def tw10839128888846633193:=()
def tw2038442320754627575:=()
def tw11763186803874124260:=()
def tw9057199042674255355:=()
def tw8415337879283468506:=()
def tw7214304707443913569:=()
def tw1685808369786089392:=()
def tw1200089746700006459:=()
def tw16190912076832752873:=()
def tw2924496524588496097:=()
def tw8775525159882593486:=()
def tw7667642707201684630:=()
def tw7347623776372007890:=()
def tw6583325667324578627:=()
def tw8903886266210732828:=()
def tw16718607353141540102:=()
def tw10025400162543859119:=()
def tw17095247922477181287:=()
def tw2055349876978215871:=()
def tw15749444754249073924:=()
def tw18326579066193505570:=()
def tw4768995042827113973:=()
def tw777545527064706422:=()
def tw6056197689968586248:=()
def tw13595441232393696629:=()
def tw9587419360441595738:=()
def tw7800793168867331037:=()
def tw7336140711852123848:=()
def tw4501527685519788576:=()
def tw2271375800488458640:=()
def tw17815184176459300697:=()
def tw16206183920683244401:=()
def tw7146941398667118970:=()
def tw4791702751941541209:=()
def tw16519548366053971619:=()
def tw17632263246927876485:=()
def tw12281472370045029210:=()
def tw6647542391292415594:=()
def tw4168995959588220188:=()
def tw11334017901393437730:=()
def tw9565299707240217724:=()
def tw9195127032238225901:=()
def tw782184139273221691:=()
def tw7398839287334773019:=()
def tw6492036226485353904:=()
def tw6413378508411271673:=()
def tw4872714363197962419:=()
def tw4701579434789994527:=()
def tw3767330027496654440:=()
def tw2690939047933349476:=()
def tw18141779616202275166:=()
def tw16737328223860422096:=()
def tw15919043872964984996:=()
def tw15090834673060488993:=()
def tw14935110014579097485:=()
def tw13609526624831641649:=()
def tw13132864457802173329:=()
def tw11957772106920994336:=()
def tw10282527848272226739:=()
def tw8077473908550536952:=()
def tw17285628744858303506:=()
def tw14244230735631099781:=()
def tw1885782058113685309:=()
end PySem.W.Fast
open PySem PySem.W PyProof.Rows
set_option maxRecDepth 100000 in
set_option maxHeartbeats 0 in
theorem PySem.Challenge.cw_groupcall_k41_a_page_alone_holds : PySem.Challenge.rw_groupcall_k41_a_page_alone.Holds := by
 w_on;o_law;k_head;(case hw=>w_witness2)
 k_fill
 refine K41.walk (l:=PySem.Challenge.rw_groupcall_k41_a_page_alone) rfl rfl (fun w h Y=>PySem.W.kIn_of Y) ?F
 case F=>
  intro w mg fa h KX G hmg;refine' K41.NJ KX G hmg ?h0 ?h1 ?h2 ?h3 ?h4 ?h5 ?h6 ?h7 ?h8 ?h9 ?h10 ?h11 ?h12 ?h13 ?h14 ?h15 ?h16 ?h17 ?h18 ?h19 ?h20 ?h21 ?h22 ?h23 ?h24 ?h25 ?h26 ?h27 ?h28 ?h29 ?h30 ?h31 ?h32 ?h33 ?h34 ?h35 ?h36 ?h37 ?h38 ?h39 ?h40 ?h41 ?h42 ?h43 ?h44 ?h45 ?h46 ?h47 ?h48 ?h49 ?h50 ?h51 ?h52 ?h53 ?h54 ?h55 ?h56 ?h57 ?h58 ?h59 ?h60 ?h61 ?h62 ?h63 ?h64 ?h65 ?h66 ?h67 ?h68 ?h69 ?h70 ?h71 ?h72 ?h73 ?h74 ?h75 ?h76 ?h77 ?h78 ?h79 ?h80 ?h81 ?h82 ?h83 ?h84 ?h85 ?h86 ?h87 ?h88 ?h89 ?h90 ?h91 ?h92 ?h93 ?h94 ?h95 ?h96 ?h97 ?h98 ?h99 ?h100 ?h101 ?h102 ?h103 ?h104 ?h105 ?h106 ?h107 ?h108 ?h109 ?h110 ?h111 ?h112 ?h113 ?h114 ?h115 ?h116 ?h117 ?h118 ?h119 ?h120 ?h121 ?h122 ?h123 ?h124 ?h125 ?h126 ?h127 ?h128 ?h129 ?h130 ?h131 ?h132 ?h133 ?h134 ?h135 ?h136 ?h137 ?h138 ?h139 ?h140 ?h141 ?h142 ?h143 ?h144 ?h145 ?h146 ?h147 ?h148 ?h149 ?h150 ?h151 ?h152 ?h153 ?h154 ?h155 ?h156 ?h157 ?h158 ?h159 ?h160 ?h161 ?h162 ?h163 ?h164 ?h165 ?h166 ?h167 ?h168 ?h169 ?h170 ?h171 ?h172 ?h173 ?h174 ?h175 ?h176 ?h177 ?h178 ?h179
  (case h0|h1|h2|h3|h4|h5|h6|h7|h8|h9|h10|h11|h12|h13|h14|h15|h16|h17|h18|h19|h20|h21|h22|h23|h24|h25|h26|h27|h28|h29|h30|h31|h32|h33|h34|h35|h36|h37=>show _=_;k_is)
  (case h38|h39|h40|h41|h42|h43|h44|h45|h46|h47|h48|h49|h50|h51|h52|h53|h54=>first|k_is|rfl|decide)
  (case h55|h56|h57|h58|h59|h60|h61|h62|h63|h64|h65|h66|h67|h68|h69|h70|h71|h72|h73|h74|h75|h76|h77|h78|h79|h80|h81|h82|h83|h84|h85|h86|h87|h88|h89|h90|h91|h92|h93|h94|h95=>constructor<;>k_is)
  (case h96=>first|k_is|rfl|decide)
  (case h97=>constructor<;>first|k_is|rfl)
  (case h98|h99|h100|h101|h102|h103|h104|h105|h106|h107|h108|h109|h110|h111|h112|h113|h114|h115|h116|h117|h118|h119|h120|h121|h122|h123|h124|h125|h126|h127|h128|h129|h130|h131|h132|h133|h134|h135|h136|h137|h138|h139|h140|h141|h142|h143|h144|h145|h146|h147|h148|h149|h150|h151|h152|h153|h154|h155|h156|h157|h158|h159=>exact L2.Mp (by k_is) (by k_is) (by k_is))
  (case h160=>first|k_is|rfl|decide)
  (case h161|h162|h163|h164|h165|h166=>constructor;(constructor<;>k_is);all_goals(show _=_;k_is))
  (case h167=>first|k_is|rfl|decide|kernel_rfl)
  (case h168=>rfl)
  (case h169|h170|h171|h172|h173=>first|k_is|rfl|decide)
  (case h174|h175=>rfl)
  (case h176=>first|k_is|rfl|decide|kernel_rfl)
  (case h177|h178|h179=>first|k_is|rfl|decide)
