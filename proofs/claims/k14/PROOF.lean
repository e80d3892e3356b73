import PyProof.Rows.All
import Wide.All
import OpenK.AllK
import Wide.FinOn
import Lean
import PyProof.EqAt
import PyProof.EqKinds
import PyProof.TupleCall
import PyProof.AttrMissHeap
import KE.KSortTup
import KE.KDictList
import KE.KNest
import KE.KNestM
import OpenK.KRaise
import KE.KIsAll
import KE.KMatchCls
import PyProof.ExcAttrAll.ValueError
import PyProof.Rows.Range3
import KE.KIntText
import PyProof.Rows.StrWeight2
import PyProof.StrLawsTight
import KE.IntTextText
import PyProof.CompUse
import KE.KTryOn
import PyProof.Rows.StrSplitAre
import PySem.Challenge.RW_groupcall_k14_calls_read
set_option Elab.async false
set_option linter.all false
set_option compiler.extract_closed false
set_option bootstrap.genMatcherCode false
set_option maxRecDepth 100000
set_option maxHeartbeats 16000000
open PySem.W renaming Frag→Yc,findIn→Y8,kia_one→Y9,hideAll→kv,kitOne→mr,emptyDict→oo,instObj→xk,keepIn→Ci,fnOf→Cq,hideAll_get→C4,callWith_K→Dh,hasDictIn→Dt,plainGet→Dz,plainGet_of→DX,lookIn→D1,of_hideAll→D8,methodObj→Er,specialIn→Eu,handedIn→EI,takerIn→EY,cellsFrom_some→E4,codeIn→Fh,methodCall_KW→Fo,kitAny→Fp,hideAll_none→Fs,mroIn→FI,isFn→FR,plainOver→F8,kitx_list→F9,kitx_dict→Ga,makesIn→GL,takesIn→GN,OpenLaw→GP,WalkO→Hg,nsIn→Hy
open PySem renaming Value→Yd,wpAny_bind→Ye,Addr→Yf,Str→Yg,Shared→Yh,wpAny→Yj,wpAny_pure→Yk,model→Ym,sizeLine→Yp,FuncData→YA,Program→YB,mainGlobals→YC,starEach→YE,Heap→YF,World→YG,Expr→YN,Obj→Y1,Around→Y2,mem_of_lookup→Y4,Stmt→Y5,eval→dk,compareOp→gm,boot_len→jJ,codeAny→lr,wpAny_setState_of→xb,intKind→xc,wpAny_holding→xi,wpAny_mono→xn,wpAny_newObj_type→BP,rawInt→BR,wpAny_call_entry→BU,Env→BW,backTo→BX,Scope→Cg,wpAny_setField→Ck,bootBuiltins→Cm,wpAny_askSetting→Cs,PyData→Ct,wpAny_setEntries_of→Cv,wpAny_callSpecial?_slot→Cw,wpAny_getItem_str_slice→Cy,wpAny_Call_Name_kw→CA,wpAny_truthy_bool→CI,Builtin→CL,scanBound→CN,codeAny_call_builtin→CU,Pos→CW,pyNext→CY,wpAny_attempt→C0,sliceBounds→C3,wpAny_passesOwn→C8,cLine→C9,binaryOp→Df,Result→Dv,wpAny_of_eq→Dx,excClassObj→Dy,NameKind→DA,holding→DF,pickOrder→DG,wpAny_execs_nil→DK,letOwnedTupleGo→DM,wpAny_call→DN,typeIs_str→DO,codeAny_builtin→DQ,post_val_or_str→DS,SetTable→D2,setNext→D3,wpAny_fieldsOf→D4,Paired→D7,noteFrame→Ed,wpAny_standAt→Eg,behindInMarks→Ei,attributeBase→Ej,wpAny_pyIter_list→Es,foldedSetIterable→Et,fits_of_scanBound→Ey,sysModules→Ez,call_meets→EA,callerA→EG,KeyKind→EH,compEnvC→EL,wpAny_isInstance→EM,swapsWith→EX,wpAny_ite_split→E3,codeAny_compStart_list→E6,Sem→Fe,assign→Ff,BindsTo→Fg,builtinLookup_eq_fast→Fj,isSubtype_type→Fl,bindL→Ft,bindC→Fu,entryFor→Fw,wpAny_newFunctionEnv→Fx,setEntries→Fy,Tok→FH,plainId_quiet→FJ,wpAny_isSubtype_exc→FN,Within→FQ,getMethod→FT,seqIndex_neg→FV,passOn→F0,standAt→F3,newList→F4,relabel→F5,wpAny_assign_Name→F7,slot_list_getitem→Gb,wpAny_pyIter_slot→Gf,wpAny_loadPart_at→Gh,sizeLine_eq→Gk,seqIndex_of→Gm,keywordEach→Gn,wpAny_execs_cons→Gr,bindArgs→Gs,relayAll→Gv,setField→Gw,checkBuiltinCall→Gy,Drawn→GD,Model→GF,builtinsNs→GH,isTrue→GI,wpAny_Name→GJ,pyIter→GK,closureFor→GQ,argsOk→GR,typeLookup_type→GS,wpAny_updateSeq→GV,wpAny_looks_onW→GY,recursionLimit→G0,Keyword→G1,newFunctionEnv→G2,entryFor_alias→G4,firstArgMember→G5,isSubtype_stop→G6,wpAny_seqItems→G7,cellsFrom→G9,seqIndex?→Ha,DictEntry→Hb,drawOrder→Hc,intBits_le_64→Hd,evalPart_none→He,table→Hi,Walks→Hj,GenState→Hm,backToKw→Hr,codeAny_loop→Hs,setAddHashed→Hv,setNextDrawn→Hw,wpAny_typeOf→Hx,wpAny_landsW→Hz,intText?→HC,getAttr→HM,leaving→HN,getItem→HP,collect→HQ,ElemsOf→HR
open PySem.Heap renaming get?_push_of_some→Yi,lt_size→Yq,get?_push_size→Yu,get?_update_other→cb,get?_update_self→rf,SameBut→rl,size_push→Cj,get?_none_of_le→CP,HeldW→FD,FlyingW→FY
open Option renaming bind_some→Yl,map_eq_some_iff→Dw,getD_none→Gu,map_some→GU,some→Ya,none→Yb
open List renaming length_map→Yn,mem_cons_of_mem→Yw,size_toArray→Yx,mem_append_right→YH,length_cons→YJ,mem_cons→YK,mem_cons_self→YL,mem_singleton→YQ,getElem?_eq_getElem→YS,getElem?_map→YX,getElem?_eq_some_iff→YY,mem_of_getElem?→ar,eq_nil_of_length_eq_zero→cw,mem_singleton_self→vc,filterMap_cons→xf,map_append→xw,length_append→BY,mem_append→B0,map_cons→Cd,length_range→Ce,length_take→Cp,take_length→Cu,nodup_cons→CB,getElem?_set_self→CF,mem_range→CK,mem_map→CM,mem_append_left→CQ,getElem?_set_ne→CS,pairwise_append→CT,getD_eq_getElem?_getD→CZ,lookup→C2,append_nil→Dd,range→Dq,length_drop→DB,getElem_mem→DC,any_eq_true→DD,all_eq_true→DE,getElem?_eq_none→DH,eq_nil_or_concat→DI,concat_eq_append→DJ,mem_of_mem_drop→DV,getElem_of_mem→DY,mem_filterMap→Ec,length_eraseIdx_of_lt→El,exists_cons_of_ne_nil→Eo,take_sublist→Ew,getElem?_zip_eq_some→EB,lookup_cons→EK,pairwise_singleton→EV,of_mem_zip→EZ,length_set→E2,pairwise_lt_range→E7,take_of_length_le→E9,drop_of_length_le→Fb,length_singleton→Fi,getElem?_toArray→Fm,perm_cons_erase→Fz,mem_erase_of_ne→FA,mem_of_mem_take→FG,map_nil→FU,append_assoc→Ge,ext_getElem?→Gg,not_mem_nil→Gx,mem_filter→GG,drop_zero→G8,take_nil→Hh,all_map→Ht,Perm→HX
open Nat renaming le_refl→Yo,lt_of_lt_of_le→Yv,ne_of_lt→YD,le_trans→YI,zero_le→kx,le_succ→tB,lt_irrefl→xg,lt_or_ge→xq,lt_of_succ_lt_succ→BV,lt_succ_self→Cn,lt_of_le_of_lt→CD,lt_succ_of_lt→CJ,le_of_lt→De,le_of_eq→Dg,eq_zero_or_pos→Dj,ne_of_gt→DL,min_eq_left→DT,pow_le_pow_right→DU,not_lt→EC,succ_le_succ→EJ,decEq→F1,log2_lt→Gp,min_eq_right→Gz,min_le_right→GA,toDigits→HD,repr→HF,sub_zero→HG,mod_lt→HV
open Bool renaming false_ne_true→Yr,eq_iff_iff→xo,false_and→BS,and_eq_true→Cr,false_eq_true→Di,or_false→Ek,eq_false_iff→Gi,or_eq_true→GZ
open PySem.Txt renaming split→Ys,slice→YV,startswith→D5,slice_le→HB
open Array renaming getElem?_eq_getElem→Yt,getD_eq_getD_getElem?→YO,getElem?_toList→gs,length_toList→pe,getElem?_eq_none→CH,getElem_toList→DR,append_assoc→D9,toList_push→Gd,all_toList→GC,toList→Ho
open Option.some renaming inj→Yy
open PySem.NameKind renaming free→Yz,cell→YW
open PySem.F renaming excBase_ValueError→YM,plainAttrs_str→Y6,slot_str_split→ni,type_str_split→oh,plainAttrs_list→Ds,slot_list_append→EN,type_list_append→EO,plain_list_iadd→ER,attr_ValueError→ET,slot_set_iter→Fn,called_set→FW
open PySem.SetTable renaming below→YR,Probe→G3
open PySem.Str renaming ofString→YT,join→FC,empty→HW
open PySem.PyData.canLayAll0 renaming eq_2→YU
open PySem.Value renaming ref→YZ,type→pw,none→Cz,bool→Dm,builtin→En,str→EW,int→FP,isInt_shape→F6,float→Gj,bytes→HK
open PySem.Builtin.Str renaming strSliceIndices→Y0,occurrences→uc,strKind→FO,partsBetween→HA,glued→HZ
open PySem.PyData renaming int→Y3,depthAll→xt,canLayAll0→Cf,str→FF,eqvAll→FL,tuple→F2,list→Gq
open PyProof.Rows renaming boot_str→Y7,boot_isinstance→ir,IntsAre→B2,boot_int→Ca,envOfC→Co,firstMet→CG,toString_length_le→CV,AllBare→C1,joinParts_cons→D6,callWith_type1→Eb,split_le→ED,boot_tuple→EU,subscriptTail_builtinR→E5,split_pos→Fc,formatField_int_small→Fq,FormattedValue_plain→FE,firstMet_succ→FK,callWith_builtin1→GO,subscriptTail→Hf,split_weight→Hk,floordiv_int→Hq,seqObj→Hu,digit_range→HE,boot_sorted→HH,part_short→HJ,boot_bool→HL,boot_abs→HS,boot_all→HU
open Int renaming toNat_natCast→gr,toNat→Ee,fdiv_eq_ediv_of_nonneg→Eh,eq_ofNat_of_zero_le→ES,emod_lt_of_pos→FX,emod_nonneg→GW
open False renaming elim→ll
open PySem.NumText renaming digitsVal→xa
open PySem.SetTable.below renaming go→BQ
open PyProof.Rows.F renaming plain_set_update_loop→BZ,entry_set_update_loop→Dk
open PySem.Obj renaming mapSeq→CC,mapFields→Em,data_mapFields→FZ
open PySem.Heap.SameBut renaming update→C5
open PySem.Builtin.Getset_descriptor renaming descrGetArgs→C6,descrCheckInstance→E8,descrNameAndClass→Fd
open PySem.PyData.canLay0 renaming eq_6→C7,eq_5→DZ
open True renaming intro→Dr
open PySem.SetTable.probe renaming go→Du
open ForInStep renaming yield→DP
open PySem.PassesOwn renaming never→DW
open Sum renaming inl→D0,inr→EF
open PySem.Calls renaming Constant_str→Ea,Name_function_global→Ef,evalArgs_plain→Fv
open List.cons renaming inj→Ep
open List.Pairwise renaming nil→Ex,filterMap→HI,imp₂→HY
section
local macro_rules|`(tactic|omega)=>`(tactic|first|lia|omega +splitNatSub)
namespace L2
open PySem PySem.Spec PyProof.Rows
variable{us:List Yd}{x name m Zb:Yg}{u:Yd}{a b it dx C:Yf}{h h':YF}{items:Array Yd}{P:YB}{e c tg Zh:YN}{Za:List (Yf×Y1)}{s s':Yh}{g':Array Hm}{t' i j n k:Nat}{d':GD}{ch fp:List Yf}{M:GF}{E Q:Yd->Yh->Prop}{pos Zp p tpos Zi:CW}{g:Int->Int->Int}{Zn:List Y5}{f:Yd->Yd->Fe Yd}{op:CmpOp}{mA:Yg->Option Yd}{pl:Fe Bool}{kw:List (Yg×Yd)}{es:List YN}{fd:YA}{ps:List Yg}{scope:Cg}
abbrev l9:=Sum Int Yg
noncomputable def xl:l9->Yd->Bool
 | .inl k,v=>Value.isInt k v
 | .inr x,v=>Value.isStrOf x v
noncomputable def Bq(w:YG):l9->Int
 | .inl k=>hashInt k
 | .inr x=>hashStr w x
theorem bA:∀{k:l9} {v:Yd},xl k v=true->(∃i t,k=D0 i/\v=FP i t)∨(∃x t,k=EF x/\v=EW x t)
 | .inl i,v,h=>by
  obtain⟨t,e⟩:=F6 (k:=i) (v:=v) h;exact .inl ⟨i,t,rfl,e⟩
 | .inr x,v,h=>by
  obtain⟨t,e⟩:=Value.isStrOf_shape (x:=x) (v:=v) h;exact .inr ⟨x,t,rfl,e⟩
theorem yQ(a b:Int):decide ((D0 a:l9)=D0 b)=(a==b):=by
 by_cases e:a=b
 ·subst e;simp
 ·have h:¬ (D0 a:l9)=D0 b:=λq=>e (Sum.inl.inj q);rw[decide_eq_false h];exact(beq_eq_false_iff_ne.mpr e).symm
theorem y1(a b:Yg):decide ((EF a:l9)=EF b)=decide (a=b):=by
 by_cases e:a=b
 ·subst e;simp
 ·have h:¬ (EF a:l9)=EF b:=λq=>e (Sum.inr.inj q);rw[decide_eq_false h,decide_eq_false e]
theorem yL(a:Int)(b:Yg):decide ((D0 a:l9)=EF b)=false:=decide_eq_false (λq=>nomatch q)
theorem yz(a:Yg)(b:Int):decide ((EF a:l9)=D0 b)=false:=decide_eq_false (λq=>nomatch q)
noncomputable def om(prog:YB)(w:YG):EH prog w l9 where
 is:=xl
 hash:=Bq w
 inj:=λv a b ha hb=>by
  rcases bA ha with⟨i,t,rfl,rfl⟩|⟨x,t,rfl,rfl⟩
  ·rcases bA hb with⟨j,u,rfl,e⟩|⟨y,u,rfl,e⟩
   ·injection e with e1 _;rw[e1]
   ·exact nomatch e
  ·rcases bA hb with⟨j,u,rfl,e⟩|⟨y,u,rfl,e⟩
   ·exact nomatch e
   ·injection e with e1 _;rw[e1]
 byValue:=λk v h=>by
  rcases bA h with⟨i,t,rfl,rfl⟩|⟨x,t,rfl,rfl⟩<;>rfl
 pyHash:=λc h=>by
  rcases bA c with⟨i,t,rfl,rfl⟩|⟨x,t,rfl,rfl⟩
  ·exact wpAny_pyHash_int h
  ·exact wpAny_pyHash_str h
 eqBool:=λd c h=>by
  rcases bA d with⟨i,t,rfl,rfl⟩|⟨x,t,rfl,rfl⟩
  ·rcases bA c with⟨j,u,rfl,rfl⟩|⟨y,u,rfl,rfl⟩
   ·rw[yQ]at h;exact wpAny_eqBool_int h
   ·rw[yL]at h;exact SeqAt.EqAt.int_str i t y u _ _ _ _ h
  ·rcases bA c with⟨j,u,rfl,rfl⟩|⟨y,u,rfl,rfl⟩
   ·rw[yz]at h;exact SeqAt.EqAt.str_int x t j u _ _ _ _ h
   ·rw[y1]at h;exact wpAny_eqBool_str h
 «strs»:=λk x t v h=>by
  rcases bA h with⟨i,u,rfl,e⟩|⟨y,u,rfl,e⟩
  ·exact nomatch e
  ·injection e with e1 _;subst e1;cases v<;>rfl
inductive V where
 |non|bl (b:Bool)|int (i:Int)|str (x:Yg)|byt (b:Array UInt8)|flt (b:UInt64)|ref (a:Yf)|ty (n:String)
 deriving DecidableEq
variable{xs vs:List V}{v y:V}{Zf:List (l9×V)}
def RelV:V->Yd->Prop
 | .non,u=>u=Cz
 | .bl b,u=>u=Dm b
 | .int i,u=>∃t,u=FP i t
 | .str x,u=>∃t,u=EW x t
 | .byt b,u=>∃t,u=HK b t
 | .flt b,u=>∃t,u=Gj b t
 | .ref a,u=>u=YZ a
 | .ty n,u=>u=pw n
abbrev Vals:List V->List Yd->Prop:=D7 RelV
theorem Vals.length(r:Vals xs us):xs.length=us.length:=Paired.length r
theorem Vals.get:∀{xs:List V} {us:List Yd} {i:Nat} {x:V},Vals xs us->xs[i]?=Ya x->∃u,us[i]?=Ya u/\RelV x u:=by
 intro a b i x w
 induction w generalizing i with
 |nil=>exact λe=>by simp at e
 |cons r _ ih=>
  intro e;cases i with
  |zero=>simp at e;subst e;exact⟨_,rfl,r⟩
  |succ i=>
   obtain⟨p,h1,h2⟩:=ih (i:=i) (by simpa using e);exact⟨p,by simpa using h1,h2⟩
theorem Vals.set{x:V}{u:Yd}(r:RelV x u):∀{xs:List V} {us:List Yd} (i:Nat),Vals xs us->Vals (xs.set i x) (us.set i u)
 |_,_,_,.nil=>.nil
 |_,_,0,.cons _ t=>.cons r t
 |_,_,i+ 1,.cons q t=>.cons q (Vals.set r i t)
theorem Vals.append:∀{xs e:List V} {us f:List Yd},Vals xs us->Vals e f->Vals (xs++e) (us++f):=by
 intro a b c d w h
 induction w with
 |nil=>exact h
 |cons r _ ih=>exact .cons r ih
theorem Vals.take:∀{xs:List V} {us:List Yd} (n:Nat),Vals xs us->Vals (xs.take n) (us.take n)
 |_,_,0,_=>.nil
 |_,_,_+ 1,.nil=>.nil
 |_,_,n+ 1,.cons r t=>.cons r (Vals.take n t)
theorem Vals.drop:∀{xs:List V} {us:List Yd} (n:Nat),Vals xs us->Vals (xs.drop n) (us.drop n)
 |_,_,0,r=>r
 |_,_,_+ 1,.nil=>.nil
 |_,_,n+ 1,.cons _ t=>Vals.drop n t
def mC:Option V->Option Yd->Prop
 |some v,Ya u=>RelV v u
 |none,Yb=>True
 |_,_=>False
def KV{κ:Type}:List (κ×V)->List (κ×Yd)->Prop:=D7 fun(p:κ×V) (q:κ×Yd)=>p.1=q.1/\RelV p.2 q.2
noncomputable def kV:l9->V
 | .inl i=>.int i
 | .inr x=>.str x
inductive HO where
 |lst (xs:List V)
 |tup (xs:List V)
 |dK (Zf:List (l9×V))|dT (Zf:List (List l9×V))
 |set (S:Int->Bool) (n:Nat)
 |ins (C dx:Yf) (fs:List (Yg×V))
 |own (x:Yf)
 |xd (fs:List (Yg×V))
 |met (f x:Yf)
 |rng (lo hi:Int)
 |frz (o:Y1) (u:HO)
 |tbl (ps:Array Yd)
 |ext (φ:YF->Prop)
variable{o:HO}
abbrev Hp:=Yf->Option HO
variable{H H':Hp}{R:V->V->Hp->Prop}
noncomputable def upd(H:Hp)(a:Yf)(o:HO):Hp:=λb=>if b=a then Ya o else H b
theorem aI:upd H a o a=Ya o:=by unfold upd;rw[if_pos rfl]
theorem aR(h:b≠a):upd H a o b=H b:=by unfold upd;rw[if_neg h]
theorem xP{u:HO}(h:H a=Ya o)(h':H b=Ya u)(d:o≠u):a≠b:=by
 intro e;subst e;rw[h]at h';exact d (Yy h')
theorem aW(h:H a=Ya o)(h':H b=Yb):a≠b:=by
 intro e;subst e;rw[h]at h';cases h'
def f6(h:YF)(a:Yf)(items:Array Yd):Prop:=∃o,h.get? a=Ya o/\o.cls=.type "tuple"/\∃n,o.data=.seq items n/\o.dict=Yb/\o.slots=#[]
theorem f6.tup(x:f6 h a items):IsTup h a items:=let ⟨o,e,c,n,d,_⟩:=x;⟨o,e,c,n,d⟩
theorem f6.lt(x:f6 h a items):a<h.objs.size:=x.tup.lt
theorem f6.new(h:YF)(items:Array Yd):f6 (h.push {cls:=.type "tuple",data:=.seq items}) h.objs.size items:=⟨_,Yu _ rfl,rfl,_,rfl,rfl,rfl⟩
theorem f6.obj(x:f6 h a items):∃n,h.get? a=Ya {cls:=.type "tuple",dict:=Yb,data:=.seq items n,slots:=#[]}:=by
 obtain⟨⟨c,d,t,l⟩,e,b,n,f,g,i⟩:=x;cases b;cases f;cases g;cases i;exact⟨n,e⟩
section
variable(P:YB)(w:YG)
def bU(H:Hp)(h:YF)(a:Yf):HO->Prop
 | .lst xs=>xs.length<=Yp/\∃(c:List Yd) (n:Nat),Vals xs c/\h.get? a=Ya {cls:=.type "list",data:=.seq c.toArray n}
 | .tup xs=>xs.length<=Yp/\∃c:List Yd,Vals xs c/\f6 h a c.toArray
 | .dK Zf=>Zf.length<=Yp/\(a==Ez)=false/\∃d,KV Zf d/\h.DictOf (om P w) a d
 | .dT Zf=>Zf.length<=Yp/\(a==Ez)=false/\∃xs:List (List l9×Yf×Yd),
   D7 (fun(p:List l9×V) (q:List l9×Yf×Yd)=>p.1=q.1/\H q.2.1=Ya (.tup (p.1.map kV))/\RelV p.2 q.2.2) Zf xs/\
   ∃o e g,h.get? a=Ya o/\o.ExactDict/\o.data=.dict e g/\e.toList=xs.map (entryOfKey (tupleKind (om P w)))/\(xs.map (·.1)).Nodup
 | .set S n=>h.SetOf (xc P w) a S n
 | .ins C dx fs=>H dx=Ya (.own a)/\fs.length<=1000/\dx≠a/\h.get? a=Ya (xk C dx)/\
   ∃b,h.Ns1 dx b/\(∀f,mC (fs.lookup f) (b f))/\FQ b (fs.map (·.1))
 | .own _=>∃o,h.get? a=Ya o
 | .xd fs=>∃b,h.Ns1 a b/\∀f,mC (fs.lookup f) (b f)
 | .rng lo hi=>∃t u v,h.get? a=Ya {cls:=.type "range",data:=.fields #[.int lo t,.int hi u,.int 1 v]}
 | .frz o u=>h.get? a=Ya o/\bU H h a u
 | .tbl ps=>h.get? a=Ya {cls:=.none,data:=.fields ps}
 | .met f x=>h.get? a=Ya (Er (.ref f) (.ref x))
 | .ext φ=>φ h/\(∃o,h.get? a=Ya o)/\∀h1 h2:YF,φ h1->(∀o,h1.get? a=Ya o->h2.get? a=Ya o)->φ h2
def gS(H:Hp)(h:YF):Prop:=∀a o,H a=Ya o->bU P w H h a o
end
section
variable{w:YG}
theorem bU.lt(x:bU P w H h a o):a<h.objs.size:=by
 cases o with
 |lst xs=>obtain⟨_,_,_,_,e⟩:=x;exact Yq e
 |tup xs=>obtain⟨_,_,_,p⟩:=x;exact p.lt
 |dK Zf=>obtain⟨_,_,_,_,o,_,_,e,_⟩:=x;exact Yq e
 |dT Zf=>obtain⟨_,_,_,_,o,_,_,e,_⟩:=x;exact Yq e
 |set S n=>obtain⟨o,_,_,_,e,_⟩:=x;exact Yq e
 |ins C dx fs=>obtain⟨_,_,_,e,_⟩:=x;exact Yq e
 |own y=>obtain⟨_,e⟩:=x;exact Yq e
 |xd fs=>obtain⟨_,⟨_,_,_,e,_⟩,_⟩:=x;exact Yq e
 |rng lo hi=>obtain⟨_,_,_,e⟩:=x;exact Yq e
 |frz ob u=>obtain⟨e,_⟩:=x;exact Yq e
 |tbl ps=>exact Yq (show h.get? a=Ya _ from x)
 |met f y=>exact Yq (show h.get? a=Ya _ from x)
 |ext φ=>obtain⟨_,⟨_,e⟩,_⟩:=x;exact Yq e
theorem D7.mapP{α β:Type}{F G:α->β->Prop}:∀{c:List α} {d:List β},D7 F c d->(∀a b,F a b->G a b)->D7 G c d:=by
 intro a b w f
 induction w with
 |nil=>exact .nil
 |cons r _ ih=>exact .cons (f _ _ r) ih
theorem bU.stay(x:bU P w H h a o)(k:∀b u,(b=a∨H b=Ya (.own a))->h.get? b=Ya u->h'.get? b=Ya u)
  (s:∀b,H b=Ya (.own a)->H' b=Ya (.own a)) (A:∀b xs,H b=Ya (.tup xs)->H' b=Ya (.tup xs)):bU P w H' h' a o:=by
 induction o with
 |lst xs=>obtain⟨z,j,n,r,e⟩:=x;exact⟨z,j,n,r,k _ _ (.inl rfl) e⟩
 |tup xs=>obtain⟨z,j,r,ob,e,c⟩:=x;exact⟨z,j,r,ob,k _ _ (.inl rfl) e,c⟩
 |dK Zf=>obtain⟨z,y,B,r,ob,g,i,e,c⟩:=x;exact⟨z,y,B,r,ob,g,i,k _ _ (.inl rfl) e,c⟩
 |dT Zf=>
  obtain⟨z,y,xs,r,ob,g,i,e,c⟩:=x;exact⟨z,y,xs,D7.mapP r λp q z=>⟨z.1,A _ _ z.2.1,z.2.2⟩,ob,g,i,k _ _ (.inl rfl) e,c⟩
 |set S n=>obtain⟨ob,g,i,t,e,c⟩:=x;exact⟨ob,g,i,t,k _ _ (.inl rfl) e,c⟩
 |ins C dx fs=>
  obtain⟨d,z,ne,e,l,⟨m,g,i,D,c⟩,r⟩:=x;exact⟨s _ d,z,ne,k _ _ (.inl rfl) e,l,⟨m,g,i,k _ _ (.inr d) D,c⟩,r⟩
 |own y=>obtain⟨ob,e⟩:=x;exact⟨ob,k _ _ (.inl rfl) e⟩
 |xd fs=>obtain⟨l,⟨m,g,i,e,c⟩,r⟩:=x;exact⟨l,⟨m,g,i,k _ _ (.inl rfl) e,c⟩,r⟩
 |rng lo hi=>obtain⟨t,u,v,e⟩:=x;exact⟨t,u,v,k _ _ (.inl rfl) e⟩
 |frz ob u ih=>obtain⟨e,q⟩:=x;exact⟨k _ _ (.inl rfl) e,ih q⟩
 |tbl ps=>
  have e:h.get? a=Ya {cls:=.none,data:=.fields ps}:=x;show h'.get? a=Ya {cls:=.none,data:=.fields ps};exact k a _ (.inl rfl) e
 |met f y=>
  have e:h.get? a=Ya (Er (.ref f) (.ref y)):=x;show h'.get? a=Ya (Er (.ref f) (.ref y));exact k a _ (.inl rfl) e
 |ext φ=>obtain⟨p,⟨o,e⟩,st⟩:=x;exact⟨st _ _ p λo q=>k _ _ (.inl rfl) q,⟨o,k _ _ (.inl rfl) e⟩,st⟩
theorem gS.lt(x:gS P w H h)(e:H a=Ya o):a<h.objs.size:=(x a o e).lt
theorem gS.fresh(x:gS P w H h)(e:h.objs.size<=a):H a=none:=by
 cases q:H a with
 |none=>rfl
 |some u=>exact absurd (Yv (x.lt q) e) (xg _)
theorem gS.kept(x:gS P w H h)(k:∀b u,h.get? b=Ya u->h'.get? b=Ya u):gS P w H h':=λa o e=>
 (x a o e).stay (λb u _ q=>k b u q) (λ_ q=>q) λ_ _ q=>q
theorem gS.laid(x:gS P w H h)(k:∀b u,h.get? b=Ya u->h'.get? b=Ya u)(d:h.objs.size<=a)(new:bU P w (upd H a o) h' a o):gS P w (upd H a o) h':=λb u e=>by
 have hn:=x.fresh d;by_cases hb:b=a
 ·subst hb;rw[aI]at e;cases e;exact new
 ·rw[aR hb]at e;exact(x b u e).stay (λc v _ q=>k c v q) (λc q=>by rw[aR (aW q hn)];exact q) λc f q=>by rw[aR (aW q hn)];exact q
end
def Rd(H:Hp)(a:Yf)(u:HO):Prop:=H a=Ya u∨∃o,H a=Ya (.frz o u)
theorem Rd.ok{w:YG}{u:HO}(r:Rd H a u)(x:gS P w H h):bU P w H h a u:=by
 rcases r with r|⟨o,r⟩
 ·exact x a u r
 ·obtain⟨_,q⟩:=x a _ r;exact q
def AM:Option HO->Prop
 |some (.lst _)=>True
 |some (.dK _)=>True
 |some (.dT _)=>True
 |some (.set _ _)=>True
 |some (.ins _ _ _)=>True
 |some (.ext _)=>True
 |_=>False
section
variable{w:YG}{x e:Yf}{o':HO}
theorem gS.write(ok:gS P w H h)(g:AM (H x))(l:e=x∨H e=Ya (.own x))(k:∀b u,b≠e->h.get? b=Ya u->h'.get? b=Ya u)(j:∃u,h'.get? e=Ya u)
  (new:bU P w (upd H x o') h' x o'):gS P w (upd H x o') h':=λb u q=>by
 have d:∀c y,H c=Ya (.own y)->c≠x:=λc y r z=>by subst z;rw[r]at g;exact g
 have f:∀c i,H c=Ya (.tup i)->c≠x:=λc i r z=>by subst z;rw[r]at g;exact g
 by_cases hb:b=x
 ·subst hb;rw[aI]at q;cases q;exact new
 ·rw[aR hb]at q;by_cases a:b=e
  ·have m:H b=Ya (.own x):=by
    rcases l with z|z
    ·exact absurd (a.trans z) hb
    ·rw[a];exact z
   rw[q]at m;cases m;obtain⟨v,n⟩:=j;exact⟨v,by rw[a];exact n⟩
  ·refine(ok b u q).stay (λc v hc r=>k c v ?_ r) (λc r=>by rw[aR (d c b r)];exact r) λc i r=>by rw[aR (f c i r)];exact r
   rcases hc with rfl|hc
   ·exact a
   ·rintro rfl;rcases l with z|z
    ·exact d c b hc z
    ·rw[hc]at z;cases z;exact hb rfl
end
structure Un(fs ex:List Yf)(H H':Hp)(h h':YF):Prop where
 keep:∀b o,h.get? b=Ya o->H b=Yb->b∉fs->b∉ex->h'.get? b=Ya o
 slot:∀b o,h.get? b=Ya o->H b=Yb->b∈fs->b∉ex->∃sl,h'.get? b=Ya {o with slots:=sl}
 free:∀b o,h.get? b=Ya o->H b=Yb->b∉ex->H' b=Yb
 there:∀b o,h.get? b=Ya o->b∉ex->∃o',h'.get? b=Ya o'
 tups:∀b xs,H b=Ya (.tup xs)->H' b=Ya (.tup xs)
 frzs:∀b o u,H b=Ya (.frz o u)->H' b=Ya (.frz o u)
 tbls:∀b ps,H b=Ya (.tbl ps)->∃more,H' b=Ya (.tbl (ps++more))
section
variable{fs fs' ex ex':List Yf}{H1 H2:Hp}{h1 h2:YF}{x e:Yf}
theorem Un.any(u:Un fs ex H H1 h h1){ob:Y1}(q:h.get? b=Ya ob)(n:H b=Yb)(a:b∉ex):∃c,h1.get? b=Ya {ob with slots:=c}:=by
 by_cases hb:b∈fs
 ·exact u.slot b ob q n hb a
 ·exact⟨ob.slots,u.keep b ob q n hb a⟩
theorem Un.kept(k:∀b u,h.get? b=Ya u->h'.get? b=Ya u):Un fs ex H H h h':=
 ⟨λb ob q _ _ _=>k b ob q,λb ob q _ _ _=>⟨ob.slots,k b ob q⟩,λ_ _ _ n _=>n,λb ob q _=>⟨ob,k b ob q⟩,λ_ _ q=>q,λ_ _ _ q=>q,λ_ a q=>⟨#[],by rw[q];simp⟩⟩
theorem Un.refl:Un fs ex H H h h:=Un.kept λ_ _ q=>q
theorem Un.laid(k:∀b u,h.get? b=Ya u->h'.get? b=Ya u)(c:h.objs.size<=a)(hn:H a=Yb):Un fs ex H (upd H a o) h h' where
 keep:=λb u q _ _ _=>k b u q
 slot:=λb u q _ _ _=>⟨u.slots,k b u q⟩
 free:=λb u q n _=>by rw[aR (YD (Yv (Yq q) c))];exact n
 there:=λb u q _=>⟨u,k b u q⟩
 tups:=λb d q=>by rw[aR (aW q hn)];exact q
 frzs:=λb u d q=>by rw[aR (aW q hn)];exact q
 tbls:=λb e q=>⟨#[],by rw[aR (aW q hn),q];simp⟩
theorem Un.write(c:AM (H x))(g:e=x∨H e=Ya (.own x))(k:∀b u,b≠e->h.get? b=Ya u->h'.get? b=Ya u)(d:∃u,h'.get? e=Ya u):Un fs ex H (upd H x o) h h':=by
 have f:∀b,H b=Yb->b≠x:=λb n z=>by subst z;rw[n]at c;exact c
 have hb:∀b,H b=Yb->b≠e:=λb n z=>by
  subst z;rcases g with r|r
  ·exact f b n r
  ·rw[n]at r;cases r
 have hm:∀b u,H b=Ya u->¬ AM (Ya u)->b≠x:=λb u q i z=>by subst z;rw[q]at c;exact i c
 refine⟨λb u q n _ _=>k b u (hb b n) q,λb u q n _ _=>⟨u.slots,k b u (hb b n) q⟩,λb u q n _=>by rw[aR (f b n)];exact n,λb u q _=>?_,
  λb j q=>by rw[aR (hm b _ q λz=>z)];exact q,λb u j q=>by rw[aR (hm b _ q λz=>z)];exact q,λb l q=>⟨#[],by rw[aR (hm b _ q λz=>z),q];simp⟩⟩
 by_cases a:b=e
 ·subst a;exact d
 ·exact⟨u,k b u a q⟩
end
noncomputable def AL(h:YF)(H:Hp):List Yf:=(Dq h.objs.size).filter λa=>(H a).isSome
noncomputable def nF(h:YF)(H:Hp):YF:=kv h (AL h H)
theorem rW(h:YF)(H:Hp):(nF h H).objs.size=h.objs.size:=PySem.W.hideAll_size _ _
theorem uj{o:Y1}(e:h.get? b=Ya o)(n:H b=Yb):(nF h H).get? b=Ya o:=
 C4 _ e λhm=>by
  have q:(H b).isSome=true:=(GG.mp hm).2;rw[n]at q;simp at q
theorem vO{o:Y1}(e:(nF h H).get? b=Ya o):h.get? b=Ya o/\H b=none:=by
 have a:h.get? b=Ya o:=D8 (AL h H) e;refine⟨a,?_⟩;cases q:H b with
 |none=>rfl
 |some x=>
  have hm:b∈AL h H:=GG.mpr ⟨CK.mpr (Yq a),by simp[q]⟩;have z:(nF h H).get? b=none:=Fs (AL h H) hm;rw[z]at e;cases e
structure Mod(K:Yc)(mg:Yg->Option Yd)(base:YF):Prop where
 kin:K.In base
 glob:base.Ns YC mg
 blt:∃mb,base.Ns GH mb/\∀x:Yg,x≠"__name__"->mb x=Cm x
 nolimit:base.NoLimit
structure Cx where
 prog:YB
 w:YG
 K:Yc
 mg:Yg->Option Yd
 base:YF
 A:Y2
 N:List Yg
 s₀:Yh
 H₀:Hp
 env:BW
 outer:List BW
 stack:List BW
 ex:List Yf
 fn:Yg->Bool
 calm:Bool
 pn:List (Yf×Y1)
 xe:Yd->Yh->Prop
variable{w:YG}{X:Cx}{N:List Yg}{A:Y2}{prog:YB}{mg:Yg->Option Yd}{outer:List BW}
noncomputable def cP(l:List BW):List Yf:=l.filterMap (·.frame)
noncomputable abbrev Cx.fs(X:Cx):List Yf:=cP X.outer
variable{fs:List (Yg×V)}
def Bs(sc:Cg)(x:Yg):Prop:=sc.names.lookup x=Ya .local∨sc.names.lookup x=Ya .cell∨sc.names.lookup x=Ya .free
def zO(sc:Cg)(x:Yg):Prop:=sc.names.lookup x=Ya .local∨sc.names.lookup x=Ya .cell
def Bd(env:BW)(h:YF)(m:Yg->Option Yd)(x:Yg)(u:Yd):Prop:=
 (env.kindOf x=Ya .local/\m x=Ya u)∨((env.kindOf x=Ya .cell∨env.kindOf x=Ya .free)/\∃c,env.cells.lookup x=Ya c/\h.IsCell c (Ya u))
structure Cx.Ok(X:Cx):Prop where
 mod:Mod X.K X.mg X.base
 kind:X.env.scope.kind=.function
 glob:X.env.globals=YC
 blt:X.env.builtins=GH
 above:X.s₀.heap.objs.size<=X.env.locals
 inj:∀x y c,X.env.cells.lookup x=Ya c->X.env.cells.lookup y=Ya c->x=y
 has:∀x,(X.env.kindOf x=Ya .cell∨X.env.kindOf x=Ya .free)->∃c,X.env.cells.lookup x=Ya c
 cab:∀x c,X.fn x=true->X.env.cells.lookup x=Ya c->X.s₀.heap.objs.size<=c
 hd:X.calm=true->X.A.handled=Yb
 frames:X.A.frames=Ya X.stack
 stk:X.stack=X.outer∨(X.stack=X.env::X.outer/\X.env.frame=Ya X.env.locals)
 exf:∀b∈X.ex,b≠X.env.locals/\∀x c,X.env.cells.lookup x=Ya c->c≠b
 bs:∀b o,X.base.get? b=Ya o->X.s₀.heap.get? b=Ya o/\X.H₀ b=Yb
 bsz:X.base.objs.size<=X.s₀.heap.objs.size
 noex:∀b o,X.base.get? b=Ya o->b∉X.ex
 exfs:∀b∈X.ex,b∉X.fs
 funs:X.s₀.heap.FunFrames X.base X.outer
 frf:∀b∈X.fs,X.H₀ b=Yb
structure aC(X:Cx)(Za:List (Yf×Y1))(σ:List (Option V))(H:Hp)(s:Yh):Prop where
 ok:X.Ok
 os:s.os=X.s₀.os
 bare:C1 s.gens
 base:Un X.fs X.ex X.H₀ H X.s₀.heap s.heap
 loc:∃m,s.heap.Ns X.env.locals m/\∀(i:Nat) (x:Yg) (v:V),X.N[i]?=Ya x->σ[i]?=Ya (Ya v)->Bs X.env.scope x->∃u,RelV v u/\Bd X.env s.heap m x u
 cell:∀x c,X.env.cells.lookup x=Ya c->∃v,s.heap.IsCell c v
 free:H X.env.locals=Yb
 freeC:∀x c,X.env.cells.lookup x=Ya c->H c=Yb
 pin:∀p∈X.pn++Za,s.heap.get? p.1=Ya p.2/\H p.1=Yb/\p.1≠X.env.locals/\p.1∉X.fs/\∀v,p.2.data≠.cell v
 hok:gS X.prog X.w H s.heap
 len:σ.length=X.N.length
variable{base:YF}
section
variable{σ:List (Option V)}
theorem Cx.Ok.nofr(ok:X.Ok){o:Y1}(e:X.base.get? b=Ya o):b∉X.fs:=λhb=>by
 have:=(ok.funs.mem hb).1;rw[e]at this;cases this
theorem aC.bs(I:aC X Za σ H s):∀b o,X.base.get? b=Ya o->s.heap.get? b=Ya o/\H b=none:=λb o e=>
 ⟨I.base.keep b o (I.ok.bs b o e).1 (I.ok.bs b o e).2 (I.ok.nofr e) (I.ok.noex b o e),I.base.free b o (I.ok.bs b o e).1 (I.ok.bs b o e).2 (I.ok.noex b o e)⟩
theorem aC.bk(I:aC X Za σ H s):∀b o,X.base.get? b=Ya o->s.heap.get? b=Ya o:=λb o e=>(I.bs b o e).1
theorem aC.mod(I:aC X Za σ H s):Mod X.K X.mg X.base:=I.ok.mod
theorem aC.kIn(I:aC X Za σ H s):X.K.In s.heap:=I.ok.mod.kin.keeps I.bk
theorem aC.lt(I:aC X Za σ H s):X.env.locals<s.heap.objs.size:=let ⟨_,hn,_⟩:=I.loc;hn.lt
theorem aC.sz(I:aC X Za σ H s):X.s₀.heap.objs.size<=s.heap.objs.size:=YI I.ok.above (De I.lt)
theorem aC.nofs(I:aC X Za σ H s)(h:s.heap.objs.size<=a):a∉X.fs:=λhb=>by
 obtain⟨_,o,b,_⟩:=I.ok.funs.mem hb;exact absurd (Yv (Yq b) (YI I.sz h)) (xg _)
theorem aC.cne(I:aC X Za σ H s):∀x c,X.env.cells.lookup x=Ya c->c≠X.env.locals:=λx c e z=>by
 obtain⟨v,o,d,hd⟩:=I.cell x c e;obtain⟨m,⟨f,g,h,a,b,_⟩,_⟩:=I.loc;rw[z,a]at d;cases d;rw[b]at hd;cases hd
theorem aC.funs(I:aC X Za σ H s):s.heap.FunFrames X.base X.outer:=by
 have all:∀(l:List BW),(∀b∈cP l,b∈X.fs)->X.s₀.heap.FunFrames X.base l->s.heap.FunFrames X.base l:=by
  intro l
  induction l with
  |nil=>intro _ _;trivial
  |cons env r ih=>
   intro d f;obtain⟨g,⟨L,o,a,hn,h,hd⟩,i⟩:=f;have c:L∈X.fs:=d L (by unfold cP;rw[xf,a];exact YL);obtain⟨j,e⟩:=I.base.slot L o h (I.ok.frf L c) c λz=>I.ok.exfs L z c;exact⟨g,⟨L,_,a,hn,e,hd⟩,ih (λb hb=>d b (by unfold cP;rw[xf,a];exact Yw _ hb)) i⟩
 exact all X.outer (λ_ hb=>hb) I.ok.funs
theorem aC.stack(I:aC X Za σ H s):s.heap.FunFrames X.base X.stack:=by
 rcases I.ok.stk with e|⟨e,a⟩
 ·rw[e];exact I.funs
 ·rw[e];obtain⟨m,hn,_⟩:=I.loc;refine .cons (by rw[I.ok.kind];decide) a hn ?_ I.funs;exact CP (YI I.ok.bsz I.ok.above)
theorem aC.stkSub(I:aC X Za σ H s):∀b∈cP X.stack,b∈X.env.locals::X.fs:=λb hb=>by
 rcases I.ok.stk with e|⟨e,a⟩
 ·rw[e]at hb;exact Yw _ hb
 ·rw[e]at hb;unfold cP at hb;rw[xf,a]at hb;exact hb
theorem aC.stkFree(I:aC X Za σ H s):∀b∈cP X.stack,H b=none:=λb hb=>by
 rcases YK.mp (I.stkSub b hb)with e|hb
 ·rw[e];exact I.free
 ·obtain⟨_,o,a,_⟩:=I.ok.funs.mem hb;exact I.base.free b o a (I.ok.frf b hb) λz=>I.ok.exfs b z hb
theorem aC.step(I:aC X Za σ H s)(f:∀b∈ch,(b∈X.ex∨X.s₀.heap.objs.size<=b)/\b≠X.env.locals/\(∀x c,X.env.cells.lookup x=Ya c->c≠b)/\∀p∈X.pn++Za,p.1≠b)(keep:∀b o,b≠X.env.locals->b∉X.fs->b∉ch->s.heap.get? b=Ya o->H b=Yb->h'.get? b=Ya o)(slot:∀b o,b≠X.env.locals->b∈X.fs->b∉ch->s.heap.get? b=Ya o->H b=Yb->∃C,h'.get? b=Ya {o with slots:=C})(free:∀b o,b∉ch->s.heap.get? b=Ya o->H b=Yb->H' b=Yb)(there:∀b o,b∉ch->s.heap.get? b=Ya o->∃y,h'.get? b=Ya y)(tups:∀b xs,H b=Ya (.tup xs)->H' b=Ya (.tup xs))(frzs:∀b o u,H b=Ya (.frz o u)->H' b=Ya (.frz o u))(tbls:∀b ps,H b=Ya (.tbl ps)->∃more,H' b=Ya (.tbl (ps++more)))(ns:∀m,s.heap.Ns X.env.locals m->h'.Ns X.env.locals m)(hok:gS X.prog X.w H' h')(G:C1 g'):
  aC X Za σ H' {s with heap:=h',gens:=g',drawn:=d',toks:=t'}:=by
 have A:∀b o,X.s₀.heap.get? b=Ya o->b≠X.env.locals:=λb o e=>YD (Yv (Yq e) I.ok.above);have j:∀b o,X.s₀.heap.get? b=Ya o->b∉X.ex->b∉ch:=λb o e a hb=>by
  rcases(f b hb).1 with z|z
  ·exact a z
  ·exact absurd (Yv (Yq e) z) (xg _)
 have g:∀x c,X.env.cells.lookup x=Ya c->∀v,s.heap.IsCell c v->h'.IsCell c v:=λx c e v ⟨o,w,hd⟩=>by
  have h:c∉ch:=λz=>(f c z).2.2.1 x c e rfl;by_cases hc:c∈X.fs
  ·obtain⟨C,q⟩:=slot c o (I.cne x c e) hc h w (I.freeC x c e);exact⟨_,q,hd⟩
  ·exact⟨o,keep c o (I.cne x c e) hc h w (I.freeC x c e),hd⟩
 refine⟨I.ok,I.os,G,⟨λb o e n hb a=>?_,λb o e n hb a=>?_,λb o e n a=>?_,λb o e a=>?_,λb xs e=>tups b xs (I.base.tups b xs e),λb o xs e=>frzs b o xs (I.base.frzs b o xs e),λb ps e=>?_⟩,?_,λx c e=>?_,?_,λx c e=>?_,λp E=>?_,hok,I.len⟩
 ·exact keep b o (A b o e) hb (j b o e a) (I.base.keep b o e n hb a) (I.base.free b o e n a)
 ·obtain⟨C,t⟩:=I.base.slot b o e n hb a;obtain⟨D,B⟩:=slot b _ (A b o e) hb (j b o e a) t (I.base.free b o e n a);exact⟨D,B⟩
 ·obtain⟨y,t⟩:=I.base.there b o e a;exact free b y (j b o e a) t (I.base.free b o e n a)
 ·obtain⟨y,t⟩:=I.base.there b o e a;exact there b y (j b o e a) t
 ·obtain⟨J,t⟩:=I.base.tbls b ps e;obtain⟨K,B⟩:=tbls b _ t;exact⟨J++K,by rw[B,D9]⟩
 ·obtain⟨m,hn,L⟩:=I.loc;refine⟨m,ns m hn,λi x v t B M=>?_⟩;obtain⟨u,r,l⟩:=L i x v t B M;refine⟨u,r,?_⟩;rcases l with l|⟨k,c,e,z⟩
  ·exact .inl l
  ·exact .inr ⟨k,c,e,g x c e _ z⟩
 ·obtain⟨v,z⟩:=I.cell x c e;exact⟨v,g x c e v z⟩
 ·obtain⟨m,⟨o,_,_,w,_⟩,_⟩:=I.loc;exact free _ o (λz=>(f _ z).2.1 rfl) w I.free
 ·obtain⟨v,o,w,hd⟩:=I.cell x c e;exact free c o (λz=>(f c z).2.2.1 x c e rfl) w (I.freeC x c e)
 ·obtain⟨e,n,ne,F,d⟩:=I.pin p E;have h:p.1∉ch:=λz=>(f p.1 z).2.2.2 p E rfl;exact⟨keep p.1 p.2 ne F h e n,free p.1 p.2 h e n,ne,F,d⟩
theorem aC.un(I:aC X Za σ H s)(u:Un X.fs [] H H' s.heap h')(hok:gS X.prog X.w H' h'):aC X Za σ H' {s with heap:=h',toks:=t'}:=by
 obtain⟨m,⟨o,i,j,d,r⟩,_⟩:=id I.loc;obtain⟨k,f⟩:=u.any d I.free (by simp);exact I.step (g':=s.gens) (d':=s.drawn) (ch:=[]) (λ_ z=>nomatch z) (λb o _ hb _ e n=>u.keep b o e n hb (by simp)) (λb o _ hb _ e n=>u.slot b o e n hb (by simp)) (λb o _ e n=>u.free b o e n (by simp)) (λb o _ e=>u.there b o e (by simp)) u.tups u.frzs u.tbls (λl hm=>by
  obtain⟨p,g,c,a,h⟩:=hm;rw[d]at a;cases a;exact⟨_,g,c,f,h⟩) hok I.bare
theorem aC.call(I:aC X Za σ H s)(u:Un (cP X.stack) ch H H' s.heap h')(hok:gS X.prog X.w H' h')(i:C1 g')(a:∀b∈ch,(b∈X.ex∨X.s₀.heap.objs.size<=b)/\b≠X.env.locals/\(∀x c,X.env.cells.lookup x=Ya c->c≠b)/\∀p∈X.pn++Za,p.1≠b):
  aC X Za σ H' {s with heap:=h',gens:=g',drawn:=d',toks:=t'}:=by
 obtain⟨m,⟨o,l,q,h,r⟩,_⟩:=id I.loc;obtain⟨t,f⟩:=u.any h I.free λz=>(a _ z).2.1 rfl;exact I.step (ch:=ch) a (λb o f hb hc e n=>u.keep b o e n (λz=>(YK.mp (I.stkSub b z)).elim f hb) hc) (λb o _ _ hc e n=>u.any e n hc) (λb o hc e n=>u.free b o e n hc) (λb o hc e=>u.there b o e hc) u.tups u.frzs u.tbls (λv hm=>by
  obtain⟨w,j,g,d,k⟩:=hm;rw[h]at d;cases d;exact⟨_,j,g,f,k⟩) hok i
theorem aC.turned(I:aC X Za σ H s)(k:∀b o,b≠it->s.heap.get? b=Ya o->h'.get? b=Ya o)(hn:H it=Yb)(d:it≠X.env.locals)(h1:it∈X.ex∨X.s₀.heap.objs.size<=it)(h2:∀x c,X.env.cells.lookup x=Ya c->c≠it)(h3:∀p∈X.pn++Za,p.1≠it):aC X Za σ H {s with heap:=h',toks:=t'}:=by
 have a:∀b u,H b=Ya u->b≠it:=λb u e z=>by rw[z,hn]at e;cases e
 refine I.step (g':=s.gens) (d':=s.drawn) (ch:=[it]) (λb hb=>?_) (λb o _ _ hc e _=>k b o (λz=>hc (by simp[z])) e) (λb o _ _ hc e _=>⟨o.slots,k b o (λz=>hc (by simp[z])) e⟩) (λ_ _ _ _ n=>n)
  (λb o hc e=>⟨o,k b o (λz=>hc (by simp[z])) e⟩) (λ_ _ e=>e) (λ_ _ _ e=>e) (λb i e=>⟨#[],by rw[e];simp⟩) (λm hm=>?_) (λb u e=>?_) I.bare
 ·have e:b=it:=by simpa using hb
  subst e;exact⟨h1,d,h2,h3⟩
 ·obtain⟨o,f,g,h,r⟩:=hm;exact⟨o,f,g,k _ o (Ne.symm d) h,r⟩
 ·refine(I.hok b u e).stay (λc v hc q=>k c v ?_ q) (λ_ q=>q) λ_ _ q=>q;rcases hc with z|z
  ·rw[z];exact a b u e
  ·exact a c _ z
theorem aC.tok(I:aC X Za σ H s)(t:Nat):aC X Za σ H {s with toks:=t}:=I.un (h':=s.heap) (t':=t) Un.refl I.hok
theorem aC.kept(I:aC X Za σ H s)(k:∀b u,s.heap.get? b=Ya u->h'.get? b=Ya u):aC X Za σ H {s with heap:=h',toks:=t'}:=I.un (Un.kept k) (I.hok.kept k)
theorem aC.laid(I:aC X Za σ H s)(k:∀b u,s.heap.get? b=Ya u->h'.get? b=Ya u)(c:s.heap.objs.size<=a)(new:bU X.prog X.w (upd H a o) h' a o):
  aC X Za σ (upd H a o) {s with heap:=h',toks:=t'}:=I.un (Un.laid k c (I.hok.fresh c)) (I.hok.laid k c new)
theorem aC.write{x e:Yf}{o:HO}{t':Nat}(I:aC X Za σ H s)(c:AM (H x))(d:e=x∨H e=Ya (.own x))(k:∀b u,b≠e->s.heap.get? b=Ya u->h'.get? b=Ya u)(a:∃u,h'.get? e=Ya u)
  (new:bU X.prog X.w (upd H x o) h' x o):aC X Za σ (upd H x o) {s with heap:=h',toks:=t'}:=I.un (Un.write c d k a) (I.hok.write c d k a new)
theorem aC.pins_of{a:List (Yf×Y1)}(I:aC X Za σ H s)(h:∀p∈a,s.heap.get? p.1=Ya p.2/\H p.1=Yb/\p.1≠X.env.locals/\p.1∉X.fs/\∀v,p.2.data≠.cell v):aC X a σ H s:=
 ⟨I.ok,I.os,I.bare,I.base,I.loc,I.cell,I.free,I.freeC,λp b=>(B0.mp b).elim (λz=>I.pin p (CQ _ z)) (h p),I.hok,I.len⟩
theorem lC(c:N.Nodup)(a:N[i]?=Ya x)(b:N[j]?=Ya x):i=j:=by
 obtain⟨h1,d⟩:=YY.mp a;obtain⟨h2,e⟩:=YY.mp b;exact(List.getElem_inj c).mp (d.trans e.symm)
theorem mW{Q:Unit->Yh->Prop}(I:aC X Za σ H s)(hN:X.N.Nodup)(J:X.N[i]?=Ya x)(t:zO X.env.scope x)(r:RelV v u)(h:∀s',aC X Za (σ.set i (Ya v)) H s'->(∃a,rl a s.heap s'.heap/\(a=X.env.locals∨X.env.cells.lookup x=Ya a))->Q () s')(hf:X.fn x=true∨X.env.scope.names.lookup x=Ya .local:=by first|exact .inl rfl|exact .inr rfl|assumption):Yj M A (storeName X.env x u) Q E s:=by
 obtain⟨m,hn,hl⟩:=id I.loc;have K:(X.env.scope.kind==.class||(X.env.scope.kind==.module&&X.env.locals !=X.env.globals))=false:=by rw[I.ok.kind];rfl
 have L:i<σ.length:=by rw[I.len];exact(YY.mp J).1
 have cne:=I.cne;have g:∀{a:Yf} {G:YF},(∃o,s.heap.get? a=Ya o/\H a=Yb)->rl a s.heap G->gS X.prog X.w H G:=fun{a G} ha f b ob e=>by
  obtain⟨_,_,w⟩:=ha;refine(I.hok b ob e).stay (λc S hc q=>(f.2 c ?_).trans q) (λ_ q=>q) λ_ _ q=>q;rintro rfl;rcases hc with rfl|hc
  ·rw[w]at e;cases e
  ·rw[w]at hc;cases hc
 rcases t with C|C
 ·refine wpAny_storeName_local C hn (λG U f=>?_) K;obtain⟨oL,_,_,V,_⟩:=id hn;refine h _ ⟨I.ok,I.os,I.bare,⟨λb o e n hb t=>?_,λb o e n hb t=>?_,I.base.free,λb o e t=>?_,I.base.tups,I.base.frzs,I.base.tbls⟩,⟨_,U,λj y W l B Y=>?_⟩,λy c e=>?_,I.free,I.freeC,λp Z=>?_,g ⟨oL,V,I.free⟩ f,by simpa using I.len⟩ ⟨_,f,.inl rfl⟩
  ·exact(f.2 b (YD (Yv (Yq e) I.ok.above))).trans (I.base.keep b o e n hb t)
  ·obtain⟨sl,l⟩:=I.base.slot b o e n hb t;exact⟨sl,(f.2 b (YD (Yv (Yq e) I.ok.above))).trans l⟩
  ·obtain⟨o',l⟩:=I.base.there b o e t;exact⟨o',(f.2 b (YD (Yv (Yq e) I.ok.above))).trans l⟩
  ·by_cases D:j=i
   ·subst D;rw[J]at l;cases l;rw[CF L]at B;cases B;exact⟨u,r,.inl ⟨C,by simp⟩⟩
   ·rw[CS (Ne.symm D)]at B;obtain⟨u',r',q⟩:=hl j y W l B Y;refine⟨u',r',?_⟩;rcases q with⟨k,e⟩|⟨k,c,e,z⟩
    ·refine .inl ⟨k,?_⟩;have:y≠x:=λe=>D (lC hN l (e▸J));simp[this,e]
    ·exact .inr ⟨k,c,e,z.sameBut f (cne y c e)⟩
  ·obtain⟨S,z⟩:=I.cell y c e;exact⟨S,z.sameBut f (cne y c e)⟩
  ·obtain⟨e,n,ne,nf,d⟩:=I.pin p Z;exact⟨(f.2 p.1 ne).trans e,n,ne,nf,d⟩
 ·have F:X.fn x=true:=by
   rcases hf with z|z
   ·exact z
   ·rw[z]at C;cases C
  obtain⟨c,hc⟩:=I.ok.has x (.inl C);obtain⟨S,z⟩:=I.cell x c hc;refine wpAny_storeName_cell I.ok.kind C hc z (λG N f=>?_);obtain⟨oc,O,P⟩:=id z;refine h {s with heap:=G} ⟨I.ok,I.os,I.bare,⟨λb o e n hb t=>?_,λb o e n hb t=>?_,I.base.free,λb o e t=>?_,I.base.tups,I.base.frzs,I.base.tbls⟩,⟨m,hn.sameBut f (Ne.symm (cne x c hc)),λj y W l B Y=>?_⟩,λy T e=>?_,I.free,I.freeC,λp Z=>?_,g ⟨oc,O,I.freeC x c hc⟩ f,by simpa using I.len⟩ ⟨c,f,.inr hc⟩
  ·exact(f.2 b (YD (Yv (Yq e) (I.ok.cab x c F hc)))).trans (I.base.keep b o e n hb t)
  ·obtain⟨sl,l⟩:=I.base.slot b o e n hb t;exact⟨sl,(f.2 b (YD (Yv (Yq e) (I.ok.cab x c F hc)))).trans l⟩
  ·obtain⟨o',l⟩:=I.base.there b o e t;exact⟨o',(f.2 b (YD (Yv (Yq e) (I.ok.cab x c F hc)))).trans l⟩
  ·by_cases D:j=i
   ·subst D;rw[J]at l;cases l;rw[CF L]at B;cases B;exact⟨u,r,.inr ⟨.inl C,c,hc,N⟩⟩
   ·rw[CS (Ne.symm D)]at B;obtain⟨u',r',q⟩:=hl j y W l B Y;refine⟨u',r',?_⟩;rcases q with q|⟨k,T,e,z'⟩
    ·exact .inl q
    ·refine .inr ⟨k,T,e,z'.sameBut f ?_⟩;rintro rfl;exact D (lC hN l (I.ok.inj _ _ _ e hc▸J))
  ·by_cases R:T=c
   ·subst R;exact⟨_,N⟩
   ·obtain⟨w2,z2⟩:=I.cell y T e;exact⟨w2,z2.sameBut f R⟩
  ·obtain⟨e,n,ne,nf,d⟩:=I.pin p Z;refine⟨(f.2 p.1 ?_).trans e,n,ne,nf,d⟩;intro q;rw[q,O]at e;have q':oc=p.2:=Yy e;exact d S (by rw[←q'];exact P)
theorem jd{Q:Unit->Yh->Prop}(I:aC X Za σ H s)(a:X.N.Nodup)(b:X.N[i]?=Ya x)(c:zO X.env.scope x)(r:RelV v u)(h:∀s',aC X Za (σ.set i (Ya v)) H s'->Q () s')(d:X.fn x=true∨X.env.scope.names.lookup x=Ya .local:=by first|exact .inl rfl|exact .inr rfl|assumption):Yj M A (storeName X.env x u) Q E s:=
 mW I a b c r (λs' e _=>h s' e) d
theorem aC.call'(I:aC X Za σ H s)(d:s'.os=s.os)(u:Un (cP X.stack) ch H H' s.heap s'.heap)(hok:gS X.prog X.w H' s'.heap)(f:C1 s'.gens)(a:∀b∈ch,(b∈X.ex∨X.s₀.heap.objs.size<=b)/\b≠X.env.locals/\(∀x c,X.env.cells.lookup x=Ya c->c≠b)/\∀p∈X.pn++Za,p.1≠b):aC X Za σ H' s':=by
 obtain⟨k,g,h,i,j⟩:=s';have e:j=s.os:=d;subst e;exact I.call (g':=g) (t':=i) (d':=h) u hok f a
end
abbrev XK:=Yd->Option Yf->Hp->Prop
abbrev St:=List (Option V)
variable{σ:St}
abbrev VK:=V->Hp->Prop
abbrev TE:=St->Hp->VK->Prop
variable{ta tb te tc tv td ty:TE}
abbrev TT:=St->Hp->(Bool->Hp->Prop)->Prop
abbrev TA:=St->Hp->(List V->Hp->Prop)->Prop
variable{t:TA}
structure fU where
 nx:St->Hp->Prop
 rt:VK
 bk:St->Hp->Prop:=λ_ _=>False
 ct:St->Hp->Prop:=λ_ _=>False
variable{D:fU}
abbrev TS:=fU->St->Hp->Prop
def EP(X:Cx)(b:List (Yf×Y1))(σ:St)(Q:VK)(u:Yd)(s':Yh):Prop:=∃v a,aC X b σ a s'/\RelV v u/\Q v a
def TP(X:Cx)(c:List (Yf×Y1))(σ:St)(Q:Bool->Hp->Prop)(b:Bool)(s':Yh):Prop:=∃a,aC X c σ a s'/\Q b a
def AP(X:Cx)(c:List (Yf×Y1))(σ:St)(Q:List V->Hp->Prop)(us:List Yd)(s':Yh):Prop:=∃a b,aC X c σ b s'/\Vals a us/\Q a b
def SP(X:Cx)(c:List (Yf×Y1))(D:fU)(f:Flow)(s':Yh):Prop:=
 match f with
 | .next=>∃b a,aC X c b a s'/\D.nx b a
 | .brk=>∃b a,aC X c b a s'/\D.bk b a
 | .cont=>∃b a,aC X c b a s'/\D.ct b a
 | .ret u=>∃v b a,aC X c b a s'/\RelV v u/\D.rt v a
def PE(X:Cx)(e:YN)(t:TE):Prop:=
 ∀(a:List (Yf×Y1)) (s:Yh) (σ:St) (H:Hp) (Q:VK),aC X a σ H s->t σ H Q->Yj (Ym X.prog X.w) X.A (dk e X.env) (EP X a σ Q) X.xe s
def PT(X:Cx)(e:YN)(t:TT):Prop:=
 ∀(a:List (Yf×Y1)) (s:Yh) (σ:St) (H:Hp) (Q:Bool->Hp->Prop),aC X a σ H s->t σ H Q->Yj (Ym X.prog X.w) X.A (GI e X.env (dk e X.env)) (TP X a σ Q) X.xe s
def PW(X:Cx)(e:YN)(t:TT):Prop:=
 ∀(a:Fe Yd) (b:List (Yf×Y1)) (s:Yh) (σ:St) (H:Hp) (Q:Bool->Hp->Prop),aC X b σ H s->t σ H Q->Yj (Ym X.prog X.w) X.A (GI e X.env a) (TP X b σ Q) X.xe s
theorem PW.pt{t:TT}(h:PW X e t):PT X e t:=h _
def PA(X:Cx)(c:List YN)(t:TA):Prop:=
 ∀(a:CW) (b:List (Yf×Y1)) (s:Yh) (σ:St) (H:Hp) (Q:List V->Hp->Prop),aC X b σ H s->t σ H Q->Yj (Ym X.prog X.w) X.A (spliced (BX a (YE c X.env))) (AP X b σ Q) X.xe s
def PS(X:Cx)(st:Y5)(t:TS):Prop:=
 ∀(a:List (Yf×Y1)) (s:Yh) (σ:St) (H:Hp) (D:fU),aC X a σ H s->t D σ H->Yj (Ym X.prog X.w) X.A (exec st X.env) (SP X a D) X.xe s
def p9(X:Cx)(st:List Y5)(t:TS):Prop:=
 ∀(a:List (Yf×Y1)) (s:Yh) (σ:St) (H:Hp) (D:fU),aC X a σ H s->t D σ H->Yj (Ym X.prog X.w) X.A (execs st X.env) (SP X a D) X.xe s
theorem bQ{α:Type}{t:Fe α}{Q b:α->Yh->Prop}(h:Yj M A t Q E s)(c:∀a s,Q a s->b a s):Yj M A t b E s:=xn h c λ_ _ x=>x
section
theorem BO{a b:YN}(ha:PE X a ta)(hb:PE X b tb)(I:aC X Za σ H s)(h:ta σ H λx e=>tb σ e λy c=>R x y c){α:Type}{Q:α->Yh->Prop}{f:Yd->Yd->Fe α}(i:∀v u d x y c,aC X Za σ c d->RelV x v->RelV y u->R x y c->Yj (Ym X.prog X.w) X.A (f v u) Q X.xe d):
  Yj (Ym X.prog X.w) X.A (dk a X.env) (λv j=>Yj (Ym X.prog X.w) X.A (dk b X.env) (λu k=>Yj (Ym X.prog X.w) X.A (f v u) Q X.xe k) X.xe j) X.xe s:=by
 refine bQ (ha Za s σ H _ I h) λv l g=>?_;obtain⟨x,e,m,n,o⟩:=g;refine bQ (hb Za l σ e _ m o) λu d g=>?_;obtain⟨y,c,p,q,r⟩:=g;exact i v u d x y c p n q r
def jH(i:Nat):TE:=λσ H Q=>∃v,σ[i]?=Ya (Ya v)/\Q v H
def tC(v:V):TE:=λ_ H Q=>Q v H
theorem yI(g:X.N[i]?=Ya x)(j:Bs X.env.scope x)(hd:(x==("__debug__":Yg))=false:=by decide)(f:(x==("__classdict__":Yg))=false:=by decide):PE X (.Name x pos) (jH i):=by
 intro k s σ H Q I h;obtain⟨v,e,h⟩:=h;obtain⟨m,hn,n⟩:=I.loc;obtain⟨u,r,l⟩:=n i x v g e j;have b:EP X k σ Q u s:=⟨v,H,I,r,h⟩;rcases l with⟨d,hm⟩|⟨d,c,hc,a⟩
 ·exact GJ (wpAny_loadName_local I.ok.kind d hn hm b) hd
 ·rcases d with d|d
  ·exact GJ (wpAny_loadName_cell I.ok.kind d hc a b) hd
  ·exact GJ (wpAny_loadName_free I.ok.kind d hc a b f) hd
theorem ae{i j pos}:PE X (.Constant (.int i) j pos) (tC (.int i)):=λ_ _ _ H _ I h=>wpAny_Constant_int ⟨.int i,H,I.tok _,⟨_,rfl⟩,h⟩
theorem u9{b j pos}:PE X (.Constant (.bool b) j pos) (tC (.bl b)):=λ_ _ _ H _ I h=>Constant_bool ⟨.bl b,H,I,rfl,h⟩
theorem cm{j pos}:PE X (.Constant .none j pos) (tC .non):=λ_ _ _ H _ I h=>Constant_none ⟨.non,H,I,rfl,h⟩
theorem aA{x j pos}:PE X (.Constant (.str x) j pos) (tC (.str x)):=λ_ _ _ H _ I h=>Ea ⟨.str x,H,I.tok _,⟨_,rfl⟩,h⟩
def Gl(X:Cx)(x:Yg):Prop:=X.env.kindOf x=Ya .globalImplicit
theorem gL(I:aC X Za σ H s)(a:Gl X x)(hm:X.mg x=Ya u)(h:Q u s)(hd:(x==("__debug__":Yg))=false:=by decide):Yj (Ym X.prog X.w) X.A (dk (.Name x pos) X.env) Q E s:=
 Ef I.ok.kind a (Calls.loadGlobal_global (by rw[I.ok.glob];exact I.mod.glob.keeps I.bk) hm h) hd
theorem nP(I:aC X Za σ H s)(a:Gl X x)(hm:X.mg x=Yb)(b:Cm x=Ya u)(h:Q u s)(hn:x≠"__name__":=by decide)(hd:(x==("__debug__":Yg))=false:=by decide):Yj (Ym X.prog X.w) X.A (dk (.Name x pos) X.env) Q E s:=by
 obtain⟨c,h1,h2⟩:=I.mod.blt;exact Ef I.ok.kind a (Calls.loadGlobal_builtin (by rw[I.ok.glob];exact I.mod.glob.keeps I.bk) hm (by rw[I.ok.blt];exact h1.keeps I.bk) ((h2 x hn).trans b) h) hd
theorem cW(a:Gl X x)(hm:X.mg x=Ya u)(r:RelV v u)(hd:(x==("__debug__":Yg))=false:=by decide):PE X (.Name x pos) (tC v):=
 λ_ _ _ H _ I h=>gL I a hm ⟨v,H,I,r,h⟩ hd
theorem wJ(a:Gl X x)(hm:X.mg x=Yb)(b:Cm x=Ya u)(r:RelV v u)(hn:x≠"__name__":=by decide)(hd:(x==("__debug__":Yg))=false:=by decide):PE X (.Name x pos) (tC v):=
 λ_ _ _ H _ I h=>nP I a hm b ⟨v,H,I,r,h⟩ hn hd
variable{a b:YN}
variable{tA tB':TT}{Zd:List YN}
def z8(t u:TT):TT:=λσ H Q=>t σ H λc a=>if c=true then u σ a Q else Q false a
def BD(t u:TT):TT:=λσ H Q=>t σ H λc a=>if c=true then Q true a else u σ a Q
def zG(t:TT):TT:=λσ H Q=>t σ H λc a=>Q (!c) a
theorem gJ(ha:PT X a tA):PW X (.BoolOp .And [a] pos) tA:=by
 intro d b s σ H Q I h;refine isTrue_and (bQ (ha b s σ H Q I h) λc f e=>?_);cases c with
 |true=>exact isTrue_and_nil e
 |false=>exact e
theorem jT(ha:PT X a tA):PW X (.BoolOp .Or [a] pos) tA:=by
 intro d b s σ H Q I h;refine isTrue_or (bQ (ha b s σ H Q I h) λc f e=>?_);cases c with
 |false=>exact isTrue_or_nil e
 |true=>exact e
theorem iy(ha:PT X a tA)(hb:PW X (.BoolOp .And (b::Zd) pos) tB'):PW X (.BoolOp .And (a::b::Zd) pos) (z8 tA tB'):=by
 intro i d s σ H Q I h;refine isTrue_and (bQ (ha d s σ H _ I h) λc j k=>?_);obtain⟨e,f,g⟩:=k;cases c with
 |true=>exact hb i d j σ e Q f g
 |false=>exact⟨e,f,g⟩
theorem fF(ha:PT X a tA)(hb:PW X (.BoolOp .Or (b::Zd) pos) tB'):PW X (.BoolOp .Or (a::b::Zd) pos) (BD tA tB'):=by
 intro i d s σ H Q I h;refine isTrue_or (bQ (ha d s σ H _ I h) λc j k=>?_);obtain⟨e,f,g⟩:=k;cases c with
 |true=>exact⟨e,f,g⟩
 |false=>exact hb i d j σ e Q f g
theorem f7(ha:PT X a tA):PT X (.UnaryOp .Not a pos) (zG tA):=by
 intro b s σ H Q I h;exact isTrue_not (ha b s σ H (λc d=>Q (!c) d) I h)
def w9(b d:TE):TE:=λσ H Q=>b σ H λx a=>∃c,x=.bl c/\if c=true then d σ a Q else Q (.bl false) a
def xD(a:TE):TE:=λσ H Q=>a σ H λx b=>∃c,x=.bl c/\Q (.bl (!c)) b
theorem ou{b}{t:TE}(h:PE X a t):PE X (.BoolOp b [a] pos) t:=λc s σ H Q I hw=>BoolOp_one (h c s σ H Q I hw)
theorem oM(ha:PE X a ta)(hb:PE X (.BoolOp .And (b::Zd) pos) tb):PE X (.BoolOp .And (a::b::Zd) pos) (w9 ta tb):=by
 intro e s σ H Q I h;refine BoolOp_and (bQ (ha e s σ H _ I h) λv i j=>?_);obtain⟨x,f,g,k,d⟩:=j;obtain⟨c,rfl,d⟩:=d;cases k;refine CI ?_;cases c with
 |true=>exact hb e i σ f Q g d
 |false=>exact⟨.bl false,f,g,rfl,d⟩
theorem y9(ha:PE X a ta):PE X (.UnaryOp .Not a pos) (xD ta):=by
 intro d s σ H Q I h;refine UnaryOp_ (bQ (ha d s σ H _ I h) λv j e=>?_);obtain⟨x,f,g,i,b⟩:=e;obtain⟨c,rfl,b⟩:=b;cases i;exact not_of (CI ⟨.bl (!c),f,g,rfl,b⟩)
end
def bw(K:Yc)(H:Hp)(a:Yf)(xs:List V):Prop:=
 Rd H a (.lst xs)∨
  ∃(o:Y1) (b:Array Yd) (n:Nat),K.lookup a=Ya o/\o.cls=.type "list"/\o.dict=Yb/\o.data=.seq b n/\b.size<=Yp/\Vals xs b.toList
def gU(K:Yc)(H:Hp)(a:Yf)(xs:List V):Prop:=
 Rd H a (.tup xs)∨
  ∃(o:Y1) (b:Array Yd) (n:Nat),K.lookup a=Ya o/\o.cls=.type "tuple"/\o.data=.seq b n/\b.size<=Yp/\Vals xs b.toList
noncomputable def AS:Yd->Option V
 | .none=>Ya .non
 | .bool b=>Ya (.bl b)
 | .int i _=>Ya (.int i)
 | .str x _=>Ya (.str x)
 | .bytes b _=>Ya (.byt b)
 | .float b _=>Ya (.flt b)
 | .ref a=>Ya (.ref a)
 | .type n=>Ya (.ty n)
 |_=>Yb
theorem RelV.abs{x:V}(r:RelV x u):AS u=Ya x:=by
 cases x with
 |non=>cases r;rfl
 |bl _=>cases r;rfl
 |int _=>obtain⟨t,rfl⟩:=r;rfl
 |str _=>obtain⟨t,rfl⟩:=r;rfl
 |byt _=>obtain⟨t,rfl⟩:=r;rfl
 |flt _=>obtain⟨t,rfl⟩:=r;rfl
 |ref _=>cases r;rfl
 |ty _=>cases r;rfl
theorem RelV.inj{x:V}(r:RelV x u)(q:RelV y u):x=y:=Yy (r.abs.symm.trans q.abs)
theorem Vals.inj:∀{xs a:List V} {us:List Yd},Vals xs us->Vals a us->xs=a:=by
 intro xs a us h
 induction h generalizing a with
 |nil=>
  intro h;cases h;rfl
 |cons r t ih=>
  intro h;cases h with|cons r' t'=>
  rw[r.inj r',ih t']
section
variable{ys:List V}
theorem bw.of{K:Yc}(h:H a=Ya (.lst xs)):bw K H a xs:=.inl (.inl h)
theorem gU.of{K:Yc}(h:H a=Ya (.tup xs)):gU K H a xs:=.inl (.inl h)
theorem aC.list(I:aC X Za σ H s)(h:bw X.K H a xs):∃b:List Yd,Vals xs b/\PlainL s.heap a b.toArray/\xs.length<=Yp:=by
 rcases h with h|⟨o,b,n,c,hc,hd,d,f,r⟩
 ·obtain⟨z,b,n,r,e⟩:=h.ok I.hok;exact⟨b,r,⟨_,n,e,rfl,rfl,rfl⟩,z⟩
 ·refine⟨b.toList,r,⟨o,n,I.kIn a o c,hc,hd,by simpa using d⟩,?_⟩;have e:=r.length;simp only[pe]at e;omega
theorem aC.tuple(I:aC X Za σ H s)(h:gU X.K H a xs):∃b:List Yd,Vals xs b/\IsTup s.heap a b.toArray/\xs.length<=Yp:=by
 rcases h with h|⟨o,b,n,c,hc,d,f,r⟩
 ·obtain⟨z,b,r,p⟩:=h.ok I.hok;exact⟨b,r,p.tup,z⟩
 ·refine⟨b.toList,r,⟨o,I.kIn a o c,hc,n,by simpa using d⟩,?_⟩;have e:=r.length;simp only[pe]at e;omega
theorem aC.list_inj(I:aC X Za σ H s)(h:bw X.K H a xs)(h':bw X.K H a ys):xs=ys:=by
 obtain⟨g,r,⟨o,n,e,_,_,d⟩,_⟩:=I.list h;obtain⟨b,i,⟨j,k,c,_,_,f⟩,_⟩:=I.list h';rw[e]at c;cases c;rw[d]at f;injection f with d1 _;have:g=b:=by simpa using congrArg Ho d1
 subst this;exact r.inj i
end
noncomputable abbrev Cx.wish(X:Cx)(E:Yd->Yh->Prop):Cx:={X with xe:=E}
noncomputable abbrev Cx.nox(X:Cx):Cx:=X.wish λ_ _=>False
theorem Cx.Ok.wish(ok:X.Ok)(E:Yd->Yh->Prop):(X.wish E).Ok:=
 ⟨ok.mod,ok.kind,ok.glob,ok.blt,ok.above,ok.inj,ok.has,ok.cab,ok.hd,ok.frames,ok.stk,ok.exf,ok.bs,ok.bsz,ok.noex,ok.exfs,ok.funs,ok.frf⟩
theorem Cx.Ok.unwish(ok:(X.wish E).Ok):X.Ok:=
 ⟨ok.mod,ok.kind,ok.glob,ok.blt,ok.above,ok.inj,ok.has,ok.cab,ok.hd,ok.frames,ok.stk,ok.exf,ok.bs,ok.bsz,ok.noex,ok.exfs,ok.funs,ok.frf⟩
section
theorem aC.wish(I:aC X Za σ H s)(E:Yd->Yh->Prop):aC (X.wish E) Za σ H s:=⟨I.ok.wish E,I.os,I.bare,I.base,I.loc,I.cell,I.free,I.freeC,I.pin,I.hok,I.len⟩
theorem aC.unwish(I:aC (X.wish E) Za σ H s):aC X Za σ H s:=⟨I.ok.unwish,I.os,I.bare,I.base,I.loc,I.cell,I.free,I.freeC,I.pin,I.hok,I.len⟩
theorem SP.unwish{f:Flow}(h:SP (X.wish E) Za D f s'):SP X Za D f s':=by
 cases f with
 |next=>obtain⟨a,b,I,q⟩:=h;exact⟨a,b,I.unwish,q⟩
 |brk=>obtain⟨a,b,I,q⟩:=h;exact⟨a,b,I.unwish,q⟩
 |cont=>obtain⟨a,b,I,q⟩:=h;exact⟨a,b,I.unwish,q⟩
 |ret u=>obtain⟨v,a,b,I,r,q⟩:=h;exact⟨v,a,b,I.unwish,r,q⟩
theorem p9.nox{st:List Y5}{t:TS}(h:p9 X.nox st t):p9 X st t:=λa s σ H D I hw=>
 xn (h a s σ H D (I.wish _) hw) (λ_ _ q=>q.unwish) λ_ _ z=>ll z
end
section
variable{st:Y5}{Zd:List Y5}{t u:TS}
def rE:TS:=λD σ H=>D.nx σ H
def jh(t u:TS):TS:=λD σ H=>t {D with nx:=u D} σ H
theorem aG:p9 X [] rE:=λ_ _ σ H _ I h=>DK ⟨σ,H,I,h⟩
theorem ah(h1:PS X st t)(h2:p9 X Zd u):p9 X (st::Zd) (jh t u):=by
 intro a s σ H D I h;refine Gr (bQ (h1 a s σ H {D with nx:=u D} I h) λf b q=>?_);cases f with
 |next=>
  obtain⟨c,d,e,q⟩:=q;exact h2 a b c d D e q
 |ret v=>exact q
 |brk=>exact q
 |cont=>exact q
theorem ai(h1:PS X st t):p9 X [st] t:=by
 intro a s σ H D I h;refine Gr (bQ (h1 a s σ H D I h) λf b q=>?_);cases f with
 |next=>exact DK q
 |ret v=>exact q
 |brk=>exact q
 |cont=>exact q
theorem aC.quiet(I:aC X Za σ H s):interactive X.env=false:=by simp[interactive,I.ok.kind]
def tS(a:TE):TS:=λD σ H=>a σ H λ_ b=>D.nx σ b
theorem oQ(a:PE X e te)(b:EX e Yb pos.line X.env=pure false:=by rfl):PS X (.Expr e pos) (tS te):=by
 intro c s σ H D I h;exact wpAny_Expr_any (bQ (a c s σ H _ I h) λv i ⟨x,d,f,j,g⟩=>⟨σ,d,f,g⟩) I.quiet b
def vf(a:TE):TS:=λD σ H=>a σ H D.rt
theorem aH(a:PE X e te):PS X (.Return (Ya e) pos) (vf te):=by
 intro b s σ H D I h;exact wpAny_Return_some (bQ (a b s σ H _ I h) λv i ⟨x,c,d,f,g⟩=>⟨x,σ,c,d,f,g⟩)
def vM(c:TT)(t u:TS):TS:=λD σ H=>c σ H λb a=>if b=true then t D σ a else u D σ a
theorem aY{a b:List Y5}{f:TT}(hc:PT X c f)(ha:p9 X a t)(hb:p9 X b u):PS X (.If c a b pos) (vM f t u):=by
 intro e s σ H D I h;refine wpAny_If (bQ (hc e s σ H _ I h) λd g l=>?_);obtain⟨i,j,k⟩:=l;cases d with
 |true=>exact ha e g σ i D j k
 |false=>exact hb e g σ i D j k
def tY:TS:=λ_ _ _=>False
theorem pT:PS X st tY:=λ_ _ _ _ _ _ h=>h.elim
end
abbrev TG:=V->St->Hp->(St->Hp->Prop)->Prop
def PG(X:Cx)(a:YN)(t:TG):Prop:=
 ∀(b:List (Yf×Y1)) (s:Yh) (σ:St) (H:Hp) (v:V) (u:Yd) (Q:St->Hp->Prop),aC X b σ H s->RelV v u->t v σ H Q->
  Yj (Ym X.prog X.w) X.A (Ff a X.env u) (λ_ s'=>∃c d,aC X b c d s'/\Q c d) X.xe s
abbrev wt:=V->V->V->Hp->(Hp->Prop)->Prop
def zA(X:Cx)(t:wt):Prop:=
 ∀(a:List (Yf×Y1)) (s:Yh) (σ:St) (H:Hp) (o i v:V) (b c u:Yd) (Q:Hp->Prop),aC X a σ H s->RelV o b->RelV i c->RelV v u->t o i v H Q->
  Yj (Ym X.prog X.w) X.A (setItem b c u) (λ_ s'=>∃d,aC X a σ d s'/\Q d) X.xe s
section
def rn(i:Nat):TG:=λv σ H Q=>Q (σ.set i (Ya v)) H
theorem fg(a:X.N.Nodup)(b:X.N[i]?=Ya x)(c:zO X.env.scope x)(d:X.fn x=true∨X.env.scope.names.lookup x=Ya .local:=by first|exact .inl rfl|exact .inr rfl|assumption):PG X (.Name x pos) (rn i):=by
 intro f s σ H v u Q I r h;exact F7 (jd I a b c r (λs' e=>⟨_,H,e,h⟩) d)
def zY(to a:TE)(t:wt):TG:=λv σ H Q=>to σ H λo b=>a σ b λi c=>t o i v c λd=>Q σ d
theorem zh{o i:YN}{to e:TE}{t:wt}(f:PE X o to)(g:PE X i e)(j:zA X t)
  (ha:∀v,Ff (.Subscript o i pos) X.env v=(do
   let a←DF [v] (dk o X.env);let b←DF [v,a] (dk i X.env)
   F3 pos
   DF [v,a,b] (setItem a b v)
   release [v,a,b] []):=by intro _;rfl):PG X (.Subscript o i pos) (zY to e t):=by
 intro d s σ H v u Q I r h;rw[ha];refine Ye (xi (bQ (f d s σ H _ I h) λa k c=>?_));obtain⟨x,l,m,n,p⟩:=c;refine Ye (xi (bQ (g d k σ l _ m p) λb q c=>?_));obtain⟨y,w,z,A,B⟩:=c;refine Ye (Eg (Ye (xi (bQ (j d q σ w x y v a b u _ z n A r B) λ_ F c=>?_))));obtain⟨C,D,E⟩:=c;exact wpAny_release ⟨σ,C,D,E⟩
def uo(a:TE)(g:TG):TS:=λD σ H=>a σ H λx b=>g x σ b D.nx
theorem yB{g:TG}(b:PE X e te)(c:PG X tg g)(d:swapsWithSole [tg] e pos.line X.env=pure false:=by rfl)(hw:swappedStores [tg] e X.env=pure none:=by rfl)(h1:(assignEach [tg] X.env).map (·.2)=[Ff tg X.env]:=by rfl):PS X (.Assign [tg] e pos) (uo te g):=by
 intro a s σ H D I h;refine wpAny_Assign_stores (bQ (b a s σ H _ I h) λv f i=>?_) d hw;obtain⟨x,j,k,l,m⟩:=i;rw[h1];exact bQ (c a f σ j x v _ k l m) λ_ n q=>q
theorem aL(a:X.N.Nodup)(b:X.N[i]?=Ya x)(c:zO X.env.scope x)(d:PE X e te)(f:EX e (Ya (.Name x Zp)) pos.line X.env=pure false:=by rfl)(g:X.fn x=true∨X.env.scope.names.lookup x=Ya .local:=by first|exact .inl rfl|exact .inr rfl|assumption):
  PS X (.Assign [.Name x Zp] e pos) (uo te (rn i)):=by
 intro j s σ H D I h;refine wpAny_Assign_Name (bQ (d j s σ H _ I h) λv q k=>?_) f;obtain⟨y,l,m,n,o⟩:=k;exact jd m a b c n (λr p=>⟨_,l,p,o⟩) g
end
section
end
structure It where
 go:Nat->Hp->Prop
 yld:Nat->Hp->V->Hp->Prop
 stop:Nat->Hp->Prop
def ly(X:Cx)(a:List (Yf×Y1))(H:Hp)(b:Yf):Prop:=
 H b=Yb/\b≠X.env.locals/\b∉X.fs/\(b∈X.ex∨X.s₀.heap.objs.size<=b)/\(∀x c,X.env.cells.lookup x=Ya c->c≠b)/\∀p∈X.pn++a,p.1≠b
theorem aC.fpOk(I:aC X Za σ H s)(hb:s.heap.objs.size<=b)(hn:H' b=Yb):ly X Za H' b:=by
 refine⟨hn,DL (Yv I.lt hb),I.nofs hb,.inr (YI I.sz hb),λx c e z=>?_,λp a z=>?_⟩
 ·obtain⟨v,q⟩:=I.cell x c e;exact absurd (Yv q.lt (by rw[z];exact hb)) (xg _)
 ·exact absurd (Yv (Yq (I.pin p a).1) (by rw[z];exact hb)) (xg _)
structure tD(P:YB)(w:YG)(K:Yc)(tg:YN)(J:It)(fp:List Yf)(it:Yf)(tn:Nat->YF->Prop):Prop where
 mem:it∈fp
 obj:∀i h,tn i h->∀b∈fp,∃o,h.get? b=Ya o/\∀v,o.data≠.cell v
 keep:∀i h h',tn i h->(∀b∈fp,∀o,h.get? b=Ya o->h'.get? b=Ya o)->tn i h'
 item:∀(X:Cx),X.prog=P->X.w=w->X.K=K->X.calm=true->∀(i:Nat) (Za:List (Yf×Y1)) (s:Yh) (σ:St) (H:Hp) (E:Yd->Yh->Prop),aC X Za σ H s->(∀b∈fp,ly X Za H b)->tn i s.heap->J.go i H->
  Yj (Ym P w) X.A (CY (.ref it)) (λr s1=>∃u,r=Ya u/\
   Yj (Ym P w) X.A (DM tg (.ref it) u) (λ_ s2=>∃x H',aC X Za σ H' s2/\RelV x u/\J.yld i H x H'/\tn (i+ 1) s2.heap/\∀b∈fp,H' b=Yb) E s1) E s
 done:∀(X:Cx),X.prog=P->X.w=w->X.K=K->X.calm=true->∀(i:Nat) (Za:List (Yf×Y1)) (s:Yh) (σ:St) (H:Hp) (E:Yd->Yh->Prop),aC X Za σ H s->(∀b∈fp,ly X Za H b)->tn i s.heap->J.stop i H->
  Yj (Ym P w) X.A (CY (.ref it)) (λr s1=>r=Yb/\aC X Za σ H s1) E s
 self:∀(A:Y2) (i:Nat) (s:Yh) (Q:Yd->Yh->Prop) (E:Yd->Yh->Prop),tn i s.heap->Q (.ref it) s->Yj (Ym P w) A (GK (.ref it)) Q E s
abbrev TI:=St->Hp->(It->Hp->Prop)->Prop
def Bu(X:Cx)(d:List (Yf×Y1))(σ:St)(h:YN)(R:It->Hp->Prop)(a:Yd)(e:Yh):Prop:=
 ∃(it:Yf) (f:List Yf) (g:Nat->YF->Prop) (J:It) (c:Hp),a=.ref it/\aC X d σ c e/\tD X.prog X.w X.K h J f it g/\g 0 e.heap/\(∀b∈f,ly X d c b)/\R J c
def PI(X:Cx)(b iter:YN)(c:TI):Prop:=
 ∀(a:List (Yf×Y1)) (s:Yh) (σ:St) (H:Hp) (R:It->Hp->Prop),aC X a σ H s->c σ H R->
  Yj (Ym X.prog X.w) X.A (dk iter X.env) (λv d=>Yj (Ym X.prog X.w) X.A (GK v) (Bu X a σ b R) X.xe d) X.xe s
theorem ve{o:Y1}{n:String}{vs:Array Yd}{Q:Unit->Yh->Prop}(b:s.heap.get? it=Ya o)(hc:o.cls=.type n)(hd:o.data=.fields vs)(hn:["enumerate","zip","dict_itemiterator","dict_reverseitemiterator","odict_iterator","itertools.zip_longest","itertools.pairwise"].contains n=false)(a:Q () s):Yj M A (DM tg (.ref it) u) Q E s:=by
 unfold DM;cases tg<;>first
  |exact Yk a
  |(cases u<;>first
    |exact Yk a
    |(refine Ye (wpAny_load b ?_)
      rw[hc,hd];show Yj M A (if(["enumerate","zip","dict_itemiterator","dict_reverseitemiterator","odict_iterator","itertools.zip_longest","itertools.pairwise"].contains n&&vs[0]?==Ya (BR _))=true then _ else _) Q E s;rw[if_neg (by intro h;rw[hn,BS]at h;cases h)];exact Yk a))
noncomputable def vY(K:Yc)(a:Yf):It:=
 ⟨λi H=>∃b x,bw K H a b/\b[i]?=Ya x,λi H x c=>c=H/\∀b,bw K H a b->b[i]?=Ya x,λi H=>∃b,bw K H a b/\b.length<=i⟩
noncomputable def yi(lo:Int)(n:Nat):It:=⟨λi _=>i<n,λi H x a=>a=H/\x=.int (lo+ i),λi _=>n<=i⟩
theorem sQ{K:Yc}(a it:Yf):tD P w K tg (vY K a) [it] it (λi h=>h.IsListIter it a i) where
 mem:=by simp
 obj:=λi h st b hb=>by
  have e:b=it:=by simpa using hb
  subst e;obtain⟨o,e,c,d⟩:=st;exact⟨o,e,λv z=>by rw[d]at z;cases z⟩
 keep:=λi h g st k=>st.at λo e=>k it (by simp) o e
 item:=by
  intro X m hw n hc i F s σ H E I j st q;subst m hw n;obtain⟨G,x,l,r⟩:=q;obtain⟨J,t,p,L⟩:=I.list l;obtain⟨u,M,N⟩:=t.get r;obtain⟨y,A,O,B,C,D⟩:=j it (by simp);refine wpAny_pyNext_list_item st p.isList (x:=u) (by simpa using M) λg f Q=>?_;have R:aC X F σ H {s with heap:=g}:=I.turned (t':=s.toks) (λb o hb e=>(Q.2 b hb).trans e) y A B C D;obtain⟨o,e,c,d⟩:=id f;exact⟨u,rfl,ve (s:={s with heap:=g}) e c d (by decide) ⟨x,H,R,N,⟨rfl,λU S=>by rw[I.list_inj S l];exact r⟩,f,λb hb=>(j b hb).1⟩⟩
 done:=by
  intro X m hw n hc i F s σ H E I j st q;subst m hw n;obtain⟨G,l,r⟩:=q;obtain⟨J,t,p,L⟩:=I.list l;obtain⟨y,A,O,B,C,D⟩:=j it (by simp);have V:=t.length;exact wpAny_pyNext_list_end (I.ok.hd hc) st p.isList (by simp;omega) λg T=>⟨rfl,I.turned (t':=s.toks) (λb o hb e=>T b o hb e) y A B C D⟩
 self:=λ_ _ _ _ _ st h=>wpAny_pyIter_listiter st h
theorem ql{K:Yc}(it:Yf)(lo:Int)(n:Nat):tD P w K tg (yi lo n) [it] it (λi h=>IsRangeIter h it (lo+ (i:Nat)*1) ((n:Int)-(i:Nat)) 1) where
 mem:=by simp
 obj:=λi h st b hb=>by
  have e:b=it:=by simpa using hb
  subst e;exact⟨_,st,λv z=>by
   have y:Data.fields _=Data.cell v:=z;cases y⟩
 keep:=λi h c st k=>k it (by simp) _ st
 item:=by
  intro X f hw g hc i u s σ H E I d st j;subst f hw g;obtain⟨l,m,A,p,q,r⟩:=d it (by simp);have W:=Walks.range (prog:=X.prog) (w:=X.w) (I.ok.hd hc) it lo 1 n;refine W.item i s _ _ j st λv c x B a C=>?_;obtain⟨t,rfl⟩:=B;have D:aC X u σ H {s with heap:=c,toks:=x}:=I.turned (λb o hb e=>C b o (by simpa using hb) e) l m p q r;refine⟨_,rfl,ve (s:={s with heap:=c,toks:=x}) (n:="range_iterator") a rfl rfl (by decide) ⟨.int (lo+ i),H,D,⟨t,?_⟩,⟨rfl,rfl⟩,a,λb hb=>(d b hb).1⟩⟩;rw[Int.mul_one]
 done:=by
  intro X f hw g hc i u s σ H E I d st j;subst f hw g;obtain⟨l,m,A,p,q,r⟩:=d it (by simp);exact wpAny_pyNext_range_end (I.ok.hd hc) st (by have:n<=i:=j;omega) λc F=>⟨rfl,I.turned (t':=s.toks) (λb o hb e=>F b o hb e) l m p q r⟩
 self:=λ_ _ _ _ _ st h=>wpAny_pyIter_rangeiter st h
section
def uk(K:Yc)(c:TE):TI:=λσ H R=>c σ H λx b=>∃a,x=.ref a/\(∃d,bw K b a d)/\R (vY K a) b
theorem wy{l:YN}{f:TE}(g:PE X l f):PI X tg l (uk X.K f):=by
 intro i s σ H R I h;refine bQ (g i s σ H _ I h) λv c j=>?_;obtain⟨x,k,d,m,n⟩:=j;obtain⟨a,e,⟨t,r⟩,q⟩:=n;subst e;cases m;obtain⟨u,w,p,y⟩:=d.list r;refine Es p.isList ?_;refine⟨c.heap.objs.size,[c.heap.objs.size],_,_,k,rfl,d.kept (t':=c.toks) λb o e=>Yi _ e,sQ a _,⟨_,Yu _ rfl,rfl,rfl⟩,λb hb=>?_,q⟩;have e:b=c.heap.objs.size:=by simpa using hb
 subst e;exact d.fpOk (Yo _) (d.hok.fresh (Yo _))
theorem uO{R:It->Hp->Prop}{lo a:Int}{t u v:FH}{tk:Nat}(I:aC X Za σ H s)(h1:-(2^62)<=lo)(h2:lo<2^62)(h3:-(2^62)<=a)(h4:a<2^62)(q:R (yi lo (a-lo).toNat) H):Yj (Ym X.prog X.w) X.A (GK (.ref s.heap.objs.size)) (Bu X Za σ tg R) E {s with heap:=s.heap.push {cls:=.type "range",data:=.fields #[.int lo t,.int a u,.int 1 v]},toks:=tk}:=by
 refine wpAny_pyIter_range (IsRange.new ..) (small_one h1 h2 h3 h4) ?_;have c:aC X Za σ H {s with heap:=s.heap.push {cls:=.type "range",data:=.fields #[.int lo t,.int a u,.int 1 v]},toks:=tk}:=I.kept λb o e=>Yi _ e;refine⟨(s.heap.push {cls:=.type "range",data:=.fields #[.int lo t,.int a u,.int 1 v]}).objs.size,[(s.heap.push {cls:=.type "range",data:=.fields #[.int lo t,.int a u,.int 1 v]}).objs.size],_,_,H,rfl,
  c.kept (t':=tk) λb o e=>Yi _ e,ql _ lo (a-lo).toNat,?_,λb hb=>?_,q⟩
 ·have d:lo+ ((0:Nat):Int)*1=lo:=by simp
  have f:(((a-lo).toNat:Nat):Int)-((0:Nat):Int)=Builtin.Range.rangeSize lo a 1:=by rw[rangeSize_one];split<;>omega
  show IsRangeIter _ _ (lo+ ((0:Nat):Int)*1) ((((a-lo).toNat:Nat):Int)-((0:Nat):Int)) 1;rw[d,f];exact Yu _ rfl
 ·have e:b=(s.heap.push {cls:=.type "range",data:=.fields #[.int lo t,.int a u,.int 1 v]}).objs.size:=by simpa using hb
  subst e;exact c.fpOk (Yo _) (c.hok.fresh (Yo _))
def xJ(a:TA):TI:=λσ H R=>a σ H λb c=>∃j:Int,b=[.int j]/\-(2^62)<=j/\j<2^62/\R (yi 0 j.toNat) c
theorem sf{a:YN}{c:TA}(d:Gl X "range")(hm:X.mg "range"=Yb)(ha:PA X [a] c)(f:YE [a] X.env=[(false,dk a X.env)]:=by rfl):PI X tg (.Call (.Name "range" p) [a] [] pos) (xJ c):=by
 intro g s σ H R I h;refine Call_ (nP I d hm boot_range (Eb (bQ (ha pos g s σ H _ I h) λn o i=>?_) f rfl));obtain⟨u,v,k,l,b⟩:=i;obtain⟨j,e,b,m,q⟩:=b;subst e;cases l with
 |cons r rr=>
  cases rr;obtain⟨t,rfl⟩:=r;exact call_range_1 (uO k (by omega) (by omega) b m (by simpa using q))
def wH(d:TI)(g:TG)(e:TS):TS:=λD σ H=>d σ H λJ f=>∃W:Nat->Nat->St->Hp->Prop,(∃m,W 0 m σ f)/\∀i m σ H,W i m σ H->
 (J.stop i H/\D.nx σ H)∨(J.go i H/\∃N:St->Hp->Prop,(∀b a,N b a->∃c,c<m/\W (i+ 1) c b a)/\∀x a,J.yld i H x a->g x σ a λh j=>e {D with nx:=N,ct:=N,bk:=D.nx} h j)
noncomputable def jS(a:List Yf)(h:YF):List (Yf×Y1):=a.filterMap λb=>(h.get? b).map λo=>(b,o)
theorem cS{o:Y1}(hb:b∈fp)(e:h.get? b=Ya o):(b,o)∈jS fp h:=Ec.mpr ⟨b,hb,by rw[e];rfl⟩
theorem su{p:Yf×Y1}(a:p∈jS fp h):p.1∈fp/\h.get? p.1=Ya p.2:=by
 obtain⟨b,hb,e⟩:=Ec.mp a;cases q:h.get? b with
 |none=>rw[q]at e;cases e
 |some o=>
  rw[q]at e;have c:(b,o)=p:=Yy e;subst c;exact⟨hb,q⟩
theorem aC.pinned(I:aC X Za σ H s)(c:∀b∈fp,ly X Za H b)(f:∀b∈fp,∃o,s.heap.get? b=Ya o/\∀v,o.data≠.cell v):aC X (Za++jS fp s.heap) σ H s:=
 I.pins_of λp g=>(B0.mp g).elim (λz=>I.pin p (YH _ z)) λz=>by
  obtain⟨hb,e⟩:=su z;obtain⟨h,i,j,_⟩:=c p.1 hb;obtain⟨o,a,d⟩:=f p.1 hb;rw[e]at a;cases a;exact⟨e,h,i,j,d⟩
theorem aC.unpinned{pl:List (Yf×Y1)}(I:aC X (Za++pl) σ H s):aC X Za σ H s:=I.pins_of λp a=>I.pin p (YH _ (CQ _ a))
theorem nN{iter:YN}{R:TI}{g:TG}{S:TS}(y:PassesOwn (Ym X.prog X.w) X.A X.env X.xe)(hc:X.calm=true)(hi:PI X tg iter R)(hg:PG X tg g)(hb:p9 X Zn S)(hs:∀x,Et iter X.env x=pure x:=by intro _;rfl):PS X (.For tg iter Zn [] pos) (wH R g S):=by
 intro q s σ H D I h;refine wpAny_For (bQ (hi q s σ H _ I h) λv s1 h1=>bQ h1 λab s2 h2=>?_) hs;obtain⟨it,z,U,J,H2,e,I2,T,L,V,W,⟨m0,w0⟩,A⟩:=h2;subst e
 -- what stays true of the iterator's objects through the loop
 have a:∀{l:Hp},(∀b∈z,l b=Yb)->∀b∈z,ly X q l b:=λhn b hb=>⟨hn b hb,(V b hb).2⟩;refine codeAny_forLoop_any (λn s'=>∃i B l,aC X q B l s'/\U i s'.heap/\(∀b∈z,l b=Yb)/\W i n B l) ?_ m0 ⟨0,σ,H2,I2,L,λb hb=>(V b hb).1,w0⟩;rintro n Y ⟨i,C,K,Z,E,F,w3⟩;rcases A i n C K w3 with⟨stop,qn⟩|⟨go,N,hN,step⟩
 ·refine C8 y (bQ (T.done X rfl rfl rfl hc i q Y C K X.xe Z (a F) E stop) λr s4 t=>?_);obtain⟨M,I4⟩:=t;subst M;exact DK ⟨C,K,I4,qn⟩
 ·refine C8 y (bQ (T.item X rfl rfl rfl hc i q Y C K X.xe Z (a F) E go) λr s4 t=>?_);obtain⟨u,M,h4⟩:=t;subst M;refine C8 y (bQ h4 λ_ s5 t=>?_);obtain⟨x,H5,I5,r5,y5,w,O⟩:=t;have P:=I5.pinned (a O) (T.obj _ _ w);refine C8 y (bQ (hg _ s5 C H5 x u _ P r5 (step x H5 y5)) λ_ s6 t=>?_);obtain⟨σ6,H6,I6,q6⟩:=t;refine C8 y (bQ (hb _ s6 σ6 H6 _ I6 q6) λf Q p=>?_);have again:∀{c:St} {j:Hp},aC X (q++jS z s5.heap) c j Q->N c j->∃m,m<n/\∃i B l,aC X q B l Q/\U i Q.heap/\(∀b∈z,l b=Yb)/\W i m B l:=fun{c j} k G=>by
   obtain⟨m',hm,w7⟩:=hN c j G;refine⟨m',hm,i+ 1,c,j,k.unpinned,T.keep _ _ _ w λb hb o e=>(k.pin (b,o) (YH _ (YH _ (cS hb e)))).1,λb hb=>?_,w7⟩;obtain⟨o,e,d⟩:=T.obj _ _ w b hb;exact(k.pin (b,o) (YH _ (YH _ (cS hb e)))).2.1
  cases f with
  |next=>obtain⟨c,j,k,G⟩:=p;exact again k G
  |cont=>obtain⟨c,j,k,G⟩:=p;exact again k G
  |brk=>obtain⟨c,j,k,p⟩:=p;exact⟨c,j,k.unpinned,p⟩
  |ret v=>obtain⟨x7,c,j,k,r7,p⟩:=p;exact⟨x7,c,j,k.unpinned,r7,p⟩
end
theorem pE{K:Yc}{g:TG}{j:TS}(b:Nat->St->Hp->Prop)(h0:b 0 σ H)(l:∀i σ H,i<=xs.length->b i σ H->bw K H a xs)(n:∀i x σ H,xs[i]?=Ya x->b i σ H->g x σ H λd f=>j {D with nx:=b (i+ 1),ct:=b (i+ 1),bk:=D.nx} d f)(hd:∀σ H,b xs.length σ H->D.nx σ H):
  ∃W:Nat->Nat->St->Hp->Prop,(∃m,W 0 m σ H)/\∀i m σ H,W i m σ H->
   ((vY K a).stop i H/\D.nx σ H)∨((vY K a).go i H/\∃N:St->Hp->Prop,(∀h H',N h H'->∃k,k<m/\W (i+ 1) k h H')/\∀x H',(vY K a).yld i H x H'->g x σ H' λd f=>j {D with nx:=N,ct:=N,bk:=D.nx} d f):=by
 refine⟨λi m σ H=>m=xs.length-i/\i<=xs.length/\b i σ H,⟨xs.length,by simp,kx _,h0⟩,?_⟩;rintro i m σ H ⟨rfl,o,p⟩;have q:=l i σ H o p;by_cases c:i<xs.length
 ·refine .inr ⟨⟨xs,xs[i],q,by simp[c]⟩,b (i+ 1),λh H' r=>⟨xs.length-(i+ 1),by omega,rfl,c,r⟩,λx H' y=>?_⟩;obtain⟨e,y⟩:=y;subst e;exact n i x σ _ (y xs q) p
 ·have e:i=xs.length:=by omega
  subst e;exact .inl ⟨⟨xs,q,Yo _⟩,hd σ H p⟩
theorem rP{lo:Int}{g:TG}{h:TS}(a:Nat->St->Hp->Prop)(h0:a 0 σ H)(k:∀i σ H,i<n->a i σ H->g (.int (lo+ i)) σ H λc d=>h {D with nx:=a (i+ 1),ct:=a (i+ 1),bk:=D.nx} c d)(hd:∀σ H,a n σ H->D.nx σ H):
  ∃W:Nat->Nat->St->Hp->Prop,(∃m,W 0 m σ H)/\∀i m σ H,W i m σ H->
   ((yi lo n).stop i H/\D.nx σ H)∨((yi lo n).go i H/\∃N:St->Hp->Prop,(∀f H',N f H'->∃j,j<m/\W (i+ 1) j f H')/\∀x H',(yi lo n).yld i H x H'->g x σ H' λc d=>h {D with nx:=N,ct:=N,bk:=D.nx} c d):=by
 refine⟨λi m σ H=>m=n-i/\i<=n/\a i σ H,⟨n,by simp,kx _,h0⟩,?_⟩;rintro i m σ H ⟨rfl,o,p⟩;by_cases b:i<n
 ·refine .inr ⟨b,a (i+ 1),λf H' l=>⟨n-(i+ 1),by omega,rfl,b,l⟩,λx H' y=>?_⟩;obtain⟨e,y⟩:=y;subst e y;exact k i σ _ b p
 ·have e:i=n:=by omega
  subst e;exact .inl ⟨Yo _,hd σ H p⟩
abbrev R2:=V->V->Hp->VK->Prop
variable{r:R2}
def iF(X:Cx)(f:Yd->Yd->Fe Yd)(r:R2):Prop:=
 ∀(a:List (Yf×Y1)) (s:Yh) (σ:St) (H:Hp) (x y:V) (v u:Yd) (Q:VK),aC X a σ H s->RelV x v->RelV y u->r x y H Q->
  Yj (Ym X.prog X.w) X.A (f v u) (EP X a σ Q) X.xe s
def Bi(X:Cx)(f:Yd->Fe Yd)(r:V->Hp->VK->Prop):Prop:=
 ∀(a:List (Yf×Y1)) (s:Yh) (σ:St) (H:Hp) (x:V) (v:Yd) (Q:VK),aC X a σ H s->RelV x v->r x H Q->
  Yj (Ym X.prog X.w) X.A (f v) (EP X a σ Q) X.xe s
def cY(X:Cx)(f:Yd)(r:List V->Hp->VK->Prop):Prop:=
 ∀(a:List (Yf×Y1)) (s:Yh) (σ:St) (H:Hp) (b:List V) (c:List Yd) (Q:VK),aC X a σ H s->Vals b c->r b H Q->
  Yj (Ym X.prog X.w) X.A (call f c) (EP X a σ Q) X.xe s
def AO(X:Cx)(r:V->Hp->(Bool->Hp->Prop)->Prop):Prop:=
 ∀(a:List (Yf×Y1)) (s:Yh) (σ:St) (H:Hp) (x:V) (v:Yd) (Q:Bool->Hp->Prop),aC X a σ H s->RelV x v->r x H Q->
  Yj (Ym X.prog X.w) X.A (truthy v) (TP X a σ Q) X.xe s
def vQ(r:R2)(a b:TE):TE:=λσ H Q=>a σ H λx c=>b σ c λy d=>r x y d Q
def By(r:V->Hp->VK->Prop)(a:TE):TE:=λσ H Q=>a σ H λx b=>r x b Q
def rI(C:Int->Int->Prop)(g:Int->Int->V):R2:=λx y H Q=>∃i j,x=.int i/\y=.int j/\C i j/\Q (g i j) H
def xH(g:Int->Int->V):R2:=λx y H Q=>∃i j,x=.int i/\y=.int j/\Q (g i j) H
def rU(g:Int->V):V->Hp->VK->Prop:=λx H Q=>∃i,x=.int i/\Q (g i) H
section
variable{a b:YN}
theorem y4(ha:PE X a ta)(hb:PE X b tb)(I:aC X Za σ H s)(h:ta σ H λx e=>tb σ e λy c=>R x y c)(i:∀v u d x y c,aC X Za σ c d->RelV x v->RelV y u->R x y c->Yj (Ym X.prog X.w) X.A (f v u) Q X.xe d):
  Yj (Ym X.prog X.w) X.A (dk a X.env) (λv j=>Yj (Ym X.prog X.w) X.A (dk b X.env) (λu k=>Yj (Ym X.prog X.w) X.A (f v u) Q X.xe k) X.xe j) X.xe s:=by
 refine bQ (ha Za s σ H _ I h) λv l g=>?_;obtain⟨x,e,m,n,o⟩:=g;refine bQ (hb Za l σ e _ m o) λu d g=>?_;obtain⟨y,c,p,q,r⟩:=g;exact i v u d x y c p n q r
theorem ay{c:Operator}(d:iF X (Df c) r)(ha:PE X a ta)(hb:PE X b tb):PE X (.BinOp a c b pos) (vQ r ta tb):=by
 intro e s σ H Q I h;exact wpAny_BinOp (y4 ha hb I h λv u f x y g i j k q=>d e f σ g x y v u Q i j k q)
theorem xC{b:UnaryOp}{r:V->Hp->VK->Prop}(d:Bi X (unaryOp b) r)(ha:PE X a ta):PE X (.UnaryOp b a pos) (By r ta):=by
 intro c s σ H Q I h;exact UnaryOp_ (bQ (ha c s σ H _ I h) λv e ⟨x,f,g,i,j⟩=>d c e σ f x v Q g i j)
theorem Ad{C:Int->Int->Prop}(rule:∀(i j:Int) (t u:FH) (s:Yh) (Q:Yd->Yh->Prop) (E:Yd->Yh->Prop),C i j->Q (.int (g i j) s.toks) {s with toks:=s.toks+ 1}->Yj (Ym X.prog X.w) X.A (f (.int i t) (.int j u)) Q E s):
  iF X f (rI C λi j=>.int (g i j)):=by
 intro d s σ H x y v u Q I a b h;obtain⟨i,j,rfl,rfl,hc,q⟩:=h;obtain⟨t,rfl⟩:=a;obtain⟨c,rfl⟩:=b;exact rule i j t c s _ _ hc ⟨.int (g i j),H,I.tok _,⟨_,rfl⟩,q⟩
theorem Aa(rule:∀(i j:Int) (t u:FH) (s:Yh) (Q:Yd->Yh->Prop) (E:Yd->Yh->Prop),Q (.int (g i j) s.toks) {s with toks:=s.toks+ 1}->Yj (Ym X.prog X.w) X.A (f (.int i t) (.int j u)) Q E s):
  iF X f (xH λi j=>.int (g i j)):=by
 intro d s σ H x y v u Q I a b h;obtain⟨i,j,rfl,rfl,q⟩:=h;obtain⟨t,rfl⟩:=a;obtain⟨c,rfl⟩:=b;exact rule i j t c s _ _ ⟨.int (g i j),H,I.tok _,⟨_,rfl⟩,q⟩
theorem yt{g:Int->Int->Bool}(rule:∀(i j:Int) (t u:FH) (s:Yh) (Q:Yd->Yh->Prop) (E:Yd->Yh->Prop),Q (.bool (g i j)) s->Yj (Ym X.prog X.w) X.A (f (.int i t) (.int j u)) Q E s):
  iF X f (xH λi j=>.bl (g i j)):=by
 intro d s σ H x y v u Q I a b h;obtain⟨i,j,rfl,rfl,q⟩:=h;obtain⟨t,rfl⟩:=a;obtain⟨c,rfl⟩:=b;exact rule i j t c s _ _ ⟨.bl (g i j),H,I,rfl,q⟩
def Ba(i j:Int):Prop:=0<j/\j<1073741824
def Bf(i j:Int):Prop:=0<=j/\j<=1000000/\i.natAbs<2^64
def vR(i j:Int):Prop:=(-(2^64)<i/\i<2^64)∨(-(2^64)<j/\j<2^64)
theorem vR.ok{i j:Int}(h:vR i j):IntMulOk i j:=by
 rcases h with⟨h1,h2⟩|⟨h1,h2⟩
 ·exact .of_left (Hd h1 h2)
 ·exact .of_right (Hd h1 h2)
theorem gy:iF X (Df .Add) (xH λi j=>.int (i+ j)):=Aa λ_ _ _ _ _ _ _ q=>add_int q
theorem uI:iF X (Df .Sub) (xH λi j=>.int (i-j)):=Aa λ_ _ _ _ _ _ _ q=>sub_int q
theorem xY:iF X (Df .Mult) (rI vR λi j=>.int (i*j)):=Ad λ_ _ _ _ _ _ _ hc q=>mul_int q hc.ok
theorem bP:iF X (Df .FloorDiv) (rI Ba λi j=>.int (i / j)):=Ad λi j _ _ _ _ _ hc q=>by
 have h1:(0:Int)<j:=hc.1;have h2:j<1073741824:=hc.2;exact Hq (by omega) (by rw[Eh i (by omega)];exact q) (.inl (PyProof.noPylong_small (by omega)))
theorem bp:iF X (Df .Mod) (rI (λ_ j=>0<j) λi j=>.int (i%j)):=Ad λi j _ _ _ _ _ hc q=>by
 have h1:(0:Int)<j:=hc;exact mod_int' (by omega) (by rw[Int.fmod_eq_emod_of_nonneg i (by omega)];exact q)
theorem fM:iF X (Df .Pow) (rI Bf λi j=>.int (i^j.toNat)):=Ad λ_ _ _ _ _ _ _ hc q=>pow_int_small hc.1 hc.2.1 hc.2.2 q
theorem BG{f:Yd->Fe Yd}{g:Int->Int}
  (rule:∀(i:Int) (t:FH) (s:Yh) (Q:Yd->Yh->Prop) (E:Yd->Yh->Prop),Q (.int (g i) s.toks) {s with toks:=s.toks+ 1}->Yj (Ym X.prog X.w) X.A (f (.int i t)) Q E s):
  Bi X f (rU λi=>.int (g i)):=by
 intro b s σ H x v Q I a h;obtain⟨i,rfl,q⟩:=h;obtain⟨t,rfl⟩:=a;exact rule i t s _ _ ⟨.int (g i),H,I.tok _,⟨_,rfl⟩,q⟩
theorem ur:Bi X (unaryOp .USub) (rU λi=>.int (-i)):=BG λ_ _ _ _ _ q=>neg_int q
end
noncomputable def zD:V->V->Bool
 | .non,.non=>true| .non,.int _=>true| .int _,.non=>true| .non,.bl _=>true| .bl _,.non=>true| .non,.str _=>true| .str _,.non=>true
 | .int _,.int _=>true| .bl _,.bl _=>true| .str _,.str _=>true| .byt _,.byt _=>true
 | .int _,.str _=>true| .str _,.int _=>true| .bl _,.str _=>true| .str _,.bl _=>true
 |_,_=>false
def Bl:R2:=λx y H Q=>zD x y=true/\Q (.bl (decide (x=y))) H
def Bg:R2:=λx y H Q=>zD x y=true/\Q (.bl (!decide (x=y))) H
theorem rb{i j:Int}:decide (V.int i=V.int j)=(i==j):=by
 rw[xo];simp
theorem tN{i j:Bool}:decide (V.bl i=V.bl j)=(i==j):=by
 rw[xo];simp
theorem rH{i j:Yg}:decide (V.str i=V.str j)=(i==j):=by
 rw[xo];simp
theorem qT{i j:Array UInt8}:decide (V.byt i=V.byt j)=(i.toList==j.toList):=by
 rw[xo];cases i;cases j;simp
section
variable{a b:YN}
theorem aT{Q:VK}{k a:Bool}(I:aC X Za σ H s)(q:Q (.bl k) H)(e:k=a):EP X Za σ Q (.bool a) s:=by
 subst e;exact⟨.bl k,H,I,rfl,q⟩
theorem dE:iF X (gm .Eq) Bl:=by
 intro e s σ H x y v u Q I d a h;obtain⟨c,q⟩:=h;cases x with
 |non=>
  cases d;cases y with
  |non=>cases a;exact PySem.EqNone.eq_none_none (aT I q (by simp))
  |bl j=>cases a;exact PySem.EqNone.eq_none_bool (aT I q (by simp))
  |int j=>obtain⟨b,rfl⟩:=a;exact PySem.EqNone.eq_none_int (aT I q (by simp))
  |str j=>obtain⟨b,rfl⟩:=a;exact PySem.EqNone.eq_none_str (aT I q (by simp))
  |_=>exact absurd (show false=true from c) Yr
 |bl i=>
  cases d;cases y with
  |non=>cases a;exact PySem.EqNone.eq_bool_none (aT I q (by simp))
  |bl j=>cases a;exact eq_bool (aT I q tN)
  |str j=>obtain⟨b,rfl⟩:=a;exact PySem.EqMixed.eq_bool_str (aT I q (by simp))
  |_=>exact absurd (show false=true from c) Yr
 |int i=>
  obtain⟨t,rfl⟩:=d;cases y with
  |non=>cases a;exact PySem.EqNone.eq_int_none (aT I q (by simp))
  |int j=>obtain⟨b,rfl⟩:=a;exact eq_int (aT I q rb)
  |str j=>obtain⟨b,rfl⟩:=a;exact PySem.EqMixed.eq_int_str (aT I q (by simp))
  |_=>exact absurd (show false=true from c) Yr
 |str i=>
  obtain⟨t,rfl⟩:=d;cases y with
  |non=>cases a;exact PySem.EqNone.eq_str_none (aT I q (by simp))
  |bl j=>cases a;exact PySem.EqMixed.eq_str_bool (aT I q (by simp))
  |int j=>obtain⟨b,rfl⟩:=a;exact PySem.EqMixed.eq_str_int (aT I q (by simp))
  |str j=>obtain⟨b,rfl⟩:=a;exact eq_str (aT I q rH)
  |_=>exact absurd (show false=true from c) Yr
 |byt i=>
  obtain⟨t,rfl⟩:=d;cases y with
  |byt j=>obtain⟨b,rfl⟩:=a;exact PySem.W.eq_bytes (aT I q qT)
  |_=>exact absurd (show false=true from c) Yr
 |_=>cases y<;>exact absurd (show false=true from c) Yr
theorem lJ:iF X (gm .NotEq) Bg:=by
 intro e s σ H x y v u Q I d a h;obtain⟨c,q⟩:=h;cases x with
 |non=>
  cases d;cases y with
  |non=>cases a;exact PySem.EqNone.ne_none_none (aT I q (by simp))
  |bl j=>cases a;exact PySem.EqNone.ne_none_bool (aT I q (by simp))
  |int j=>obtain⟨b,rfl⟩:=a;exact PySem.EqNone.ne_none_int (aT I q (by simp))
  |str j=>obtain⟨b,rfl⟩:=a;exact PySem.EqNone.ne_none_str (aT I q (by simp))
  |_=>exact absurd (show false=true from c) Yr
 |bl i=>
  cases d;cases y with
  |non=>cases a;exact PySem.EqNone.ne_bool_none (aT I q (by simp))
  |bl j=>cases a;exact ne_bool (aT I q (congrArg not tN))
  |str j=>obtain⟨b,rfl⟩:=a;exact PySem.EqMixed.ne_bool_str (aT I q (by simp))
  |_=>exact absurd (show false=true from c) Yr
 |int i=>
  obtain⟨t,rfl⟩:=d;cases y with
  |non=>cases a;exact PySem.EqNone.ne_int_none (aT I q (by simp))
  |int j=>obtain⟨b,rfl⟩:=a;exact ne_int (aT I q (congrArg not rb))
  |str j=>obtain⟨b,rfl⟩:=a;exact PySem.EqMixed.ne_int_str (aT I q (by simp))
  |_=>exact absurd (show false=true from c) Yr
 |str i=>
  obtain⟨t,rfl⟩:=d;cases y with
  |non=>cases a;exact PySem.EqNone.ne_str_none (aT I q (by simp))
  |bl j=>cases a;exact PySem.EqMixed.ne_str_bool (aT I q (by simp))
  |int j=>obtain⟨b,rfl⟩:=a;exact PySem.EqMixed.ne_str_int (aT I q (by simp))
  |str j=>obtain⟨b,rfl⟩:=a;exact ne_str (aT I q (congrArg not rH))
  |_=>exact absurd (show false=true from c) Yr
 |byt i=>
  obtain⟨t,rfl⟩:=d;cases y with
  |byt j=>obtain⟨b,rfl⟩:=a;exact PySem.W.ne_bytes (aT I q (congrArg not qT))
  |_=>exact absurd (show false=true from c) Yr
 |_=>cases y<;>exact absurd (show false=true from c) Yr
theorem j5:iF X (gm .Lt) (xH λi j=>.bl (decide (i<j))):=yt λ_ _ _ _ _ _ _ q=>lt_int q
theorem mZ:iF X (gm .Gt) (xH λi j=>.bl (decide (j<i))):=yt λ_ _ _ _ _ _ _ q=>gt_int q
theorem zM:iF X (gm .GtE) (xH λi j=>.bl (decide (j<=i))):=yt λ_ _ _ _ _ _ _ q=>ge_int q
theorem sF:iF X (gm .In) (λx y H Q=>∃i j,x=.str i/\y=.str j/\Q (.bl (!(uc j i 0 j.length 1).isEmpty)) H):=by
 intro c s σ H x y v u Q I a b h;obtain⟨i,j,rfl,rfl,q⟩:=h;obtain⟨t,rfl⟩:=a;obtain⟨d,rfl⟩:=b;exact in_str (aT I q rfl)
theorem lE:iF X (gm .Is) (λx y H Q=>y=.non/\Q (.bl (decide (x=.non))) H):=by
 intro c s σ H x y v u Q I a b h;obtain⟨rfl,q⟩:=h;cases b;refine is_none_gen (aT I q ?_);cases x<;>first
  |(cases a;rfl)
  |(obtain⟨t,rfl⟩:=a;rfl)
theorem w6:iF X (gm .IsNot) (λx y H Q=>y=.non/\Q (.bl (!decide (x=.non))) H):=by
 intro c s σ H x y v u Q I a b h;obtain⟨rfl,q⟩:=h;cases b;refine isnot_none_gen (aT I q ?_);cases x<;>first
  |(cases a;rfl)
  |(obtain⟨t,rfl⟩:=a;rfl)
theorem nG:iF X (gm .NotIn) (λx y H Q=>∃i j,x=.str i/\y=.str j/\Q (.bl (!(!(uc j i 0 j.length 1).isEmpty))) H):=by
 intro c s σ H x y v u Q I a b h;obtain⟨i,j,rfl,rfl,q⟩:=h;obtain⟨t,rfl⟩:=a;obtain⟨d,rfl⟩:=b;exact notIn_str (aT I q rfl)
theorem aF(b:YN)(h:op≠.In:=by decide)(h2:op≠.NotIn:=by decide):Ei op b=false:=by
 have a:(op==CmpOp.In)=false:=by cases op<;>first|rfl|exact absurd rfl h
 have c:(op==CmpOp.NotIn)=false:=by cases op<;>first|rfl|exact absurd rfl h2
 cases b<;>simp[Ei,a,c]
theorem fi(c:iF X (gm op) r)(ha:PE X a ta)(hb:PE X b tb)(hm:Ei op b=false):PE X (.Compare a [op] [b] pos) (vQ r ta tb):=by
 intro d s σ H Q I h;exact wpAny_Compare1 (y4 ha hb I h λv u e x y f g i j q=>c d e σ f x y v u Q g i j q) hm
def xB(t:TE):TT:=λσ H Q=>t σ H λx a=>∃k,x=.bl k/\Q k a
theorem az(g:iF X (gm op) r)(ha:PE X a ta)(hb:PE X b tb)(hm:Ei op b=false):PT X (.Compare a [op] [b] pos) (xB (vQ r ta tb)):=by
 intro f s σ H Q I h;refine wpAny_isTrue_Compare1 (bQ (ha f s σ H _ I h) λv i d=>?_) hm;obtain⟨x,j,l,m,n⟩:=d;refine bQ (hb f i σ j _ l n) λu o d=>?_;obtain⟨y,p,q,t,w⟩:=d;refine bQ (g f o σ p x y v u _ q m t w) λc E d=>?_;obtain⟨z,A,B,C,k,e,D⟩:=d;subst e;cases C;exact CI ⟨A,B,D⟩
def uN(K:Yc)(x:V)(H:Hp)(k:Bool):Prop:=
 match x with
 | .non=>k=false
 | .bl b=>k=b
 | .int i=>k=(i !=0)
 | .str y=>y.length<=Yp/\k=((y.length:Int) !=0)
 | .byt y=>y.size<=Yp/\k=((y.size:Int) !=0)
 | .ref p=>(∃a,bw K H p a/\k=!a.isEmpty)∨(∃a,gU K H p a/\k=!a.isEmpty)∨∃c,H p=Ya (.dK c)/\k=!c.isEmpty
 |_=>False
theorem qv{κ:Type}{a:List (κ×V)}{vs:List (κ×Yd)}(r:KV a vs):(!vs.isEmpty)=!a.isEmpty:=by
 cases r<;>rfl
theorem lu{a:List Yd}(r:Vals xs a):(!a.toArray.isEmpty)=!xs.isEmpty:=by
 cases r<;>simp
theorem iz:(Yp:Nat)<2^63:=by rw[Gk];decide
theorem xZ:AO X (λx H Q=>∃k,uN X.K x H k/\Q k H):=by
 intro z s σ H x v Q I f h;obtain⟨k,e,q⟩:=h;have A:=iz;have B:Yp=16777216:=Gk;cases x with
 |non=>
  cases f;have a:k=false:=e;subst a;exact truthy_none ⟨H,I,q⟩
 |bl b=>
  cases f;have a:k=b:=e;subst a;exact CI ⟨H,I,q⟩
 |int i=>
  obtain⟨t,rfl⟩:=f;have a:k=(i !=0):=e;subst a;exact PySem.P.truthy_int ⟨H,I,q⟩
 |str y=>
  obtain⟨t,rfl⟩:=f;obtain⟨o,a⟩:y.length<=Yp/\k=((y.length:Int) !=0):=e;subst a;exact PySem.P.truthy_str (by omega) ⟨H,I.tok _,q⟩
 |byt y=>
  obtain⟨t,rfl⟩:=f;obtain⟨o,a⟩:y.size<=Yp/\k=((y.size:Int) !=0):=e;subst a;exact PySem.W.truthy_bytes (by omega) ⟨H,I.tok _,q⟩
 |ref p=>
  cases f;have a:(∃d,bw X.K H p d/\k=!d.isEmpty)∨(∃d,gU X.K H p d/\k=!d.isEmpty)∨∃g,H p=Ya (.dK g)/\k=!g.isEmpty:=e;rcases a with⟨d,j,a⟩|⟨d,j,a⟩|⟨g,j,a⟩
  ·subst a;obtain⟨u,r,l,n⟩:=I.list j;have c:=r.length;exact wpAny_truthy_list l.isList (by simp only[Yx];omega) ⟨H,I.tok _,by rw[lu r];exact q⟩
  ·subst a;obtain⟨u,r,l,n⟩:=I.tuple j;have c:=r.length;exact truthy_tuple l (by simp only[Yx];omega) ⟨H,I.tok _,by rw[lu r];exact q⟩
  ·subst a;obtain⟨n,w,vs,r,m⟩:g.length<=Yp/\(p==Ez)=false/\∃vs,KV g vs/\s.heap.DictOf (om X.prog X.w) p vs:=I.hok p _ j;have c:g.length=vs.length:=Paired.length r;exact wpAny_truthy_dict w m (by omega) ⟨H,I.tok _,by rw[qv r];exact q⟩
 |_=>exact(show False from e).elim
theorem pq(ha:PE X a ta)(d:∀b,GI a X.env b=(do let v←b;F3 a.pos;DF [v] (truthy v))):
  PT X a (λσ H Q=>ta σ H λx H'=>∃k,uN X.K x H' k/\Q k H'):=by
 intro c s σ H Q I h;exact isTrue_plain (bQ (ha c s σ H _ I h) λv e ⟨x,f,g,i,j⟩=>xZ c e σ f x v Q g i j) (d _)
theorem aN:iF X (Df .Add) (λx y H Q=>∃i j,x=.str i/\y=.str j/\i.length+ j.length<=Yp/\Q (.str (i++j)) H):=by
 intro d s σ H x y v u Q I a b h;obtain⟨i,j,rfl,rfl,c,q⟩:=h;obtain⟨t,rfl⟩:=a;obtain⟨t',rfl⟩:=b;exact add_str (λt' e=>⟨.str (i++j),H,I.tok _,⟨_,rfl⟩,q⟩) c
theorem fy{x:V}(r:Vals [x] us):∃u,us=[u]/\RelV x u:=by
 cases r with
 |cons r1 r2=>cases r2;exact⟨_,rfl,r1⟩
theorem vK{x:V}(r:Vals [x,y] us):∃u a,us=[u,a]/\RelV x u/\RelV y a:=by
 cases r with
 |cons r1 r2=>
  cases r2 with
  |cons r3 r4=>cases r4;exact⟨_,_,rfl,r1,r3⟩
theorem vr:cY X (.builtin "abs") (λxs H Q=>∃i,xs=[.int i]/\Q (.int (if i<0 then-i else i)) H):=by
 intro a s σ H xs b Q I r h;obtain⟨i,rfl,q⟩:=h;obtain⟨u,rfl,t,rfl⟩:=fy r;exact call_abs_int λu c=>⟨.int (if i<0 then-i else i),H,I.tok _,⟨_,rfl⟩,q⟩
theorem bz:cY X (.type "str") (λxs H Q=>∃i,xs=[.int i]/\i.natAbs.log2<1920/\Q (.str (toString i)) H):=by
 intro b s σ H xs c Q I r h;obtain⟨i,rfl,a,q⟩:=h;obtain⟨u,rfl,t,rfl⟩:=fy r;exact PySem.P.str_of_int a ⟨.str _,H,I.tok _,⟨_,rfl⟩,q⟩
end
structure qu(h:YF)(x dx C:Yf)(mA:Yg->Option Yd):Prop where
 obj:h.get? x=Ya (xk C dx)
 ns:h.Ns1 dx mA
 ne:dx≠x
theorem rV(n:h.Ns1 dx mA):∃c,h.get? dx=Ya c/\∀name,D1 name c=Ya (mA name):=by
 obtain⟨o,d,k,f,hd,g,_,hm⟩:=n;refine⟨o,f,λname=>?_⟩;have e:=hm name;unfold nsFind findBy at e;rw[←Array.find?_toList]at e;unfold D1;rw[hd];dsimp only;split
 ·rename_i y q;rw[q]at e;exact congrArg Ya e
 ·rename_i q;rw[q]at e;have a:d.toList.any (·.refKey)=false:=by
   rw[List.any_eq_false];intro y i;obtain⟨z,t,b⟩:=g y (Array.mem_toList_iff.mp i);simp[DictEntry.refKey,b]
  have j:¬ d.toList.any (·.refKey)=true:=by rw[a];exact Yr
  rw[if_neg j];exact congrArg Ya e
theorem qu.look{x:Yf}(I:qu h x dx C mA):∃a,PySem.W.InstAt h x (xk C dx) C (Ya a)/\∀name,D1 name a=Ya (mA name):=
 let ⟨a,ho,hl⟩:=rV I.ns
 ⟨a,⟨I.obj,rfl,rfl,ho⟩,hl⟩
section
variable{K:Yc}{x f:Yf}{v:Yd}
theorem wX{a:Bool}(X:K.In s.heap)(I:qu s.heap x dx C mA)(c:Dz K C name=true)(d:Dt K C=true)(ha:Y8 K (.ref C) name=Ya Yb)(e:mA name=Ya v)(b:EI v=true)(h:Q v {s with toks:=s.toks+ 1}):
  Yj (Ym prog w) A (HM (.ref x) name a) Q E s:=by
 obtain⟨g,J,f⟩:=I.look;exact PySem.W.get_value X J (DX c).1 (PySem.W.findObj_own d ha rfl (by rw[f,e])) b h
theorem tO{Q:Yd×List Yd->Yh->Prop}(X:K.In s.heap)(I:qu s.heap x dx C mA)(a:Dz K C name=true)(b:Y8 K (.ref C) name=Ya (Ya (.ref f)))(c:FR K (.ref f)=true)(d:mA name=Yb)(h:Q (.ref f,[.ref x]) s):
  Yj (Ym prog w) A (FT (.ref x) name pl) Q E s:=by
 obtain⟨e,J,g⟩:=I.look;exact PySem.W.method_fn X J (DX a).1 (DX a).2 b (beq_iff_eq.mp c) (by show(D1 name e).map (·.isSome)=Ya false;rw[g,d];rfl) h
theorem wm{ns:List Yg}{Q:Unit->Yh->Prop}(X:K.In s.heap)(I:qu s.heap x dx C mA)
  (j:Y8 K (.ref C) "__setattr__"=Ya (Ya (.builtin "object.__setattr__"))) (k:F8 K C=true) (l:EY K C name=Ya Yb) (m:Dt K C=true)
  (hw:FQ mA ns) (n:ns.length<=Yp)
  (h:∀h',qu h' x dx C (λy=>if y=name then Ya v else mA y)->rl dx s.heap h'->Q () {s with heap:=h',toks:=s.toks+ 2}):
  Yj (Ym prog w) A (setAttr (.ref x) name v) Q E s:=by
 obtain⟨t,J,u⟩:=I.look;refine PySem.W.set_plain X J j (PySem.W.osa_open (s:={s with toks:=s.toks+ 1}) (r:=Yb) X J k l λb=>?_);obtain⟨z,hc,e⟩:=PySem.W.any_some m;have o:s.heap.get? x=Ya ⟨.ref C,Ya dx,.plain,#[]⟩:=I.obj;refine Ye (Yk (Ye (Ye (wpAny_loadPart o (Ye (PySem.W.Looks.here (s:={s with toks:=s.toks+ 1}) (PySem.W.looks_clsIn X hc) ?_))))));rw[e];refine Yk (a:=Ya dx) (Ye (Yk (Ye ?_)));refine wpAny_nsSet1 (s:={s with toks:=s.toks+ 1}) I.ns λh' c d=>?_;obtain⟨oD,p,q,f,g,i⟩:=c.count (PySem.Within.cons name v hw);refine Ye (wpAny_lookBehind f (by rw[g];exact pastItsLine_dict (YI i (by rw[YJ];omega))) ?_);exact Yk (h _ ⟨(d.2 _ (Ne.symm I.ne)).trans I.obj,c,I.ne⟩ d)
theorem tP{R:Dv->Yh->Prop}{vs:List Yd}(X:K.In s.heap)(hm:GL K C=true)(a:Y8 K (.ref C) "__init__"=Ya (Ya (.ref f)))(b:PySem.W.typeIn K (.ref f)=Ya (.type "function"))(h:lr (Ym prog w) (A.under (.builtin "type.__call__" ⟨.ref C::vs,kw⟩)) (.call (.ref f) ⟨.ref (s.heap.objs.size+ 1)::vs,kw⟩) (PySem.W.InitBack (s.heap.objs.size+ 1) R)
   {s with heap:=(s.heap.push oo).push (xk C s.heap.objs.size)}):
  lr (Ym prog w) A (.call (.ref C) ⟨vs,kw⟩) R s:=by
 obtain⟨c,g,d,t,os⟩:=s;exact PySem.W.make_core (PySem.W.makes_of X hm) (PySem.W.looks_findIn X a) (λself=>PySem.W.bind_fn X self b) (.inl rfl) h
end
noncomputable def dq(f:Yg)(v:V):List (Yg×V)->List (Yg×V)
 |[]=>[(f,v)]
 |(g,x)::r=>if g=f then(g,v)::r else(g,x)::dq f v r
theorem kc(f g:Yg)(v:V):∀fs:List (Yg×V),(dq f v fs).lookup g=if g=f then Ya v else fs.lookup g
 |[]=>by
  show C2 g [(f,v)]=_;by_cases h:g=f
  ·have hb:(g==f)=true:=beq_iff_eq.mpr h;simp only[C2,hb,if_pos h]
  ·have hb:(g==f)=false:=beq_eq_false_iff_ne.mpr h;simp only[C2,hb,if_neg h]
 |(k,x)::r=>by
  have b:=kc f g v r;rw[show dq f v ((k,x)::r)=(if k=f then(k,v)::r else(k,x)::dq f v r)from rfl];by_cases a:k=f
  ·rw[if_pos a];by_cases h:g=k
   ·have hb:(g==k)=true:=beq_iff_eq.mpr h;simp only[C2,hb,if_pos (h.trans a)]
   ·have hb:(g==k)=false:=beq_eq_false_iff_ne.mpr h;simp only[C2,hb,if_neg (λe:g=f=>h (e.trans a.symm))]
  ·rw[if_neg a];by_cases h:g=k
   ·have hb:(g==k)=true:=beq_iff_eq.mpr h;simp only[C2,hb,if_neg (λe:g=f=>a (h.symm.trans e))]
   ·have hb:(g==k)=false:=beq_eq_false_iff_ne.mpr h;simp only[C2,hb];exact b
theorem jW(f:Yg)(v:V):∀fs:List (Yg×V),f∈(dq f v fs).map (·.1)/\∀g,g∈fs.map (·.1)->g∈(dq f v fs).map (·.1)
 |[]=>⟨by simp[dq],λg h=>by simp at h⟩
 |(k,x)::r=>by
  obtain⟨b,c⟩:=jW f v r;rw[show dq f v ((k,x)::r)=(if k=f then(k,v)::r else(k,x)::dq f v r)from rfl];by_cases a:k=f
  ·rw[if_pos a];subst a;exact⟨by simp,λg h=>by simpa using h⟩
  ·rw[if_neg a];refine⟨?_,λg h=>?_⟩
   ·rw[Cd];exact Yw _ b
   ·rw[Cd]at h⊢;rcases YK.mp h with e|e
    ·exact YK.mpr (.inl e)
    ·exact Yw _ (c g e)
theorem j6(f:Yg)(v:V):∀fs:List (Yg×V),(dq f v fs).length<=fs.length+ 1
 |[]=>by simp[dq]
 |(k,x)::r=>by
  have b:=j6 f v r;rw[show dq f v ((k,x)::r)=(if k=f then(k,v)::r else(k,x)::dq f v r)from rfl];by_cases a:k=f
  ·rw[if_pos a,YJ,YJ];omega
  ·rw[if_neg a,YJ,YJ];omega
theorem mC.some_of{o:Option Yd}(r:mC (Ya v) o):∃u,o=Ya u/\RelV v u:=by
 cases o with
 |none=>exact(show False from r).elim
 |some u=>exact⟨u,rfl,r⟩
theorem mC.none_of{o:Option Yd}(r:mC Yb o):o=none:=by
 cases o with
 |none=>rfl
 |some u=>exact(show False from r).elim
theorem sX(r:RelV v u):EI u=true:=by
 cases v with
 |non=>cases (show u=Cz from r);rfl
 |bl b=>cases (show u=Dm b from r);rfl
 |int i=>obtain⟨t,e⟩:=(show∃t,u=FP i t from r);cases e;rfl
 |str x=>obtain⟨t,e⟩:=(show∃t,u=EW x t from r);cases e;rfl
 |byt b=>obtain⟨t,e⟩:=(show∃t,u=HK b t from r);cases e;rfl
 |flt b=>obtain⟨t,e⟩:=(show∃t,u=Gj b t from r);cases e;rfl
 |ref a=>cases (show u=YZ a from r);rfl
 |ty n=>cases (show u=pw n from r);rfl
section
variable{fs':List (Yg×V)}
theorem kU(hok:gS P w H h)(e:H a=Ya (.ins C dx fs)):∃mA,qu h a dx C mA/\(∀f,mC (fs.lookup f) (mA f))/\FQ mA (fs.map (·.1))/\fs.length<=1000/\H dx=Ya (.own a):=by
 obtain⟨d,z,ne,ob,mA,n,r,q⟩:=(show bU P w H h a (.ins C dx fs)from hok a _ e);exact⟨mA,⟨ob,n,ne⟩,r,q,z,d⟩
end
structure qO(K:Yc)(C:Yf):Prop where
 pg:Dz K C HW=true
 hd:Dt K C=true
 po:F8 K C=true
 sa:Y8 K (.ref C) "__setattr__"=Ya (Ya (.builtin "object.__setattr__"))
theorem qO.get{K:Yc}(c:qO K C)(f:Yg):Dz K C f=true:=c.pg
def cF(K:Yc)(C:Yf)(f:Yg):Prop:=Y8 K (.ref C) f=Ya Yb
theorem cF.taker{K:Yc}{f:Yg}(n:cF K C f):EY K C f=Ya none:=by
 unfold EY;rw[show Y8 K (.ref C) f=Ya Yb from n];rfl
structure iE(K:Yc)(C:Yf)(m:Yg)(f:Yf):Prop where
 at_:Y8 K (.ref C) m=Ya (Ya (.ref f))
 fn:FR K (.ref f)=true
 kp:Ci K (.ref f)=true
section
variable{f:Yg}
theorem qC{b:Bool}(I:aC X Za σ H s)(e:H a=Ya (.ins C dx fs))(c:qO X.K C)(n:cF X.K C f)(l:fs.lookup f=Ya v)(h:∀u s',aC X Za σ H s'->RelV v u->Q u s'):Yj (Ym X.prog X.w) A (HM (.ref a) f b) Q E s:=by
 obtain⟨g,O,r,_,_,_⟩:=kU I.hok e;obtain⟨u,i,d⟩:=mC.some_of (v:=v) (o:=g f) (by rw[←l];exact r f);exact wX I.kIn O (c.get f) c.hd n i (sX d) (h u _ (I.tok _) d)
theorem qq{g:Yf}{Q:Yd×List Yd->Yh->Prop}(I:aC X Za σ H s)(e:H a=Ya (.ins C dx fs))(c:qO X.K C)(k:iE X.K C m g)(l:fs.lookup m=Yb)(h:Q (.ref g,[.ref a]) s):Yj (Ym X.prog X.w) A (FT (.ref a) m pl) Q E s:=by
 obtain⟨b,O,r,_,_,_⟩:=kU I.hok e;have hn:b m=none:=mC.none_of (by rw[←l];exact r m);exact tO I.kIn O (c.get m) k.at_ k.fn hn h
theorem qh{Q:Unit->Yh->Prop}(I:aC X Za σ H s)(e:H a=Ya (.ins C dx fs))(c:qO X.K C)(n:cF X.K C f)(w:fs.length<1000)(l:RelV y u)(h:∀s',aC X Za σ (upd H a (.ins C dx (dq f y fs))) s'->Q () s'):Yj (Ym X.prog X.w) A (setAttr (.ref a) f u) Q E s:=by
 obtain⟨i,O,r,j,_,k⟩:=kU I.hok e;have m:(fs.map (·.1)).length<=Yp:=by rw[Yn,Gk];omega
 refine wm I.kIn O c.sa c.po n.taker c.hd j m λp d t=>h _ ?_;have hd:∃o,p.get? dx=Ya o:=let ⟨o,_,_,e',_⟩:=d.ns;⟨o,e'⟩;refine I.write (x:=a) (e:=dx) (by rw[e];exact Dr) (.inr k) (λb q hb z=>(t.2 b hb).trans z) hd ?_;refine⟨by rw[aR O.ne];exact k,?_,O.ne,d.obj,_,d.ns,λg=>?_,λg v=>?_⟩
 ·have:=j6 f y fs;omega
 ·show mC ((dq f y fs).lookup g) (if g=f then Ya u else i g);rw[kc];by_cases q:g=f
  ·rw[if_pos q,if_pos q];exact l
  ·rw[if_neg q,if_neg q];exact r g
 ·by_cases q:g=f
  ·rw[q];exact(jW f y fs).1
  ·refine(jW f y fs).2 g (j g λz=>v ?_);show(if g=f then Ya u else i g)=Yb;rw[if_neg q];exact z
theorem aC.made(I:aC X Za σ H s):aC X Za σ (upd (upd H s.heap.objs.size (.own (s.heap.objs.size+ 1))) (s.heap.objs.size+ 1) (.ins C s.heap.objs.size []))
  {s with heap:=(s.heap.push oo).push (xk C s.heap.objs.size)}:=by
 have c:(s.heap.push oo).get? s.heap.objs.size=Ya oo:=Yu s.heap rfl;have d:((s.heap.push oo).push (xk C s.heap.objs.size)).get? (s.heap.objs.size+ 1)=Ya (xk C s.heap.objs.size):=by
  have:=Yu (s.heap.push oo) (o:=xk C s.heap.objs.size) rfl;rwa [Cj]at this
 have f:(s.heap.push oo).Ns s.heap.objs.size (λ_=>Yb):=⟨oo,#[],_,c,rfl,(λe g=>absurd g (by simp)),λ_=>rfl⟩;have h:=I.laid (a:=s.heap.objs.size) (o:=.own (s.heap.objs.size+ 1)) (h':=s.heap.push oo) (t':=s.toks) (λb u q=>Yi _ q) (Yo _) ⟨_,c⟩;refine h.laid (a:=s.heap.objs.size+ 1) (o:=.ins C s.heap.objs.size []) (t':=s.toks) (λb u q=>Yi _ q) (Dg (Cj _ _)) ?_;have ne:s.heap.objs.size≠s.heap.objs.size+ 1:=YD (Cn _);refine⟨by rw[aR ne,aI],kx _,ne,d,λ_=>Yb,(Heap.Ns1.of_empty f).at λo q=>Yi _ q,λ_=>Dr,λy i=>absurd rfl i⟩
theorem vX{env:BW}{f:Yg}(hb:Ej e f env (dk e env)=dk e env)(h:Yj (Ym prog w) A (dk e env) (λo a=>Yj (Ym prog w) A (HM o f true) Q E a) E s):Yj (Ym prog w) A (dk (.Attribute e f pos) env) Q E s:=
 Attribute_any_ h (by rw[arm_eval_Attribute,hb])
end
def yy(K:Yc)(c:TE)(f:Yg):TE:=λσ H Q=>c σ H λx b=>∃a C d fs v,x=.ref a/\b a=Ya (.ins C d fs)/\qO K C/\cF K C f/\fs.lookup f=Ya v/\Q v b
def tZ(K:Yc)(d e:TE)(f:Yg):TS:=λD σ H=>e σ H λy g=>d σ g λx b=>∃a C c fs,x=.ref a/\b a=Ya (.ins C c fs)/\qO K C/\cF K C f/\fs.length<1000/\
 D.nx σ (upd b a (.ins C c (dq f y fs)))
section
variable{o:YN}{f:Yg}
theorem yk(b:PE X e ta)(hb:Ej e f X.env (dk e X.env)=dk e X.env):PE X (.Attribute e f pos) (yy X.K ta f):=by
 intro d s σ H Q I h;refine vX hb (bQ (b d s σ H _ I h) λu r g=>?_);obtain⟨x,i,j,k,a,C,t,fs,v,ex,m,c,n,l,q⟩:=g;subst ex;obtain rfl:u=YZ a:=k;exact qC j m c n l λw y o p=>⟨v,i,o,p,q⟩
theorem yO(ha:PE X o ta)(e:PE X Zh tv)(g:EX Zh (Ya (.Attribute o f Zp)) pos.line X.env=pure false):PS X (.Assign [.Attribute o f Zp] Zh pos) (tZ X.K ta tv f):=by
 intro d s σ H D I h;refine plainObj_wpAny_Assign_Attribute (bQ (e d s σ H _ I h) λu i b=>?_) g;obtain⟨y,j,k,m,q⟩:=b;refine bQ (ha d i σ j _ k q) λp A b=>?_;obtain⟨x,B,r,t,a,C,E,fs,ex,v,c,n,l,w⟩:=b;subst ex;obtain rfl:p=YZ a:=t;exact qh r v c n l m λF z=>⟨σ,_,z,w⟩
end
section
variable{c:Yd}{b:Bool}
inductive iG (K:Yc) (H:Hp):V->Yd->Prop where
 |non:iG K H .non (.type "NoneType")
 |bl (x:Bool):iG K H (.bl x) (.type "bool")
 |int (i:Int):iG K H (.int i) (.type "int")
 |str (x:Yg):iG K H (.str x) (.type "str")
 |flt (x:UInt64):iG K H (.flt x) (.type "float")
 |lst {a:Yf} {xs:List V} (e:H a=Ya (.lst xs)):iG K H (.ref a) (.type "list")
 |frz {a:Yf} {o:Y1} {xs:List V} (e:H a=Ya (.frz o (.lst xs))):iG K H (.ref a) (.type "list")
 |tup {a:Yf} {xs:List V} (e:H a=Ya (.tup xs)):iG K H (.ref a) (.type "tuple")
 |dK {a:Yf} {Zf:List (l9×V)} (e:H a=Ya (.dK Zf)):iG K H (.ref a) (.type "dict")
 |dT {a:Yf} {Zf:List (List l9×V)} (e:H a=Ya (.dT Zf)):iG K H (.ref a) (.type "dict")
 |ins {a C dx:Yf} {fs:List (Yg×V)} (e:H a=Ya (.ins C dx fs)) (cl:qO K C) (ha:Y8 K (.ref C) "__class__"=Ya (Ya (.builtin "object.__class__")))
   (hn:Eu K (.builtin "object.__class__") "__get__"=Ya (Ya (.builtin "getset_descriptor.__get__"))) (htk:GN K (.builtin "object.__class__")=Ya true)
   (hm:FI K C (.type "object")=Ya true):iG K H (.ref a) (.ref C)
theorem sE{x:V}{t:Yd}(I:aC X Za σ H s)(d:RelV x u)(ty:iG X.K H x t)(e:mr X.K t c=Ya b)(h:∀tk,Q (.bool b) {s with toks:=tk}):
  Yj (Ym X.prog X.w) A (call (.builtin "isinstance") [u,c]) Q E s:=by
 cases ty with
 |non=>cases (show u=Cz from d);exact Y9 PySem.W.kitx_none I.kIn Dr e (λz=>nomatch z) h
 |bl y=>cases (show u=Dm y from d);exact Y9 PySem.W.kitx_bool I.kIn Dr e (λz=>nomatch z) h
 |int i=>obtain⟨t,q⟩:=(show∃t,u=FP i t from d);cases q;exact Y9 PySem.W.kitx_int I.kIn Dr e (λz=>nomatch z) h
 |str y=>obtain⟨t,q⟩:=(show∃t,u=EW y t from d);cases q;exact Y9 PySem.W.kitx_str I.kIn Dr e (λz=>nomatch z) h
 |flt y=>obtain⟨t,q⟩:=(show∃t,u=Gj y t from d);cases q;exact Y9 PySem.W.kitx_float I.kIn Dr e (λz=>nomatch z) h
 |@lst a xs ea=>
  cases (show u=YZ a from d);obtain⟨_,_,n,_,h1⟩:=(show bU X.prog X.w H s.heap a (.lst xs)from I.hok a _ ea);exact Y9 F9 I.kIn ⟨_,h1,rfl⟩ e (λz=>nomatch z) h
 |@frz a ob xs ea=>
  cases (show u=YZ a from d);obtain⟨_,_,_,n,_,h1⟩:=(show bU X.prog X.w H s.heap a (.frz ob (.lst xs))from I.hok a _ ea);exact Y9 F9 I.kIn ⟨_,h1,rfl⟩ e (λz=>nomatch z) h
 |@tup a xs ea=>
  cases (show u=YZ a from d);obtain⟨_,_,_,p⟩:=(show bU X.prog X.w H s.heap a (.tup xs)from I.hok a _ ea);obtain⟨o,h1,h2,_⟩:=p;exact Y9 PySem.W.kitx_tuple I.kIn ⟨o,h1,h2⟩ e (λz=>nomatch z) h
 |@dK a Zf ea=>
  cases (show u=YZ a from d);obtain⟨_,_,j,_,p⟩:=(show bU X.prog X.w H s.heap a (.dK Zf)from I.hok a _ ea);obtain⟨o,f,g,h1,h2,_⟩:=p;exact Y9 Ga I.kIn ⟨o,h1,h2.1⟩ e (λz=>nomatch z) h
 |@dT a Zf ea=>
  cases (show u=YZ a from d);obtain⟨_,_,xs,_,o,f,g,h1,h2,_⟩:=(show bU X.prog X.w H s.heap a (.dT Zf)from I.hok a _ ea);exact Y9 Ga I.kIn ⟨o,h1,h2.1⟩ e (λz=>nomatch z) h
 |@ins a C dx fs ea cl ha hn htk hm=>
  cases (show u=YZ a from d);obtain⟨k,O,_⟩:=kU I.hok ea;obtain⟨l,J,_⟩:=O.look;exact Y9 (PySem.W.kitx_own (cl.get _) cl.hd ha hn htk hm) I.kIn J e (λz=>nomatch z) h
end
structure ck(k:Nat)(A:Y2):Prop where
 hd:A.handled=Yb
 dp:A.depth+ 3*k+ 5<G0
 un:A.units+ 16*k+ 200<C9
theorem ck.mono(r:ck k A)(h:j<=k):ck j A:=⟨r.hd,by have:=r.dp;omega,by have:=r.un;omega⟩
theorem ck.deeper(r:ck (k+ 1) A)(env:BW):ck k (A.deeper env):=
 ⟨r.hd,by have:=r.dp;show A.depth+ 1+ 3*k+ 5<_;omega,by have:=r.un;show A.units+ 3+ 16*k+ 200<_;omega⟩
theorem qe:(A.under (.builtin "type.__call__" ⟨.ref C::us,kw⟩)).depth=A.depth+ 1:=by
 first|rfl|simp[Around.under,Code.weight,Code.isCreation,Code.isGuard,Code.isCaller,Code.frames,Code.isFrame,guardIds]
theorem qD:(A.under (.builtin "type.__call__" ⟨.ref C::us,kw⟩)).units=A.units+ 1:=by
 first|rfl|simp[Around.under,Code.cUnits,Code.frames,Code.isFrame]
theorem ck.make(r:ck (k+ 1) A)(C:Yf)(us:List Yd)(a:List (Yg×Yd)):ck k (A.under (.builtin "type.__call__" ⟨.ref C::us,a⟩)):=
 ⟨r.hd,by have:=r.dp;rw[qe];omega,by have:=r.un;rw[qD];omega⟩
theorem ck.depth(r:ck k A):A.depth<G0:=by have:=r.dp;omega
theorem ck.units(r:ck k A):A.units+ 64<C9:=by have:=r.un;omega
theorem ck.units0(r:ck k A):A.units<C9:=by have:=r.un;omega
def pL:TA:=λ_ H Q=>Q [] H
def eT(a:TE)(tr:TA):TA:=λσ H Q=>a σ H λx b=>tr σ b λc d=>Q (x::c) d
section
theorem af:PA X [] pL:=λ_ _ _ _ H Q I h=>Calls.spliced_nil ⟨[],H,I,.nil,h⟩
theorem aa(ha:PE X e te)(c:PA X es t)(d:YE (e::es) X.env=(false,dk e X.env)::YE es X.env:=by rfl):PA X (e::es) (eT te t):=by
 intro a b s σ H Q I h;rw[d];show Yj _ _ (spliced ((false,dk e X.env)::BX a (YE es X.env))) _ _ s;refine Calls.spliced_cons (bQ (ha b s σ H _ I h) λu f g=>?_);obtain⟨x,i,j,k,l⟩:=g;exact bQ (c a b f σ i _ j l) λr v ⟨m,n,o,p,q⟩=>⟨x::m,n,o,.cons k p,q⟩
def wR(t:TA):TE:=λσ H Q=>t σ H λa b=>a.length<=Yp/\∀p,b p=Yb->Q (.ref p) (upd b p (.tup a))
def zI(t:TA):TE:=λσ H Q=>t σ H λa b=>a.length<=Yp/\∀p,b p=Yb->Q (.ref p) (upd b p (.lst a))
theorem cG{f}(h:PA X es t):PE X (.Tuple es f pos) (wR t):=by
 intro g s σ H Q I i;refine wpAny_Tuple_spliced (bQ (h pos g s σ H _ I i) λj a ⟨k,c,d,r,z,q⟩=>⟨by rw[←r.length];exact z,?_⟩);have l:c a.heap.objs.size=none:=d.hok.fresh (Yo _);refine⟨.ref a.heap.objs.size,upd c a.heap.objs.size (.tup k),d.laid (t':=a.toks) (λb u e=>Yi _ e) (Yo _) ?_,rfl,q _ l⟩;exact⟨z,j,r,f6.new _ _⟩
theorem fm(h:PA X es t):PE X (.List es pos) (zI t):=by
 intro f s σ H Q I g;refine wpAny_List_spliced (bQ (h pos f s σ H _ I g) λi a ⟨j,c,d,r,z,q⟩=>⟨by rw[←r.length];exact z,?_⟩);have k:c a.heap.objs.size=none:=d.hok.fresh (Yo _);refine⟨.ref a.heap.objs.size,upd c a.heap.objs.size (.lst j),d.laid (t':=a.toks) (λb u e=>Yi _ e) (Yo _) ?_,rfl,q _ k⟩;exact⟨z,i,0,r,Yu _ rfl⟩
end
abbrev Sp:=List V->Hp->VK->XK->Prop
variable{sp:Sp}
abbrev vz:=List BW->Hp->Yh->XK->Yd->Yh->Prop
variable{CX:vz}
structure qP(P:YB)(w:YG)(K:Yc)(mg:Yg->Option Yd)(base:YF)(A:Y2)(outer:List BW)(s:Yh)(H:Hp):Prop where
 frames:A.frames=Ya outer
 mod:Mod K mg base
 bs:∀b o,base.get? b=Ya o->s.heap.get? b=Ya o/\H b=Yb
 bsz:base.objs.size<=s.heap.objs.size
 funs:s.heap.FunFrames base outer
 frf:∀b∈cP outer,H b=Yb
 hok:gS P w H s.heap
 bare:C1 s.gens
def CE(outer:List BW)(P:YB)(w:YG)(H:Hp)(s:Yh)(Q:VK)(u:Yd)(s':Yh):Prop:=
 ∃v a,s'.os=s.os/\C1 s'.gens/\Un (cP outer) [] H a s.heap s'.heap/\gS P w a s'.heap/\RelV v u/\Q v a
def CR(CX:vz)(outer:List BW)(P:YB)(w:YG)(H:Hp)(s:Yh)(Q:VK)(E:XK)(r:Dv)(s':Yh):Prop:=
 match r with
 | .ok (.ret u)=>CE outer P w H s Q u s'
 | .ok _=>False
 | .error e=>CX outer H s E e s'
structure aP(P:YB)(w:YG)(K:Yc)(mg:Yg->Option Yd)(base:YF)(CX:vz)(k:Nat)(f:Yf)(fd:YA)(ps:List Yg)(sp:Sp):Prop where
 len:∀vs H Q E,sp vs H Q E->vs.length=ps.length
 run:∀(A:Y2) (outer:List BW) (s:Yh) (H:Hp) (args:Args) (us:List Yd) (vs:List V) (Q:VK) (E:XK),ck k A->qP P w K mg base A outer s H->Fg s fd args (ps.zip us)->Vals vs us->sp vs H Q E->
  lr (Ym P w) A (.call (.ref f) args) (CR CX outer P w H s Q E) s
theorem aP.mono{K:Yc}{f:Yf}(F:aP P w K mg base CX j f fd ps sp)(h:j<=k):
  aP P w K mg base CX k f fd ps sp:=⟨F.len,λA outer s H a b c Q E d=>F.run A outer s H a b c Q E (d.mono h)⟩
theorem qP.make{K:Yc}(e:qP P w K mg base A outer s H)(C:Yf)(us:List Yd)(a:List (Yg×Yd)):
  qP P w K mg base (A.under (.builtin "type.__call__" ⟨.ref C::us,a⟩)) outer s H:=⟨by first|exact e.frames|(simpa [Around.under,Code.envs,Code.isFrame,pushEnvs]using e.frames),e.mod,e.bs,e.bsz,e.funs,e.frf,e.hok,e.bare⟩
section
theorem aC.env0(I:aC X Za σ H s):qP X.prog X.w X.K X.mg X.base X.A X.stack s H:=
 ⟨I.ok.frames,I.ok.mod,I.bs,YI I.ok.bsz I.sz,I.stack,I.stkFree,I.hok,I.bare⟩
theorem aC.after{Q:VK}(I:aC X Za σ H s)(h:CE X.stack X.prog X.w H s Q u s'):EP X Za σ Q u s':=by
 obtain⟨v,c,os,bare,un,hok,r,q⟩:=h;obtain⟨e,g,d,t,a⟩:=s';obtain rfl:a=s.os:=os;exact⟨v,c,I.call (h':=e) (g':=g) (d':=d) (t':=t) (ch:=[]) un hok bare (λb z=>absurd z (by simp)),r,q⟩
end
def m3(sp:Sp)(a:List V)(E:XK)(t:TA):TE:=λσ H Q=>t σ H λb c=>sp (b++a) c Q E
def xp(C:Yf)(sp:Sp)(c:List V)(E:XK)(t:TA):TE:=λσ H Q=>t σ H λd b=>∀x a,b x=Yb->b a=Yb->a≠x->
 sp (.ref x::(d++c)) (upd (upd b a (.own x)) x (.ins C a [])) (λv e=>v=.non/\Q (.ref x) e) E
def Binds(K:Yc)(fd:YA)(b:List Yg)(c:List Yd):Prop:=
 ∀(s:Yh) (a:List Yd),K.In s.heap->(a++c).length=b.length->Fg s fd ⟨a,[]⟩ (b.zip (a++c))
theorem Binds.all{K:Yc}(h:∀us:List Yd,us.length=ps.length->Gs fd ⟨us,[]⟩=pure (ps.zip us)):Binds K fd ps []:=λs us _ a=>by
 rw[Dd]at a⊢;exact .of_eq (h us a)
def iD(CX:vz)(X:Cx)(E:XK):Prop:=∀(a:List (Yf×Y1)) (σ:St) (H:Hp) (s:Yh) (e:Yd) (s':Yh),aC X a σ H s->CX X.stack H s E e s'->X.xe e s'
section
variable{f:Yf}{Zo:List V}{ds:List Yd}{E:XK}{o:YN}
theorem qA{Q:VK}(F:aP X.prog X.w X.K X.mg X.base CX k f fd ps sp)(c:ck k X.A)(hb:Binds X.K fd ps ds)(hd:Vals Zo ds)(d:iD CX X E)(I:aC X Za σ H s)(r:Vals vs us)(h:sp (vs++Zo) H Q E):Yj (Ym X.prog X.w) X.A (call (.ref f) us) (EP X Za σ Q) X.xe s:=by
 have b:Vals (vs++Zo) (us++ds):=r.append hd;have g:(us++ds).length=ps.length:=by rw[←b.length];exact F.len _ _ _ _ h
 refine DN (codeAny_mono (F.run X.A X.stack s H ⟨us,[]⟩ (us++ds) (vs++Zo) Q E c I.env0 (hb s us I.kIn g) b h) λr s' a=>?_);cases r with
 |error e=>exact d Za σ H s e s' I a
 |ok fl=>
  cases fl with
  |ret u=>exact I.after a
  |next=>exact ll a
  |brk=>exact ll a
  |cont=>exact ll a
theorem nE(F:aP X.prog X.w X.K X.mg X.base CX k f fd ps sp)(d:ck k X.A)(g:Gl X x)(hm:X.mg x=Ya (.ref f))(hk:Ci X.K (.ref f)=true)(hb:Binds X.K fd ps ds)(hd:Vals Zo ds)(i:iD CX X E)
  (ha:PA X (e::es) t) (a:(x==("__debug__":Yg))=false:=by decide) (j:YE (e::es) X.env=(false,dk e X.env)::YE es X.env:=by rfl) (b:(BX pos (YE es X.env)).any (·.1)=false:=by rfl):
  PE X (.Call (.Name x p) (e::es) [] pos) (m3 sp Zo E t):=by
 intro l s σ H Q I h;refine CA (gL I g hm ?_ a);refine Dh (h₀:=X.base) I.ok.mod.kin hk (bQ (ha pos l s σ H _ I h) λm n ⟨o,u,c,r,q⟩=>⟨c.kIn,?_⟩) j b;exact qA F d hb hd i c r q
structure Mk(K:Yc)(C f:Yf):Prop where
 makes:GL K C=true
 init:Y8 K (.ref C) "__init__"=Ya (Ya (.ref f))
 fn:FR K (.ref f)=true
 kp:Ci K (.ref C)=true
theorem uJ{Q:VK}(M:Mk X.K C f)(F:aP X.prog X.w X.K X.mg X.base CX k f fd ps sp)(g:ck (k+ 1) X.A)(hb:Binds X.K fd ps ds)(hd:Vals Zo ds)(i:iD CX X E)(I:aC X Za σ H s)(r:Vals vs us)(h:∀x dx,H x=Yb->H dx=Yb->dx≠x->sp (.ref x::(vs++Zo)) (upd (upd H dx (.own x)) x (.ins C dx [])) (λv j=>v=.non/\Q (.ref x) j) E):
  Yj (Ym X.prog X.w) X.A (call (.ref C) us) (EP X Za σ Q) X.xe s:=by
 have c:=h (s.heap.objs.size+ 1) s.heap.objs.size (I.hok.fresh (tB _)) (I.hok.fresh (Yo _)) (YD (Cn _));have b:=aC.made (C:=C) I;have d:Vals (V.ref (s.heap.objs.size+ 1)::(vs++Zo)) (YZ (s.heap.objs.size+ 1)::(us++ds)):=.cons rfl (r.append hd);have l:(YZ (s.heap.objs.size+ 1)::us++ds).length=ps.length:=by
  have e:=d.length;rw[F.len _ _ _ _ c]at e;exact e.symm
 refine DN (tP (f:=f) I.kIn M.makes M.init (beq_iff_eq.mp M.fn) (codeAny_mono (F.run _ X.stack _ _ ⟨YZ (s.heap.objs.size+ 1)::us,[]⟩ (YZ (s.heap.objs.size+ 1)::(us++ds)) _ _ E (g.make C us [])
  (b.env0.make C us []) (hb _ (YZ (s.heap.objs.size+ 1)::us) b.kIn l) d c) λr s' a=>?_))
 cases r with
 |error e=>exact i Za σ _ _ e s' b a
 |ok fl=>
  cases fl with
  |ret u=>
   obtain⟨v,m,n,o,p,q⟩:=b.after a;subst p;exact⟨o,⟨V.ref (s.heap.objs.size+ 1),m,n,rfl,q⟩⟩
  |next=>exact ll a
  |brk=>exact ll a
  |cont=>exact ll a
theorem nD(M:Mk X.K C f)(F:aP X.prog X.w X.K X.mg X.base CX k f fd ps sp)(d:ck (k+ 1) X.A)(g:Gl X x)(hm:X.mg x=Ya (.ref C))(hb:Binds X.K fd ps ds)(hd:Vals Zo ds)(i:iD CX X E)
  (ha:PA X (e::es) t) (a:(x==("__debug__":Yg))=false:=by decide) (j:YE (e::es) X.env=(false,dk e X.env)::YE es X.env:=by rfl) (b:(BX pos (YE es X.env)).any (·.1)=false:=by rfl):
  PE X (.Call (.Name x p) (e::es) [] pos) (xp C sp Zo E t):=by
 intro l s σ H Q I h;refine CA (gL I g hm ?_ a);refine Dh (h₀:=X.base) I.ok.mod.kin M.kp (bQ (ha pos l s σ H _ I h) λm n ⟨o,u,c,r,q⟩=>⟨c.kIn,?_⟩) j b;exact uJ M F d hb hd i c r q
end
section
variable{f:Yf}{ks:List Yg}{E:XK}{kpos:CW}{o:YN}{kws:List G1}{tk:TA}{nm:Option Yg}
variable{g:List Yd->List Yd->List Yd}{gV:List V->List V->List V}
end
structure aO(N P:List Yg)(sc:Cg):Prop where
 kind:sc.kind=.function
 co:sc.isCoroutine=false
 gen:sc.isGenerator=false
 nd:N.Nodup
 pre:N.take P.length=P
 par:∀x∈P,sc.names.lookup x=Ya .local∨sc.names.lookup x=Ya .cell
 nofree:∀y∈sc.names,y.2≠.free
theorem m9{kindOf:Yg->Option DA}{x:Yg}:∀{binds:List (Yg×Yd)} {m:Yg->Option Yd},(∀v,(x,v)∉binds)->Ft kindOf binds m x=m x
 |[],_,_=>rfl
 |(n,v)::r,m,h=>by
  unfold Ft;rw[m9 λw hw=>h w (Yw _ hw)];split
  ·have:x≠n:=by rintro rfl;exact h v YL
   simp[this]
  ·rfl
theorem mS{kindOf:Yg->Option DA}{x:Yg}:∀{binds:List (Yg×Yd)} {m:Yg->Option Yd},(∀v,(x,v)∉binds)->Fu kindOf binds m x=m x
 |[],_,_=>rfl
 |(n,v)::r,m,h=>by
  unfold Fu;rw[mS λw hw=>h w (Yw _ hw)];split
  ·rfl
  ·have:x≠n:=by rintro rfl;exact h v YL
   simp[this]
theorem ny{kindOf:Yg->Option DA}{x:Yg}{v:Yd}:∀{P:List Yg} {vs:List Yd} {i:Nat} {m:Yg->Option Yd},P.Nodup->P[i]?=Ya x->vs[i]?=Ya v->kindOf x=Ya .local->
  Ft kindOf (P.zip vs) m x=Ya v
 |[],_,_,_,_,h,_,_=>by simp at h
 |_::_,[],_,_,_,_,h,_=>by simp at h
 |p::P,w::vs,0,m,nd,h1,h2,hk=>by
  simp at h1 h2;subst h1;subst h2;show Ft kindOf ((p,w)::P.zip vs) m p=_;unfold Ft;rw[m9 λv a=>(CB.mp nd).1 (EZ a).1,if_pos hk];simp
 |p::P,w::vs,i+ 1,m,nd,h1,h2,hk=>by
  show Ft kindOf ((p,w)::P.zip vs) m x=_;unfold Ft;exact ny (i:=i) (CB.mp nd).2 (by simpa using h1) (by simpa using h2) hk
theorem mT{kindOf:Yg->Option DA}{x:Yg}{v:Yd}:∀{P:List Yg} {vs:List Yd} {i:Nat} {m:Yg->Option Yd},P.Nodup->P[i]?=Ya x->vs[i]?=Ya v->kindOf x≠Ya .local->
  Fu kindOf (P.zip vs) m x=Ya v
 |[],_,_,_,_,h,_,_=>by simp at h
 |_::_,[],_,_,_,_,h,_=>by simp at h
 |p::P,w::vs,0,m,nd,h1,h2,hk=>by
  simp at h1 h2;subst h1;subst h2;show Fu kindOf ((p,w)::P.zip vs) m p=_;unfold Fu;rw[mS λv a=>(CB.mp nd).1 (EZ a).1,if_neg hk];simp
 |p::P,w::vs,i+ 1,m,nd,h1,h2,hk=>by
  show Fu kindOf ((p,w)::P.zip vs) m x=_;unfold Fu;exact mT (i:=i) (CB.mp nd).2 (by simpa using h1) (by simpa using h2) hk
noncomputable def ic(N:List Yg)(vs:List V):St:=vs.map Ya++List.replicate (N.length-vs.length) Yb
noncomputable def aU(CX:vz)(P:YB)(w:YG)(K:Yc)(mg:Yg->Option Yd)(base:YF)(N:List Yg)(c:Yg)(a:Cg)(f:Yf)(d:Yd)(A:Y2)(outer:List BW)(s:Yh)(H:Hp)(E:XK):Cx where
 prog:=P
 w:=w
 K:=K
 mg:=mg
 base:=base
 A:=A.deeper (Co c a s.heap.objs.size f d)
 N:=N
 s₀:=s
 H₀:=H
 env:=Co c a s.heap.objs.size f d
 outer:=outer
 stack:=Co c a s.heap.objs.size f d::outer
 ex:=[]
 calm:=true
 fn:=λ_=>true
 pn:=[]
 xe:=λe s'=>Yj (Ym P w) (A.deeper (Co c a s.heap.objs.size f d)) (HN (Co c a s.heap.objs.size f d) e) (λ_ b=>CX outer H s E e b) (λg b=>CX outer H s E g b) s'
theorem oS{sc:Cg}(h:sc.names.lookup x=Ya .cell):∃c,(G9 n sc.names []).lookup x=Ya c:=by
 have q:=E4 sc.names n [] (.inl h);exact Option.isSome_iff_exists.mp q
theorem tE{K:Yc}{f:Yf}{o:Yd}{B:Yh}{E:XK}(S:aO N ps scope)(hd:A.handled=Yb)(d:qP P w K mg base A outer s H)(I:vs.length=ps.length)(r:Vals vs us)(x:InCallC s s.heap.objs.size (Ft (Co Zb scope s.heap.objs.size f o).kindOf (ps.zip us) λ_=>Yb) (G9 (s.heap.objs.size+ 1) scope.names []) (Fu (Co Zb scope s.heap.objs.size f o).kindOf (ps.zip us) λ_=>Yb) B):
  aC (aU CX P w K mg base N Zb scope f o A outer s H E) [] (ic N vs) H B:=by
 have F:ps.length<=N.length:=by have:=congrArg List.length S.pre;rw[Cp]at this;omega
 obtain⟨h1,J,rfl,C⟩:=x.done;have g:∀b:Yf,b∉(aU CX P w K mg base N Zb scope f o A outer s H E).ex:=λb z=>absurd (show b∈([]:List Yf)from z) (by simp);refine⟨⟨d.mod,S.kind,rfl,rfl,Yo _,λy z c h1 h2=>?_,λy j=>?_,λy c _ h=>?_,λ_=>hd,Around.frames_deeper d.frames,.inr ⟨rfl,rfl⟩,λb z=>absurd z (g b),d.bs,d.bsz,λb _ _=>g b,λb z=>absurd z (g b),d.funs,d.frf⟩,
  rfl,d.bare,Un.kept C,⟨_,x.toInCall.ns,λi y v h1 h2 h3=>?_⟩,λy c h=>⟨_,x.cell y c h⟩,d.hok.fresh (Yo _),λy c h=>?_,λp l=>absurd (show p∈([]:List (Yf×Y1))from l) (by simp),d.hok.kept C,?_⟩
 ·exact name_of_addr x.apart (Y4 h1) (Y4 h2)
 ·have j:scope.names.lookup y=Ya .cell∨scope.names.lookup y=Ya .free:=j;rcases j with j|j
  ·exact oS j
  ·exact absurd rfl (S.nofree _ (Y4 j))
 ·exact De (x.above y c (Y4 h))
 ·have t:i<vs.length:=by
   unfold ic at h2;by_cases t:i<vs.length
   ·exact t
   ·rw[List.getElem?_append_right (by simpa using t)]at h2;rw[List.getElem?_replicate]at h2;split at h2<;>cases h2
  have ha:vs[i]?=Ya v:=by
   unfold ic at h2;rw[List.getElem?_append_left (by simpa using t),YX]at h2;cases e:vs[i]? with
   |none=>rw[e]at h2;cases h2
   |some a=>rw[e]at h2;cases h2;rfl
  obtain⟨u,D,G⟩:=r.get ha;have l:ps[i]?=Ya y:=by
   rw[←S.pre,List.getElem?_take_of_lt (by omega)];exact h1
  have m:ps.Nodup:=by rw[←S.pre];exact S.nd.sublist (Ew _ _)
  refine⟨u,G,?_⟩;rcases S.par y (ar l)with k|k
  ·exact .inl ⟨k,ny m l D k⟩
  ·obtain⟨c,e⟩:=oS (n:=s.heap.objs.size+ 1) k;refine .inr ⟨.inl k,c,e,?_⟩;have q:=x.cell y c e;rw[mT m l D (by show scope.names.lookup y≠_;rw[k];decide)]at q;exact q
 ·exact d.hok.fresh (De (x.above y c (Y4 h)))
 ·unfold ic;show _=N.length;rw[BY,Yn,List.length_replicate];omega
theorem xj{K:Yc}{f:Yf}{c:Arguments}{G kV i L a ct U:Yd}{M W:Option Yf}{z:Array (Option Yd)}(X:K.lookup f=Ya ⟨U,W,.func (Cq name Zb c Zn scope G kV i L M a ct),z⟩)(B:Fh K a Zb=true)(S:aO N ps scope)(len:∀vs H Q E,sp vs H Q E->vs.length=ps.length)(d:∀(A:Y2) (outer:List BW) (s:Yh) (H:Hp) (vs:List V) (Q:VK) (E:XK),ck k (A.deeper (Co Zb scope s.heap.objs.size f a))->sp vs H Q E->
   ∃t,p9 (aU CX P w K mg base N Zb scope f a A outer s H E) Zn t/\t {nx:=λ_ H'=>Q .non H',rt:=Q} (ic N vs) H):
  aP P w K mg base CX (k+ 1) f (Cq name Zb c Zn scope G kV i L M a ct) ps sp:=by
 refine⟨len,λA outer s H O Y vs Q E C j hb r l=>?_⟩;have Z:=len _ _ _ _ l;have R:K.In s.heap:=j.mod.kin.keeps λb o e=>(j.bs b o e).1;have D:s.heap.NoLimit:=j.mod.nolimit.keeps λb o e=>(j.bs b o e).1;have g:∀y∈ps.zip Y,scope.names.lookup y.1=Ya .local∨(scope.names.lookup y.1=Ya .cell/\((G9 (s.heap.objs.size+ 1) scope.names []).lookup y.1).isSome=true):=fun⟨n,v⟩ hy=>by
  rcases S.par n (EZ hy).1 with q|q
  ·exact .inl q
  ·exact .inr ⟨q,E4 _ _ _ (.inl q)⟩
 refine codeAny_call_function C.depth (R _ _ X) rfl S.co S.gen rfl (PySem.W.codeRec_of R B) (hb _ _ _ _ ?_);refine wpAny_newFunctionEnv_cells S.kind g λenv he T x=>?_;subst he;refine⟨D.keeps x.toInCall.keep,codeAny_func ?_⟩;obtain⟨t,ht,hq⟩:=d A outer s H vs Q E (C.deeper _) l;have I:aC (aU CX P w K mg base N Zb scope f a A outer s H E) [] (ic N vs) H T:=tE S C.hd j Z r x;refine xn (ht [] T (ic N vs) H _ I hq) (λfl s' h=>?_) λe s' h=>h;have m:∀{p:St} {H':Hp} {v:V} {u:Yd},aC (aU CX P w K mg base N Zb scope f a A outer s H E) [] p H' s'->RelV v u->Q v H'->CE outer P w H s Q u s':=
  fun{p H' v u} J F q=>⟨v,H',J.os,J.bare,J.base,J.hok,F,q⟩
 cases fl with
 |ret u=>
  obtain⟨v,p,H',J,F,q⟩:=h;exact m J F q
 |next=>
  obtain⟨p,H',J,q⟩:=h;exact m (v:=V.non) (u:=Cz) J rfl q
 |brk=>
  obtain⟨_,_,_,q⟩:=h;exact ll q
 |cont=>
  obtain⟨_,_,_,q⟩:=h;exact ll q
section
variable{id T:String}{r:List V->Hp->VK->Prop}
def AN(r:List V->Hp->VK->Prop)(t:TA):TE:=λσ H Q=>t σ H λa b=>r a b Q
theorem aV(hc:cY X (.builtin id) r)(d:Gl X x)(hm:X.mg x=Yb)(f:Cm x=Ya (.builtin id))(ha:PA X (e::es) t)(hn:x≠"__name__":=by decide)(a:(x==("__debug__":Yg))=false:=by decide)
  (g:YE (e::es) X.env=(false,dk e X.env)::YE es X.env:=by rfl) (b:(BX pos (YE es X.env)).any (·.1)=false:=by rfl):PE X (.Call (.Name x p) (e::es) [] pos) (AN r t):=by
 intro c s σ H Q I h;refine CA (nP I d hm f ?_ hn a);exact GO (bQ (ha pos c s σ H _ I h) λi j ⟨k,l,m,n,o⟩=>hc c j σ l k i Q m n o) g b
theorem a7(hc:cY X (.type T) r)(d:Gl X x)(hm:X.mg x=Yb)(f:Cm x=Ya (.type T))(ha:PA X (e::es) t)(hn:x≠"__name__":=by decide)(a:(x==("__debug__":Yg))=false:=by decide)
  (g:YE (e::es) X.env=(false,dk e X.env)::YE es X.env:=by rfl) (b:(BX pos (YE es X.env)).any (·.1)=false:=by rfl):PE X (.Call (.Name x p) (e::es) [] pos) (AN r t):=by
 intro c s σ H Q I h;refine CA (nP I d hm f ?_ hn a);exact Eb (bQ (ha pos c s σ H _ I h) λi j ⟨k,l,m,n,o⟩=>hc c j σ l k i Q m n o) g b
end
section
variable{κ:Type}[DecidableEq κ]
end
section
end
section
variable{r:Yd}{o:Option V}
theorem aC.big(I:aC X Za σ H s):Ez<s.heap.objs.size:=by
 have h:YC<s.heap.objs.size:=(I.mod.glob.keeps I.bk).lt;exact Nat.lt_trans (by decide) h
end
section
variable{k:l9}
end
section
variable{o i:YN}
end
theorem uD(h:YF)(hb:Ez<h.objs.size):bU P w H (h.push {cls:=.type "dict",data:=.dict #[]}) h.objs.size (.dK []):=
 ⟨kx _,beq_eq_false_iff_ne.mpr (Ne.symm (YD hb)),[],.nil,Heap.DictOf.new h⟩
def uE:TE:=λ_ H Q=>∀p,H p=Yb->Q (.ref p) (upd H p (.dK []))
section
theorem tT:PE X (.Dict [] [] pos) uE:=λb s σ H Q I h=>
 wpAny_Dict_empty ⟨.ref s.heap.objs.size,_,I.laid (a:=s.heap.objs.size) (o:=.dK []) (t':=s.toks) (λ_ _ q=>Yi _ q) (Yo _) (uD s.heap I.big),rfl,h _ (I.hok.fresh (Yo _))⟩
end
section
variable{d:V}{r:Yd}{o:Option V}
end
section
variable{o f:YN}{Zg:CW}{tx:TE}
end
section
end
section
end
end L2
namespace HT
open PySem PyProof.Rows
section
open PySem.SeqAt
open PySem.AutoSeq1 (wpAny_loadPart')
open PySem.MeetsSeq PySem.MeetsSeq2 PySem.MeetsSeq3
end
section
variable{prog:YB}{w:YG}{A:Y2}{E:Yd->Yh->Prop}{s:Yh}
noncomputable def pD(n d:Nat):Option Int->Nat
 |none=>d
 |some v=>if v<0 then(v+ (n:Int)).toNat else min v.toNat n
end
end HT
namespace L2
open PySem PySem.Spec PyProof.Rows
variable{X:Cx}{e:YN}{pos:CW}{n j:Nat}{i:Int}{Za:List (Yf×Y1)}{σ:St}{H:Hp}{s:Yh}{p:Yf}{xs ys:List V}{Zc its':List Yd}{T:String}
abbrev TO:=St->Hp->(Option Int->Hp->Prop)->Prop
def PO(X:Cx)(e:Option YN)(t:TO):Prop:=
 ∀(a:List (Yf×Y1)) (s:Yh) (σ:St) (H:Hp) (Q:Option Int->Hp->Prop),aC X a σ H s->t σ H Q->
  Yj (Ym X.prog X.w) X.A (evalPart e X.env) (λu s'=>∃o b,aC X a σ b s'/\IsPart u o/\Q o b) X.xe s
def rF:TO:=λ_ H Q=>Q Yb H
def xr(t:TE):TO:=λσ H Q=>t σ H λx a=>∃i,x=.int i/\Q (Ya i) a
theorem qi{ns:List Int}:∀{us:List Yd},Vals (ns.map V.int) us->B2 us ns:=by
 induction ns with
 |nil=>intro us r;rw[FU]at r;cases r;exact .nil
 |cons n ns ih=>
  intro us r;rw[Cd]at r;cases r with
  |cons r1 r2=>
   obtain⟨t,e⟩:=r1;subst e;exact .cons n t (ih r2)
section
variable{te:TE}{lo hi:Option YN}{tl th:TO}{p2:CW}
theorem cN:PO X Yb rF:=by
 intro a s σ H Q I h;rw[He];exact Yk ⟨Yb,H,I,.none,h⟩
theorem cg(h:PE X e te):PO X (Ya e) (xr te):=by
 intro a s σ H Q I hw;rw[evalPart_some];refine bQ (h a s σ H _ I hw) λu j b=>?_;obtain⟨x,c,d,f,g⟩:=b;obtain⟨i,rfl,q⟩:=g;obtain⟨t,rfl⟩:=f;exact⟨Ya i,c,d,.int i t,q⟩
def AK(X:Cx)(r:V->Option Int->Option Int->Hp->VK->Prop):Prop:=
 ∀(a:List (Yf×Y1)) (s:Yh) (σ:St) (H:Hp) (x:V) (v b c:Yd) (lo d:Option Int) (e:Yf) (Q:VK),aC X a σ H s->RelV x v->s.heap.IsSliceOf e b c .none->IsPart b lo->IsPart c d->r x lo d H Q->
  ∃T id,typeLookup (.type T) "__getitem__"=pure (Ya (.builtin id))/\s.TypeIs v T/\Yj (Ym X.prog X.w) X.A (HP v (.ref e)) (EP X a σ Q) X.xe s
def Bz(r:V->Option Int->Option Int->Hp->VK->Prop)(a:TE)(b c:TO):TE:=λσ H Q=>a σ H λx d=>b σ d λl e=>c σ e λu f=>r x l u f Q
theorem bS{r:V->Option Int->Option Int->Hp->VK->Prop}(j:AK X r)(k:PE X e te)(m:PO X lo tl)(n:PO X hi th):PE X (.Subscript e (.Slice lo hi Yb p2) pos) (Bz r te tl th):=by
 intro c s σ H Q I h;refine Subscript_ (bQ (k c s σ H _ I h) λv o d=>?_);obtain⟨x,p,t,w,y⟩:=d;refine wpAny_Slice (bQ (m c o σ p _ t y) λf z d=>?_);obtain⟨l,A,B,C,D⟩:=d;refine bQ (n c z σ A _ B D) λg a d=>?_;obtain⟨u,i,E,F,G⟩:=d;rw[He];refine Yk ?_;have J:aC X c σ i {a with heap:=a.heap.push {cls:=.type "slice",data:=.fields #[f,g,.none]}}:=E.kept (t':=a.toks) λb ob q=>Yi _ q;obtain⟨T,id,K,L,M⟩:=j c {a with heap:=a.heap.push {cls:=.type "slice",data:=.fields #[f,g,.none]}} σ i x v f g l u a.heap.objs.size Q J w (Heap.IsSliceOf.new ..) C F G;show Yj (Ym X.prog X.w) X.A (Hf e (.Slice lo hi Yb p2) v (.ref a.heap.objs.size)) (EP X c σ Q) X.xe {a with heap:=a.heap.push {cls:=.type "slice",data:=.fields #[f,g,.none]}};exact tail_any (ops:=[.ref a.heap.objs.size,v]) L K M (by with_unfolding_all rfl)
noncomputable def mG(xs:List V)(lo a:Option Int):List V:=(xs.drop (HT.pD xs.length 0 lo)).take (HT.pD xs.length xs.length a-HT.pD xs.length 0 lo)
theorem km(xs:List V)(lo a:Option Int):(mG xs lo a).length<=xs.length:=by
 unfold mG;rw[Cp,DB];omega
end
noncomputable def tM(n:Nat)(i:Int):Option Nat:=if 0<=i then(if i<n then Ya i.toNat else Yb)else if-(n:Int)<=i then Ya (i+ n).toNat else Yb
noncomputable def dC{α:Type}(xs:List α)(i:Int):Option α:=(tM xs.length i).bind λj=>xs[j]?
theorem nV(h:tM n i=Ya j):Ha i n=Ya j/\j<n/\-(n:Int)<=i/\i<n:=by
 unfold tM at h;by_cases h0:0<=i
 ·rw[if_pos h0]at h;by_cases h1:i<n
  ·rw[if_pos h1]at h;have e:i.toNat=j:=Yy h;exact⟨by rw[Gm h0 h1,e],by omega,by omega,h1⟩
  ·rw[if_neg h1]at h;cases h
 ·rw[if_neg h0]at h;by_cases h1:-(n:Int)<=i
  ·rw[if_pos h1]at h;have e:(i+ n).toNat=j:=Yy h;exact⟨by rw[FV (by omega) h1,e],by omega,h1,by omega⟩
  ·rw[if_neg h1]at h;cases h
theorem oE{α:Type}{xs:List α}{v:α}(h:dC xs i=Ya v):∃j,Ha i xs.length=Ya j/\xs[j]?=Ya v/\j<xs.length/\-(xs.length:Int)<=i/\i<xs.length:=by
 unfold dC at h;cases e:tM xs.length i with
 |none=>rw[e]at h;cases h
 |some j=>
  rw[e]at h;obtain⟨h1,h2,h3,h4⟩:=nV e;exact⟨j,h1,h,h2,h3,h4⟩
theorem av{α:Type}{xs:List α}{v:α}(h:xs[j]?=Ya v):dC xs (j:Int)=Ya v:=by
 have a:j<xs.length:=(YY.mp h).1;have e:tM xs.length (j:Int)=Ya j:=by
  unfold tM;rw[if_pos (by omega),if_pos (by omega)];simp
 unfold dC;rw[e];exact h
def wK(b:YN):Prop:=∀o i,subscripted b false o i=operate [o,i] (HP o i)
def zl(X:Cx)(r:R2):Prop:=
 ∀(c a:YN) (b:List (Yf×Y1)) (s:Yh) (σ:St) (H:Hp) (x y:V) (v u:Yd) (Q:VK),aC X b σ H s->RelV x v->RelV y u->r x y H Q->
  subscripted a false v u=operate [v,u] (HP v u)->Yj (Ym X.prog X.w) X.A (Hf c a v u) (EP X b σ Q) X.xe s
def AJ(X:Cx)(id:String)(r:V->List V->Hp->VK->Prop):Prop:=
 ∀(a:List (Yf×Y1)) (s:Yh) (σ:St) (H:Hp) (x:V) (b:List V) (v:Yd) (c:List Yd) (Q:VK),aC X a σ H s->RelV x v->Vals b c->r x b H Q->
  Yj (Ym X.prog X.w) X.A (call (.builtin id) (v::c)) (EP X a σ Q) X.xe s
section
variable{a b:YN}{ta tb:TE}
theorem a4{r:R2}(c:zl X r)(ha:PE X a ta)(hb:PE X b tb)(d:wK b):PE X (.Subscript a b pos) (vQ r ta tb):=by
 intro e s σ H Q I h;exact Subscript_ (y4 ha hb I h λv u f x y g i j k q=>c a b e f σ g x y v u Q i j k q (d _ _))
def qd(K:Yc):R2:=λx y H Q=>∃p a i v,x=.ref p/\y=.int i/\bw K H p a/\dC a i=Ya v/\Q v H
def yH(K:Yc):R2:=λx y H Q=>∃p a i v,x=.ref p/\y=.int i/\gU K H p a/\dC a i=Ya v/\Q v H
def Bb:R2:=λx y H Q=>∃z i c,x=.str z/\y=.int i/\z.length<=Yp/\dC z.cps.toList i=Ya c/\Q (.str ⟨#[c]⟩) H
theorem wa:zl X (qd X.K):=by
 intro C b f s σ H x y v u Q I l m h g;obtain⟨p,D,i,z,rfl,rfl,n,o,q⟩:=h;cases l;obtain⟨t,rfl⟩:=m;obtain⟨A,r,c,E⟩:=I.list n;obtain⟨j,h1,h2,h3,h4,h5⟩:=oE o;obtain⟨w,k,d⟩:=r.get h2;have B:=r.length;have hn:=iz;have a:EP X f σ Q w s:=⟨z,H,I,d,q⟩;by_cases h0:0<=i
 ·have e:i.toNat=j:=by
   rw[Gm h0 h5]at h1;exact Yy h1
  exact item_listR c.isList h0 (by omega) (by rw[e];simpa using k) a g
 ·have e:(i+ (A.toArray.size:Int)).toNat=j:=by
   rw[FV (by omega) h4]at h1;rw[Yx,←B];exact Yy h1
  exact E5 (x:=w) c.isList.typeIs Gb.lookup
   (wpAny_getItem_list_neg (Q:=λr s'=>r=w/\EP X f σ Q r s') c.isList (by omega) (by rw[Yx]<;>omega) (by omega) (by rw[e];simpa using k) ⟨rfl,a⟩) g
theorem yf:zl X (yH X.K):=by
 intro A a d s σ H x y v u Q I f g h k;obtain⟨p,B,i,z,rfl,rfl,l,m,q⟩:=h;cases f;obtain⟨t,rfl⟩:=g;obtain⟨C,r,e,D⟩:=I.tuple l;obtain⟨j,h1,h2,h3,h4,h5⟩:=oE m;obtain⟨w,n,b⟩:=r.get h2;have o:=r.length;have hn:=iz;have c:EP X d σ Q w s:=⟨z,H,I,b,q⟩;exact E5 (x:=w) e.typeIs slot_tuple_getitem.lookup
  (getItem_tuple (j:=j) (Q:=λr s'=>r=w/\EP X d σ Q r s') e (by omega) (by omega) (by rw[Yx,←o];exact h1) (by simpa using n) ⟨rfl,c⟩) k
theorem qH:zl X Bb:=by
 intro m a n s σ H x y v u Q I b d h e;obtain⟨z,i,c,rfl,rfl,o,f,q⟩:=h;obtain⟨t,rfl⟩:=b;obtain⟨p,rfl⟩:=d;obtain⟨j,h1,h2,h3,h4,h5⟩:=oE f;have g:z.cps.toList.length=z.length:=by simp[Str.length]
 rw[g]at h1 h4 h5;have hn:=iz;exact tail_any (DO s z t) slot_str_getitem.lookup (getItem_str (c:=c) (by
  have k:decide (i< -(2^63:Int))=false:=decide_eq_false (by omega);have l:decide (i≥2^63)=false:=decide_eq_false (by omega);rw[k,l,Ek]) (by rw[h1];simpa using h2) ⟨.str ⟨#[c]⟩,H,I.tok _,⟨_,rfl⟩,q⟩) e
theorem qc(a:List Yd)(n j:Nat)(u:Yd):CC (·.setIfInBounds j u) {cls:=.type "list",data:=.seq a.toArray n}={cls:=.type "list",data:=.seq (a.set j u).toArray n}:=by
 simp[CC]
theorem aC.lst(I:aC X Za σ H s)(h:H p=Ya (.lst xs)):
  ∃(Zc:List Yd) (n:Nat),Vals xs Zc/\s.heap.get? p=Ya {cls:=.type "list",data:=.seq Zc.toArray n}/\xs.length<=Yp:=by
 obtain⟨z,Zc,n,r,e⟩:=I.hok p _ h;exact⟨Zc,n,r,e,z⟩
theorem aC.lstUpd{a:Nat}{f:Y1->Y1}(I:aC X Za σ H s)(h:H p=Ya (.lst xs))(d:s.heap.get? p=Ya {cls:=.type "list",data:=.seq Zc.toArray n})(c:f {cls:=.type "list",data:=.seq Zc.toArray n}={cls:=.type "list",data:=.seq its'.toArray a})(r:Vals ys its')(hz:ys.length<=Yp)(t:Nat):
  aC X Za σ (upd H p (.lst ys)) {s with heap:=s.heap.update p f,toks:=t}:=by
 have e:(s.heap.update p f).get? p=Ya {cls:=.type "list",data:=.seq its'.toArray a}:=by
  rw[rf f d (by rw[c]<;>rfl),c]
 refine I.write (x:=p) (e:=p) (by rw[h];trivial) (.inl rfl) (λb u hb q=>(cb _ _ (Ne.symm hb)).trans q) ⟨_,e⟩ ?_;exact⟨hz,its',a,r,e⟩
def xu:V->V->V->Hp->(Hp->Prop)->Prop:=λo i v H Q=>∃p a k j,o=.ref p/\i=.int k/\H p=Ya (.lst a)/\tM a.length k=Ya j/\Q (upd H p (.lst (a.set j v)))
theorem ue:zA X xu:=by
 intro g s σ H o i v A B u Q I l m w h;obtain⟨p,x,k,j,rfl,rfl,d,y,q⟩:=h;cases l;obtain⟨t,rfl⟩:=m;obtain⟨e,n,r,a,z⟩:=I.lst d;obtain⟨h1,h2,h3,h4⟩:=nV y;have b:=r.length;have hn:=iz;have f:aC X g σ (upd H p (.lst (x.set j v))) {s with heap:=s.heap.update p (CC (·.setIfInBounds j u))}:=
  I.lstUpd d a (qc e n j u) (r.set w j) (by rw[E2];exact z) s.toks
 by_cases h0:0<=k
 ·have c:k.toNat=j:=by
   rw[Gm h0 h4]at h1;exact Yy h1
  exact PySem.W.ki_setAt a h0 (by omega) (by rw[Yx,←b];exact h4) (by rw[c];exact⟨_,f,q⟩)
 ·have c:(k+ (e.toArray.size:Int)).toNat=j:=by
   rw[FV (by omega) h3]at h1;rw[Yx,←b];exact Yy h1
  exact PySem.W.ki_setBack a (by omega) (by rw[Yx,←b];exact h3) (by omega) (by rw[c];exact⟨_,f,q⟩)
theorem nR(lo a:Option Int)(n:Nat):(C3 lo a Yb n).1=((HT.pD n 0 lo:Nat):Int)/\(C3 lo a Yb n).2.1=((HT.pD n n a:Nat):Int)/\(C3 lo a Yb n).2.2=1:=by
 refine⟨?_,?_,rfl⟩
 ·cases lo with
  |none=>simp[C3,HT.pD]
  |some i=>
   simp only[C3,HT.pD,Gu,show(1:Int)>0 by decide,if_true];by_cases h:i<0
   ·simp only[h,if_true]<;>omega
   ·simp only[h,if_false]<;>omega
 ·cases a with
  |none=>simp[C3,HT.pD]
  |some i=>
   simp only[C3,HT.pD,Gu,show(1:Int)>0 by decide,if_true];by_cases h:i<0
   ·simp only[h,if_true]<;>omega
   ·simp only[h,if_false]<;>omega
theorem ml(a:List Yd)(lo b:Option Int):slicePick a.toArray lo b Yb=((a.drop (HT.pD a.length 0 lo)).take (HT.pD a.length a.length b-HT.pD a.length 0 lo)).toArray:=by
 obtain⟨h1,h2,h3⟩:=nR lo b a.toArray.size;unfold slicePick;rw[h1,h2,h3];simp only[sliceRange_one,pick_run,Yx]<;>rfl
def yl(K:Yc):V->Option Int->Option Int->Hp->VK->Prop:=λx lo c H Q=>∃a b,x=.ref a/\bw K H a b/\∀p,H p=Yb->Q (.ref p) (upd H p (.lst (mG b lo c)))
theorem wj:AK X (yl X.K):=by
 intro n s σ H x v p t lo e u Q I g i j k h;obtain⟨a,c,rfl,l,q⟩:=h;cases g;obtain⟨w,r,f,m⟩:=I.list l;have d:=r.length;refine⟨"list",_,Gb.lookup,f.isList.typeIs,?_⟩;refine wpAny_getItem_list_slice f.isList i j k .none (by simp) ?_ (by rw[Yx]<;>omega);rw[ml,←d];refine⟨.ref s.heap.objs.size,_,I.laid (t':=s.toks) (o:=.lst (mG c lo e)) (λb ob q=>Yi _ q) (Yo _) ?_,rfl,q _ (I.hok.fresh (Yo _))⟩;exact⟨YI (km c lo e) m,_,0,(r.drop (HT.pD c.length 0 lo)).take (HT.pD c.length c.length e-HT.pD c.length 0 lo),Yu _ rfl⟩
theorem oa:cY X (.builtin "len") (λxs H Q=>∃p ys,xs=[.ref p]/\(bw X.K H p ys∨gU X.K H p ys)/\Q (.int ys.length) H):=by
 intro i s σ H xs j Q I r h;obtain⟨p,ys,rfl,b,q⟩:=h;obtain⟨u,rfl,e⟩:=fy r;cases e;have hn:=iz;rcases b with b|b
 ·obtain⟨f,c,d,g⟩:=I.list b;have a:=c.length;exact Calls.call_len_list d.isList (by simp only[Yx]<;>omega) ⟨.int ys.length,H,I.tok _,⟨s.toks+ 1,by rw[Yx,a]⟩,q⟩
 ·obtain⟨f,c,d,g⟩:=I.tuple b;have a:=c.length;exact len_tuple d (by simp only[Yx]<;>omega) ⟨.int ys.length,H,I.tok _,⟨s.toks+ 1,by rw[Yx,a]⟩,q⟩
theorem fh:cY X (.builtin "len") (λxs H Q=>∃z,xs=[.str z]/\z.length<=Yp/\Q (.int z.length) H):=by
 intro a s σ H xs b Q I r h;obtain⟨z,rfl,c,q⟩:=h;obtain⟨u,rfl,t,rfl⟩:=fy r;have hn:=iz;exact len_str (by omega) ⟨.int z.length,H,I.tok _,⟨_,rfl⟩,q⟩
theorem mD:cY X (.type "tuple") (λxs H Q=>∃p ys,xs=[.ref p]/\((bw X.K H p ys/\∀l,H l=Yb->Q (.ref l) (upd H l (.tup ys)))∨(gU X.K H p ys/\Q (.ref p) H))):=by
 intro i s σ H xs v Q I r h;obtain⟨p,ys,rfl,h⟩:=h;obtain⟨u,rfl,n⟩:=fy r;cases n;rcases h with⟨c,q⟩|⟨c,q⟩
 ·obtain⟨d,f,g,j⟩:=I.list c;have k:=f.length;refine call_tuple_list g.isList (λa kp=>?_) (by simp only[Yx]<;>omega);have m:aC X i σ H {s with heap:=a}:=I.kept (t':=s.toks) kp;have t:aC X i σ (upd H a.objs.size (.tup ys)) {s with heap:=a.push {cls:=.type "tuple",data:=.seq d.toArray}}:=
   m.laid (t':=s.toks) (λb o e=>Yi _ e) (Yo _) (show bU X.prog X.w _ _ _ (.tup ys)from⟨j,d,f,f6.new _ _⟩)
  exact⟨.ref a.objs.size,_,t,rfl,q _ (m.hok.fresh (Yo _))⟩
 ·obtain⟨d,f,g,j⟩:=I.tuple c;exact call_tuple_same g ⟨.ref p,H,I,rfl,q⟩
def Af(K:Yc)(T:String)(x:V)(H:Hp):Prop:=match x with
 | .str _=>T="str"
 | .int _=>T="int"
 | .ref p=>(T="list"/\∃b,bw K H p b)∨(T="tuple"/\∃o,K.lookup p=Ya o/\o.cls=.type "tuple"/\o.dict=Yb)∨
   (T="dict"/\((∃a,H p=Ya (.dK a))∨∃a,H p=Ya (.dT a)))∨(T="set"/\∃S n,H p=Ya (.set S n))
 |_=>False
theorem yJ{x:V}{v:Yd}(I:aC X Za σ H s)(r:RelV x v)(ty:Af X.K T x H):
  s.TypeIs v T/\∀a,v=.ref a->∃ob,s.heap.get? a=Ya ob/\ob.dict=none:=by
 cases x with
 |str z=>
  obtain⟨t,rfl⟩:=r;cases (show T="str"from ty);exact⟨DO s z t,λ_ e=>nomatch e⟩
 |int i=>
  obtain⟨t,rfl⟩:=r;cases (show T="int"from ty);exact⟨typeIs_int s i t,λ_ e=>nomatch e⟩
 |ref p=>
  cases r;rcases ty with⟨rfl,j,g⟩|⟨rfl,o,b,hc,hd⟩|⟨rfl,b⟩|⟨rfl,S,n,b⟩
  ·obtain⟨k,_,f,_⟩:=I.list g;refine⟨f.isList.typeIs,λa e=>?_⟩;cases e;obtain⟨o,n,e,c,hd,_⟩:=f;exact⟨o,e,hd⟩
  ·refine⟨⟨o,I.kIn p o b,hc⟩,λa e=>?_⟩;cases e;exact⟨o,I.kIn _ o b,hd⟩
  ·have z:∃o,s.heap.get? p=Ya o/\o.ExactDict:=by
    rcases b with⟨h,b⟩|⟨h,b⟩
    ·obtain⟨_,_,_,_,o,_,_,e,ex,_⟩:=I.hok p _ b;exact⟨o,e,ex⟩
    ·obtain⟨_,_,_,_,o,_,_,e,ex,_⟩:=I.hok p _ b;exact⟨o,e,ex⟩
   obtain⟨o,e,ex⟩:=z;refine⟨⟨o,e,ex.1⟩,λa d=>?_⟩;cases d;exact⟨o,e,ex.2.1⟩
  ·obtain⟨o,_,_,_,e,ex,_⟩:=I.hok p _ b;refine⟨⟨o,e,ex.1⟩,λa d=>?_⟩;cases d;exact⟨o,e,ex.2.1⟩
 |_=>exact ll ty
def yC(K:Yc)(T:String)(r:V->List V->Hp->VK->Prop)(to:TE)(t:TA):TE:=λσ H Q=>to σ H λx a=>Af K T x a/\t σ a λb c=>r x b c Q
variable{o:YN}{es:List YN}{to:TE}{t:TA}{name:Yg}{Zi Zg:CW}{id:String}{r:V->List V->Hp->VK->Prop}
theorem fx(l:PlainAttrs T)(slot:Slot T name id)(f:typeOf (.builtin id)=pure (.type "method_descriptor"))(hm:AJ X id r)(m:PE X o to)(ha:PA X (e::es) t)
  (b:Ej o name X.env (dk o X.env)=dk o X.env:=by rfl)
  (d:((BX Zg (YE (e::es) X.env)).all (λx=>!x.1)&&(Hr Zg (Gn [] X.env)).all (λx=>x.1.isSome)
   &&decide ((e::es).length+ ([]:List G1).length+ (if([]:List G1).isEmpty then 0 else 1)<30))=true:=by rfl)
  (c:(Zi.endLine==Zg.line)=true:=by rfl) (n:YE (e::es) X.env=(false,dk e X.env)::YE es X.env:=by rfl) (a:(BX Zg (YE es X.env)).any (·.1)=false:=by rfl):
  PE X (.Call (.Attribute o name Zi) (e::es) [] Zg) (yC X.K T r to t):=by
 intro g s σ H Q I h;refine wpAny_Call_method_late b d c rfl (bQ (m g s σ H _ I h) λv p q=>?_);obtain⟨x,u,i,j,ty,w⟩:=q;obtain⟨h1,h2⟩:=yJ i j ty;refine⟨T,id,l,slot,f,h1,h2,?_⟩;have k:=ha Zg g p σ u _ i w;rw[n]at k⊢;refine Calls.callWith_builtin (by show(false||(BX Zg (YE es X.env)).any (·.1))=false;rw[a]<;>rfl) (Fv ?_);exact bQ k λy z ⟨A,B,C,D,E⟩=>hm g z σ B x A v y Q C j D E
end
def Bw(X:Cx)(id:String)(r:V->List V->Hp->VK->Prop):Prop:=
 ∀(a:List (Yf×Y1)) (s:Yh) (σ:St) (H:Hp) (x:V) (b:List V) (v:Yd) (c:List Yd) (Q:VK),aC X a σ H s->RelV x v->Vals b c->r x b H Q->
  Yj (Ym X.prog X.w) X.A (call (.builtin id) (v::c)) (EP X a σ Q) X.xe s
theorem Vals.one:∀{x:V} {us:List Yd},Vals [x] us->∃u,us=[u]/\RelV x u:=by
 intro x us h;cases h with|cons r t=>
 cases t;exact⟨_,rfl,r⟩
theorem Vals.eraseIdx:∀{xs:List V} {us:List Yd} (i:Nat),Vals xs us->Vals (xs.eraseIdx i) (us.eraseIdx i)
 |_,_,_,.nil=>.nil
 |_,_,0,.cons _ t=>t
 |_,_,i+ 1,.cons r t=>.cons r (Vals.eraseIdx i t)
theorem nh{α:Type}:∀(l:List α) (i:Nat),(l.eraseIdx i).length<=l.length
 |[],_=>Yo _
 |_::_,0=>tB _
 |_::r,i+ 1=>EJ (nh r i)
section
variable{l b:Yf}{zs:List V}
theorem aC.lset{f:Array Yd->Array Yd}{t':Nat}(I:aC X Za σ H s)(a:H l=Ya (.lst xs))(e:s.heap.get? l=Ya {cls:=.type "list",data:=.seq Zc.toArray n})(b:f Zc.toArray=its'.toArray)(c:Vals ys its')(hz:ys.length<=Yp):
  aC X Za σ (upd H l (.lst ys)) {s with heap:=s.heap.update l (CC f),toks:=t'}:=by
 have q:=PySem.IsL.update e f;rw[b]at q;refine I.write (x:=l) (e:=l) (by rw[a];exact trivial) (.inl rfl) (λg u hb d=>(cb s.heap (CC f) (Ne.symm hb)).trans d) ⟨_,q⟩ ?_;exact⟨hz,its',_,c,q⟩
theorem aC.lstM(I:aC X Za σ H s)(a:H l=Ya (.lst xs)):xs.length<=Yp/\∃(Zc:List Yd) (n:Nat),Vals xs Zc/\xs.length=Zc.length/\s.heap.get? l=Ya {cls:=.type "list",data:=.seq Zc.toArray n}:=by
 obtain⟨z,Zc,n,r,e⟩:=I.hok l _ a;exact⟨z,Zc,n,r,r.length,e⟩
end
section
def jD:V->List V->Hp->VK->Prop:=λx b H Q=>∃l a y,x=.ref l/\b=[y]/\H l=Ya (.lst a)/\a.length<Yp/\Q .non (upd H l (.lst (a++[y])))
theorem gI:Bw X "list.append" jD:=by
 intro g s σ H x i v j Q I c d h;obtain⟨l,k,y,rfl,rfl,a,m,q⟩:=h;cases c;obtain⟨u,rfl,f⟩:=d.one;obtain⟨z,b,n,r,o,e⟩:=I.lstM a;refine EA F.slot_list_append ⟨_,e,rfl⟩ F.entry_list_append (F.args_list_append_2 _ _) (PySem.list_append l b.toArray n u (by rw[Yx];omega)) ⟨e,?_⟩;refine⟨.non,_,I.lset (its':=b++[u]) a e (by simp) (r.append (.cons f .nil)) ?_,rfl,q⟩;rw[BY,Fi];omega
def qG:V->List V->Hp->VK->Prop:=λx b H Q=>∃l a i k y,x=.ref l/\b=[.int i]/\H l=Ya (.lst a)/\-(2^63)<=i/\i<2^63/\Ha i a.length=Ya k/\a[k]?=Ya y/\Q y (upd H l (.lst (a.eraseIdx k)))
theorem vh:Bw X "list.pop" qG:=by
 intro A s σ H x B v C Q I d f h;obtain⟨l,g,i,k,y,rfl,rfl,c,h1,h2,j,m,q⟩:=h;cases d;obtain⟨u,rfl,o⟩:=f.one;obtain⟨t,rfl⟩:=o;obtain⟨z,a,n,r,p,e⟩:=I.lstM c;obtain⟨w,hw,b⟩:=r.get m;refine EA F.slot_list_pop ⟨_,e,rfl⟩ F.entry_list_pop (F.args_list_pop_2 _ _)
  (MeetsSeq.list_pop_at l a.toArray n i t k w (fitsIndex_both h1 h2) (by rw[Yx,←p];exact j) (by rw[←gs];exact hw) (by rw[Yx];omega)) ⟨e,?_⟩
 refine⟨y,_,I.lset (its':=a.eraseIdx k) c e ?_ (r.eraseIdx k) ?_,b,q⟩
 ·show a.toArray.eraseIdxIfInBounds k=(a.eraseIdx k).toArray;rw[List.eraseIdxIfInBounds_toArray]
 ·have:=nh g k;omega
end
section
variable{prog:YB}{w:YG}{A:Y2}{E:Yd->Yh->Prop}
end
section
end
end L2
namespace Att
open PySem PySem.W PySem.Calls PyProof.Rows
variable{P:Params}{h:YF}{l:OpenLaw}{n:Nat}
theorem kL:∀(ns:List Int) (vs:List Yd),WellAll P h vs (ns.map WData.int)->B2 vs ns:=by
 intro ns
 induction ns with
 |nil=>
  intro vs w;rw[FU]at w;cases w;exact .nil
 |cons n ns ih=>
  intro vs w;rw[Cd]at w;cases w with
  |cons a b=>
   cases a;exact .cons _ _ (ih _ b)
theorem sO(hn:l.most=Ya n){b:List WData}{i:List Yd}(c:l.row.toRowW.claim.pre b=true)(f:WellAll P h i b):
  ∃a vs ns,i=[YZ a]/\b=[WData.list (ns.map WData.int)]/\h.get? a=Ya {cls:=.type "list",data:=.seq vs.toArray}/\B2 vs ns/\ns.length<=n:=by
 have g:WShape.hasAll [] b [.list .int]=true:=(pre_splitW c).1;have hc:l.pre.holds [] {args:=b}=true:=(pre_splitW c).2;obtain⟨d,r,rfl,h1,h2⟩:=hasAllW_cons g;obtain rfl:=hasAllW_nil h2;obtain⟨k,rfl,h3⟩:=hasW_list h1;obtain⟨ns,rfl⟩:=items_int h3;have e:ns.length<=n:=by
  unfold OpenLaw.pre at hc;have h4:(WTm.not (.lt (.lit (.int (n:Int))) (.len (.arg 0)))).holds [] {args:=[.list (ns.map .int)]}=true:=by
   have h4:=(holds_andW hc).1;rw[hn]at h4;exact h4
  have h5:=condW_of h4 (w_not (w_lt w_lit (w_len_list (w_arg rfl))));rw[Yn]at h5;refine Nat.le_of_not_lt λq=>?_;have j:(n:Int)<((ns.length:Nat):Int):=by omega
  first
   |(rw[decide_eq_true j]at h5;exact absurd h5 (by decide))
   |(simp at h5;omega)
 cases f with
 |cons w1 w2=>
  cases w2;cases w1 with
  |list ho hall=>exact⟨_,_,ns,rfl,rfl,ho,kL ns _ hall,e⟩
theorem sN(l:OpenLaw)(a:List WData):l.row.toRowW.claim.post a (.bool true) a=true:=
 postW_of (r:=l.row.toRowW) (X:=(true==true))
  (show WShape.has [] (.bool true) .bool=true by first|rfl|decide|simp[WShape.has,WShape.arms,WShape.armsAll])
  (show(WTm.eq .res (.lit (.bool true))).value [] {args:=a,res:=Ya (.bool true),after:=a}=Ya (.bool (true==true))from w_eq_bool (w_res rfl) w_lit) rfl
theorem attach_call{q:YB}{b:List Yg}{y:(Yg->Option Yd)->YF->Prop}{z:YG->YF->Prop}{d:DefRec}(hn:l.most=Ya n)(p:d.params.defaults=[])(call:∀(w:YG) (s₀ c:Yh) (mg s:Yg->Option Yd) (h:Yf) (o:Y1) (t m e:Yd) (a:Yf) (vs:List Yd) (ns:List Int),
   Ground q b [] y w s₀ mg s c.heap->z w c.heap->
   c.heap.get? h=Ya o->o.data=.func (docDef d.name d.params d.body d.scope t m e)->c.heap.CodeRec m d.name->mg d.name=Ya (.ref h)->
   c.heap.get? a=Ya {cls:=.type "list",data:=.seq vs.toArray}->B2 vs ns->ns.length<=n->c.gens=#[]->
   lr (Ym l.prog w) EG (.call (.ref h) ⟨[.ref a],[]⟩) (λr s'=>r=.ok (.ret (.bool true))/\OldK c.heap s'.heap/\s'.os=c.os/\C1 s'.gens) c):
  WalkO q b y z l.row.toRowW d [] (λf vs=>PySem.call f vs):=by
 intro w s₀ c mg s G Y h o t m e D kV E hd u A v F B K L i C H x I;obtain rfl:D=.none:=Dflts.none A p;obtain rfl:kV=.none:=Dflts.noKw A;obtain⟨a,vs,ns,rfl,rfl,j,g,k⟩:=sO hn i x;refine enter_call (codeAny_mono (call w s₀ c mg s h o t m e a vs ns G Y E (fd_plain hd) u v j g k F) λr s' J=>?_);obtain⟨rfl,h2,h3,h4⟩:=J;exact⟨.inl ⟨.bool true,.bool true,[],rfl,λ_=>rfl,.bool true,sN l _,λ_=>⟨Ex,λ_ hm=>(nomatch hm)⟩⟩,h2,h3,h4⟩
section
variable{prog:YB}{w:YG}{A:Y2}{E:Yd->Yh->Prop}{s:Yh}{K:Frag}
end
end Att
namespace L2
open PySem PySem.Spec PyProof.Rows
variable{P:YB}{w:YG}{mg:Yg->Option Yd}{k n:Nat}{a f:Yf}{fd:YA}{x Zb:Yg}{sp:Sp}{X:Cx}{ps:List Yg}{A B:Prop}{H:Hp}
theorem jL:∀{vs:List Yd} {ns:List Int},B2 vs ns->Vals (ns.map V.int) vs
 |_,_,.nil=>.nil
 |_,_,.cons n t h=>.cons ⟨t,rfl⟩ (jL h)
def yS(H:Hp):Prop:=∀b,H b=Yb∨∃o a,H b=Ya (.frz o (.lst a))
theorem tQ{K:Yc}{E:Yg->Option Yd}{CX:vz}{G:Yf}{c:Yh}{vs:List Yd}{ns:List Int}(O:K.In c.heap)(l:c.heap.Ns YC mg)(hb:c.heap.Ns GH E)(I:∀x:Yg,x≠"__name__"->E x=Cm x)(p:c.heap.NoLimit)(X:c.gens=#[])(ha:c.heap.get? a=Ya {cls:=.type "list",data:=.seq vs.toArray})(Q:B2 vs ns)(R:ns.length<=Yp)(Y:ck k EG)(F:∀base:YF,K.In base->base.Ns YC mg->aP P w K mg base CX k G fd [x] sp)(j:∀(s:Yh) (u:Yd),Fg s fd ⟨[u],[]⟩ [(x,u)])(J:∀H:Hp,yS H->bw K H a (ns.map V.int)->sp [.ref a] H (λv _=>v=.bl true) λ_ _ _=>False)(L:∀H e s',CX [] H c (λ_ _ _=>False) e s'->False):
  lr (Ym P w) EG (.call (.ref G) ⟨[.ref a],[]⟩) (λr s'=>r=.ok (.ret (.bool true))/\OldK c.heap s'.heap/\s'.os=c.os/\C1 s'.gens) c:=by
 have S:=jL Q;have t:=Q.length
 -- from an abstract heap in which nothing but the script may be tracked
 have i:∀H:Hp,yS H->bw K H a (ns.map V.int)->gS P w H c.heap->(∀b,H b≠Yb->b=a)->(H a≠Yb->K.lookup a=Yb)->
   lr (Ym P w) EG (.call (.ref G) ⟨[.ref a],[]⟩) (λr s'=>r=.ok (.ret (.bool true))/\OldK c.heap s'.heap/\s'.os=c.os/\C1 s'.gens) c:=by
  intro H T Z hok U hK;have f:∀{b:Yf} {o:Y1},c.heap.get? b=Ya o->H b=Yb->(nF c.heap H).get? b=Ya o:=λe n=>uj e n;have M:∀{b:Yf} {o:Y1} {y:Array Hb} {A:Nat},c.heap.get? b=Ya o->o.data=.dict y A->H b=none:=fun{b o y A} e d=>by
   cases q:H b with
   |none=>rfl
   |some u=>
    have N:b=a:=U b (by rw[q];simp);subst N;rw[ha]at e;cases e;have d':Data.seq vs.toArray _=Data.dict y A:=d;cases d'
  have g:∀{b:Yf} {m:Yg->Option Yd},c.heap.Ns b m->(nF c.heap H).Ns b m:=fun{b m} ⟨o,y,A,e,d,r⟩=>⟨o,y,A,f e (M e d),d,r⟩;have B:K.In (nF c.heap H):=λb o e=>f (O b o e) (by
   cases q:H b with
   |none=>rfl
   |some u=>
    have N:b=a:=U b (by rw[q];simp);subst N;rw[hK (by rw[q];simp)]at e;cases e)
  have hM:Mod K mg (nF c.heap H):=⟨B,g l,⟨E,g hb,I⟩,let ⟨mc,h1,h2⟩:=p;⟨mc,g h1,h2⟩⟩;have e0:qP P w K mg (nF c.heap H) EG [] c H:=⟨rfl,hM,λb o e=>vO e,Dg (rW _ _),trivial,λb hb=>absurd (show b∈([]:List Yf)from hb) (by simp),hok,.of_eq X⟩;refine codeAny_mono ((F _ B (g l)).run EG [] c H ⟨[.ref a],[]⟩ [.ref a] [.ref a] _ _ Y e0 (j c (.ref a)) (.cons rfl .nil) (J H T Z)) λr s' h=>?_;cases r with
  |error e=>exact(L H e s' h).elim
  |ok fl=>
   cases fl with
   |next=>exact ll h
   |brk=>exact ll h
   |cont=>exact ll h
   |ret u=>
    obtain⟨v,H',os,bare,un,C,r',q⟩:=h;have q':v=.bl true:=q;subst q';obtain rfl:u=Dm true:=r';refine⟨rfl,OldK.of_keep λb o e=>?_,os,bare⟩;cases q:H b with
    |none=>exact un.keep b o e q (by intro z;exact absurd (show b∈([]:List Yf)from z) (by simp)) (by simp)
    |some u=>
     rcases T b with z|⟨ob,xs,z⟩
     ·rw[q]at z;cases z
     ·have z2:=un.frzs b ob _ z;obtain⟨W,_⟩:=hok b _ z;obtain⟨e2,_⟩:=C b _ z2;rw[e]at W;cases W;exact e2
 cases hk:K.lookup a with
 |some o=>
  -- the script is one of the module's own objects
  have e:=O a o hk;rw[ha]at e;cases e;refine i (λ_=>Yb) (λ_=>.inl rfl) (.inr ⟨_,vs.toArray,_,hk,rfl,rfl,rfl,by rw[Yx,t];exact R,by simpa using S⟩) (λb u z=>by have D:(Yb:Option HO)=Ya u:=z;cases D) (λb z=>absurd rfl z) λz=>absurd rfl z
 |none=>
  refine i (λb=>if b=a then Ya (.frz {cls:=.type "list",data:=.seq vs.toArray} (.lst (ns.map V.int)))else Yb) (λb=>?_) (.inl (.inr ⟨{cls:=.type "list",data:=.seq vs.toArray},if_pos rfl⟩)) (λb u z=>?_) (λb z=>?_) λ_=>hk
  ·by_cases hb:b=a
   ·exact .inr ⟨_,_,if_pos hb⟩
   ·exact .inl (if_neg hb)
  ·by_cases hb:b=a
   ·have D:=(if_pos hb).symm.trans z;cases D;subst hb;exact⟨ha,by rw[Yn];exact R,vs,_,S,ha⟩
   ·have D:=(if_neg hb).symm.trans z;cases D
  ·by_cases hb:b=a
   ·exact hb
   ·exact absurd (if_neg hb) z
theorem wN{l:GP}{q:YB}{c:List Yg}{B:(Yg->Option Yd)->YF->Prop}{z:YG->YF->Prop}{d:DefRec}{K:Params->Yc}{CX:YG->vz}{sp:YG->Sp}(hn:l.most=Ya n)(m:n<=Yp)(p:d.params.defaults=[])(C:ck k EG)(D:∀(w:YG) (h:YF),z w h->(K w.params).In h)(F:∀(w:YG) (mg:Yg->Option Yd) (j:Yf) (h:YF),(K w.params).In h->h.Ns YC mg->mg d.name=Ya (.ref j)->
   ∃fd:YA,(∀(s:Yh) (u:Yd),Fg s fd ⟨[u],[]⟩ [(x,u)])/\
    ∀base:YF,(K w.params).In base->base.Ns YC mg->aP l.prog w (K w.params) mg base (CX w) k j fd [x] (sp w)) (r:∀(w:YG) (H:Hp) (a:Yf) (ns:List Int),ns.length<=n->yS H->bw (K w.params) H a (ns.map V.int)->sp w [.ref a] H (λv _=>v=.bl true) λ_ _ _=>False) (t:∀(w:YG) (H:Hp) (s:Yh) (e:Yd) (s':Yh),CX w [] H s (λ_ _ _=>False) e s'->False):
  Hg q c B z l.row.toRowW d [] (λf vs=>PySem.call f vs):=by
 refine Att.attach_call hn p λw s₀ E mg P j o Q R I a vs ns G Y S hd J y i g b L=>?_;have A:=D w _ Y;obtain⟨fd,hb,M⟩:=F w mg j _ A G.T.g y;exact tQ A G.T.g G.T.b G.T.builtins G.T.nolimit L i g (YI b m) C M hb (λH N O=>r w H a ns b N O) λH e s'=>t w H E e s'
noncomputable def gK(s:Y5)(j:Nat):Y5:=match s with
 | .ClassDef _ _ _ Zn _ _ _ _ _ _ _=>Zn.getD j (.Pass ⟨0,0,0,0⟩)
 |_=>.Pass ⟨0,0,0,0⟩
noncomputable def ff(s:Y5):Arguments:=match s with
 | .FunctionDef _ a _ _ _ _ _ _ _ _=>a
 |_=>{posonlyargs:=[],args:=[],vararg:=Yb,kwonlyargs:=[],kw_defaults:=[],kwarg:=Yb,defaults:=[]}
noncomputable def cX(s:Y5):List Y5:=match s with
 | .FunctionDef _ _ b _ _ _ _ _ _ _=>b
 |_=>[]
noncomputable def aq(s:Y5):Cg:=match s with
 | .FunctionDef _ _ _ _ _ _ sc _ _ _=>sc
 |_=>{kind:=.function,names:=[],isGenerator:=false,isCoroutine:=false}
abbrev cT:vz:=λ_ _ _ _ _ _=>False
abbrev E0:XK:=λ_ _ _=>False
theorem mR:iD cT X E0:=λ_ _ _ _ _ _ _ h=>h.elim
structure cc(K:Yc)(x Zb:Yg)(st:Y5)(f:Yf)(fd:YA):Prop where
 ex:∃(oc:Yd) (od:Option Yf) (kV doc pm:Yd) (an:Option Yf) (cdv ct:Yd) (osl:Array (Option Yd)),
  fd=Cq x Zb (ff st) (cX st) (aq st) .none kV doc pm an cdv ct/\K.lookup f=Ya ⟨oc,od,.func fd,osl⟩/\Fh K cdv Zb=true
 kp:Ci K (.ref f)=true
section
variable{K:Yc}{base:YF}
theorem cc.ok{st:Y5}{N:List Yg}(F:cc K x Zb st f fd)(S:aO N ps (aq st))(len:∀vs H Q E,sp vs H Q E->vs.length=ps.length)(b:∀(a:Yd) (A:Y2) (outer:List BW) (s:Yh) (H:Hp) (vs:List V) (Q:VK) (E:XK),ck k (A.deeper (Co Zb (aq st) s.heap.objs.size f a))->sp vs H Q E->
   ∃t,p9 (aU cT P w K mg base N Zb (aq st) f a A outer s H E).nox (cX st) t/\t {nx:=λ_ e=>Q .non e,rt:=Q} (ic N vs) H):aP P w K mg base cT (k+ 1) f fd ps sp:=by
 obtain⟨m,n,kV,g,o,p,a,ct,i,rfl,j,c⟩:=F.ex;refine xj j c S len λA outer s H vs Q E l d=>?_;obtain⟨t,h,q⟩:=b a A outer s H vs Q E l d;exact⟨t,h.nox,q⟩
theorem cc.binds{st:Y5}(F:cc K x Zb st f fd)(h:∀(kV a c:Yd) (d:Option Yf) (b ct:Yd) (us:List Yd),us.length=ps.length->Gs (Cq x Zb (ff st) (cX st) (aq st) .none kV a c d b ct) ⟨us,[]⟩=pure (ps.zip us)):Binds K fd ps []:=by
 obtain⟨i,j,kV,a,c,d,b,ct,e,rfl,k,g⟩:=F.ex;exact .all (h kV a c d b ct)
theorem x5{st:Y5}{h:Yd}{i e:Option Yf}{d:Array (Option Yd)}{kV b g a ct:Yd}(l:K.lookup f=Ya ⟨h,i,.func (Cq x Zb (ff st) (cX st) (aq st) .none kV b g e a ct),d⟩)(c:Fh K a Zb=true)(k:Ci K (.ref f)=true):cc K x Zb st f (Cq x Zb (ff st) (cX st) (aq st) .none kV b g e a ct):=⟨⟨h,i,kV,b,g,e,a,ct,d,rfl,l,c⟩,k⟩
end
theorem jg{A:Y2}(a:ck k A):A.units+ 1<C9:=CD (Nat.add_le_add_left (by decide:1<=64) _) a.units
theorem dz(h:n<=1000):n<Yp:=CD h (by decide)
section
theorem pv(i:Nat){pos:CW}(b:X.N[i]?=Ya x:=by rfl)(c:Bs X.env.scope x:=by first|exact Or.inl rfl|exact Or.inr (Or.inl rfl)|exact Or.inr (Or.inr rfl))(hd:(x==("__debug__":Yg))=false:=by decide)(a:(x==("__classdict__":Yg))=false:=by decide):PE X (.Name x pos) (jH i):=yI b c hd a
end
theorem Bp(h:B):if false=true then A else B:=by
 rw[if_neg Yr];exact h
theorem AY(h:A):if true=true then A else B:=by
 rw[if_pos rfl];exact h
theorem a6{c:Prop}[Decidable c](h1:c->A)(h2:¬ c->B):if c then A else B:=by
 by_cases h:c
 ·rw[if_pos h];exact h1 h
 ·rw[if_neg h];exact h2 h
def aX(H a:Hp):Prop:=∀b o,H b=Ya o->a b=Ya o
theorem aX.refl(H:Hp):aX H H:=λ_ _ h=>h
theorem aX.trans{d e:Hp}(a:aX H d)(b:aX d e):aX H e:=λc o h=>b c o (a c o h)
theorem aX.seq{K:Yc}{b:Hp}{xs:List V}(e:aX H b)(h:bw K H a xs):bw K b a xs:=by
 rcases h with(h|⟨o,h⟩)|h
 ·exact .inl (.inl (e _ _ h))
 ·exact .inl (.inr ⟨o,e _ _ h⟩)
 ·exact .inr h
section
variable{κ:Type}[DecidableEq κ]
end
end L2
namespace GX
open PySem
variable{env:BW}{sc:Cg}{n:Yg}{c:Yf}
theorem lO{α β:Type}{f:α->β->Fe (ForInStep β)}(g:α->β->β):∀(l:List α) (b:β),(∀x∈l,∀b,f x b=pure (.yield (g x b)))->
  forIn l b f=pure (l.foldl (λb x=>g x b) b)
 |[],b,_=>rfl
 |x::l,b,h=>by
  simp only[List.forIn_cons,h x (.head _),pure_bind];exact lO g l (g x b) λy a=>h y (Yw _ a)
noncomputable def iI(env:BW)(x:Yg×DA)(a:List (Yg×Yf)):List (Yg×Yf):=if x.2==.free then(x.1,(env.cells.lookup x.1).getD 0)::a else a
theorem qt(h:∀y∈sc.names,y.2=.free->∃c,env.cells.lookup y.1=Ya c):
  GQ sc env=pure (sc.names.foldl (λb x=>iI env x b) []):=by
 simp only[GQ];rw[lO (iI env) sc.names [] (λx d b=>by
  obtain⟨n,k⟩:=x;unfold iI;by_cases a:k=.free
  ·subst a;obtain⟨c,hc⟩:=h _ d rfl;have e:cellOf env n=pure c:=by unfold cellOf;rw[hc]
   simp[e,hc]
  ·have hb:(k==Yz)=false:=by simpa using a
   simp only[hb,Di,if_false])]
 rfl
theorem lG{env:BW}:∀(l:List (Yg×DA)) (a:List (Yg×Yf)),(∀y∈l,y.2=.free->∃c,env.cells.lookup y.1=Ya c)->(∀p∈a,env.cells.lookup p.1=Ya p.2)->
  ∀p∈l.foldl (λb x=>iI env x b) a,env.cells.lookup p.1=Ya p.2
 |[],a,_,ha=>ha
 |x::l,a,h,ha=>by
  refine lG l _ (λy f=>h y (Yw _ f)) λp d=>?_;unfold iI at d;dsimp only at d;by_cases e:x.2=.free
  ·obtain⟨c,hc⟩:=h x YL e;rw[e]at d;simp only[beq_self_eq_true,if_true]at d;rcases YK.mp d with rfl|d
   ·rw[hc];rfl
   ·exact ha p d
  ·have hb:(x.2==Yz)=false:=by simpa using e
   simp only[hb,Di,if_false]at d;exact ha p d
theorem lQ{env:BW}{n:Yg}:∀(l:List (Yg×DA)) (a:List (Yg×Yf)),((∃c,(n,c)∈a)∨(n,Yz)∈l)->∃c,(n,c)∈l.foldl (λb x=>iI env x b) a
 |[],a,h=>by
  rcases h with h|h
  ·exact h
  ·cases h
 |x::l,a,h=>by
  refine lQ l _ ?_;unfold iI;dsimp only;rcases h with⟨c,h⟩|h
  ·refine .inl ⟨c,?_⟩;split
   ·exact Yw _ h
   ·exact h
  ·rcases YK.mp h with h|h
   ·refine .inl ?_;subst h;exact⟨_,by rw[if_pos (by rfl)];exact .head _⟩
   ·exact .inr h
theorem iq{n:Yg}{c:Yf}:∀{l:List (Yg×Yf)},(n,c)∈l->∃a,l.lookup n=Ya a
 |[],h=>by cases h
 |(m,d)::l,h=>by
  rw[EK];cases e:n==m with
  |true=>exact⟨d,rfl⟩
  |false=>
   rcases YK.mp h with h|h
   ·cases h;simp at e
   ·exact iq h
theorem uq{n:Yg}{c:Yf}:∀{l:List (Yg×Yf)},l.lookup n=Ya c->(n,c)∈l
 |[],h=>by cases h
 |(m,d)::l,h=>by
  rw[EK]at h;cases e:n==m with
  |true=>
   rw[e]at h;have a:n=m:=by simpa using e
   have b:d=c:=Yy h;rw[a,b];exact YL
  |false=>
   rw[e]at h;exact Yw _ (uq h)
theorem qy(h:∀y∈sc.names,y.2=.free->∃c,env.cells.lookup y.1=Ya c):
  ∃cl,GQ sc env=pure cl/\(∀x c,cl.lookup x=Ya c->env.cells.lookup x=Ya c)/\(∀n,(n,Yz)∈sc.names->∃c,cl.lookup n=Ya c):=by
 refine⟨_,qt h,λx c e=>?_,λn hn=>?_⟩
 ·exact lG sc.names [] h (λp a=>by cases a) (x,c) (uq e)
 ·obtain⟨c,hc⟩:=lQ (env:=env) sc.names [] (.inr hn);exact iq hc
theorem cO{x:Yg}{a:List (Yg×DA)}:
  (a.map fun(n,k)=>if(k==Yz&&env.scope.kind==.function&&env.kindOf n==Ya .cell)then(n,YW)else(n,k)).lookup x
  =(a.lookup x).map λk=>if(k==Yz&&env.scope.kind==.function&&env.kindOf x==Ya .cell)then YW else k:=by
 induction a with
 |nil=>rfl
 |cons p r ih=>
  obtain⟨n,k⟩:=p;rw[Cd];by_cases e:x=n
  ·subst e;dsimp only;split<;>simp_all
  ·have b:(x==n)=false:=by simpa using e
   dsimp only;split<;>simp only[EK,b]<;>exact ih
noncomputable def kS(d a:YN)(e:List YN)(it b:Yd)(env:BW):Fe Bool:=do
 match←CY it with
 |none=>pure false
 |some v=>
  DM a it v
  Ff a env v
  let ok←forIn e true λc r=>if r=true then do let ok←GI c env (dk c env);pure (DP ok)else pure (DP r)
  if ok=true then do
   let x←dk d env;let _←call (.builtin "list.append") [b,x]
   pure true
  else pure true
theorem rk(d a iter:YN)(e:List YN)(b:Cg)(pos:CW)(it c:Yd)(env:BW):
  compTurn (.ListComp d [⟨a,iter,e,0⟩] b pos) 0 it c env=(do
   F3 iter.pos
   let more←kS d a e it c env
   if more=true then again (.compLoop (.ListComp d [⟨a,iter,e,0⟩] b pos) 0 it c env)else pure (.done .next)):=by
 rw[compTurn_list,kS];simp only[bind_assoc];congr 1;funext _;congr 1;funext r;cases r with
 |none=>simp
 |some v=>
  simp only[bind_assoc];congr 1;funext _;congr 1;funext _;congr 1;funext ok;cases ok<;>simp
theorem pC{prog:YB}{w:YG}{A:Y2}{R:Dv->Yh->Prop}{s:Yh}{e a iter:YN}{f:List YN}{b:Cg}{pos:CW}{it c:Yd}(I:Nat->Yh->Prop)(d:∀n s,I n s->Yj (Ym prog w) A (kS e a f it c env) (λmore s'=>if more=true then∃m,m<n/\I m s' else R (.ok .next) s') (λ_ _=>False) s)(n:Nat)(h:I n s):
  lr (Ym prog w) A (.compLoop (.ListComp e [⟨a,iter,f,0⟩] b pos) 0 it c env) R s:=by
 apply Hs rfl I _ n h;intro n s g;apply wpAny_noted;rw[rk];change Yj _ A _ _ _ _;apply Ye;apply Eg;apply Ye;refine xn (d n s g) (λmore s' q=>?_) λ_ _ z=>z.elim;cases more
 ·exact Yk q
 ·exact Yk ⟨rfl,q⟩
end GX
namespace GX
open PySem PySem.Spec PyProof.Rows
variable{B:CL}{A:Y2}{R:Dv->Yh->Prop}
section
variable{prog:YB}{w:YG}
theorem enter{id:String}{a:Args}{Sp:PySem.Spec}{s:Yh}(b:Fw Hi id=Ya B)(c:plainId id=true)(m:MeetsIn prog w (B a) Sp)(h:Sp A R s):
  lr (Ym prog w) A (.builtin id a) R s:=DQ b (by rw[Around.under_plainId c];exact m A R s h)
variable{Zs:Yd}{op:CmpOp}{lp:String}{l I S:Yf}{vs:List Yd}{bt:Nat->Nat->Bool}{G:List (Nat×Yd)->Yh->Prop}{kw:List (Yg×Yd)}
end
end GX
namespace GX
open PySem
end GX
namespace GB
end GB
namespace GB
end GB
namespace L2
open PySem PySem.Spec PyProof.Rows
variable{X:Cx}{H:Hp}{h:YF}{C:Yf}{Zk tg iter:YN}{Zj es:List YN}{sc:Cg}{pos:CW}{g:TG}{tt:TT}{te:TE}{σ:St}{Qe:Hp->Prop}{x:Yg}
noncomputable def Az(N:List Yg)(sc:Cg)(x:Yg):Option Nat->Bool
 |none=>true
 |some j=>decide (N[j]?=Ya x)&&decide (sc.names.lookup x=Ya .free)
def si(N c:List Yg)(a:List (Option Nat))(b sc:Cg):Prop:=
 (∀y∈sc.names,y.2≠.cell)/\(∀y∈sc.names,y.2=.local->sc.names.lookup y.1=Ya .local)/\
 (∀y∈sc.names,y.2=.free->b.names.lookup y.1=Ya .cell∨b.names.lookup y.1=Ya .free)/\
 c.Nodup/\a.length=c.length/\∀p∈c.zip a,Az N sc p.1 p.2=true
noncomputable instance (N N':List Yg) (src:List (Option Nat)) (esc sc:Cg):Decidable (si N N' src esc sc):=by unfold si;infer_instance
noncomputable def kr(a:List (Option Nat))(σ:St):St:=a.map λo=>o.bind λj=>(σ[j]?).bind λv=>v
noncomputable def Cx.blk(X:Cx)(a:List Yg)(sc:Cg)(cl:List (Yg×Yf))(C:Yf)(b:Yh)(c:Hp)(d:List Yf):Cx:=
 {X with N:=a,s₀:=b,H₀:=c,env:=EL sc cl C X.env,outer:=X.stack,ex:=d,fn:=λ_=>false,pn:=[],xe:=λ_ _=>False}
def zt(X:Cx)(b:List YN)(t:TT):Prop:=
 ∀(a:List (Yf×Y1)) (s:Yh) (σ:St) (H:Hp) (Q:Bool->Hp->Prop),aC X a σ H s->t σ H Q->
  Yj (Ym X.prog X.w) X.A (forIn b true λc r=>if r=true then do let ok←GI c X.env (dk c X.env);pure (DP ok)else pure (DP r)) (TP X a σ Q) X.xe s
def AA:TT:=λ_ H Q=>Q true H
theorem oG:zt X [] AA:=λ_ _ _ H _ I h=>wpAny_tests_nil ⟨H,I,h⟩
theorem Un.but{fs ex:List Yf}{d:Hp}{h1 h2:YF}(u:Un fs ex H d h h1)(c:rl C h1 h2)(f:h.get? C=Yb):Un fs ex H d h h2:=
 have ne:∀b o,h.get? b=Ya o->b≠C:=λb o e z=>by rw[z,f]at e;cases e
 ⟨λb o e n hb a=>(c.2 b (ne b o e)).trans (u.keep b o e n hb a),λb o e n hb a=>let ⟨sl,z⟩:=u.slot b o e n hb a;⟨sl,(c.2 b (ne b o e)).trans z⟩,u.free,
  λb o e a=>let ⟨o',z⟩:=u.there b o e a;⟨o',(c.2 b (ne b o e)).trans z⟩,u.tups,u.frzs,u.tbls⟩
theorem gS.but{P:YB}{w:YG}{h':YF}(x:gS P w H h)(d:rl C h h')(a:H C=Yb):gS P w H h':=λb ob e=>by
 refine(x b ob e).stay (λc v hc q=>(d.2 c ?_).trans q) (λ_ q=>q) λ_ _ q=>q;rintro rfl;rcases hc with rfl|hc
 ·rw[a]at e;cases e
 ·rw[a]at hc;cases hc
def iX(g:TG)(f:TT)(h:TE)(D:Yf)(N:St->Hp->Prop)(x:V)(σ:St)(H:Hp):Prop:=
 g x σ H λa i=>f a i λb d=>if b=true then h a d λy e=>∃c,e D=Ya (.lst c)/\c.length<Yp/\N a (upd e D (.lst (c++[y])))else N a d
def uM(c:List (Option Nat))(k:TI)(g:TG)(l:TT)(n:TE):TE:=λσ H Q=>k σ H λJ d=>∀D,d D=Yb->∃W:Nat->Nat->St->Hp->Prop,(∃m,W 0 m (kr c σ) (upd d D (.lst [])))/\
 ∀i m e a,W i m e a->(J.stop i a/\Q (.ref D) a)∨(J.go i a/\∃N:St->Hp->Prop,(∀f h,N f h->∃j,j<m/\W (i+ 1) j f h)/\
  ∀x b,J.yld i a x b->iX g l n D N x e b)
theorem sr{s:List Yg}{B:List (Option Nat)}{cl:List (Yg×Yf)}{Za:List (Yf×Y1)}{d:Hp}{a:Yh}{it:Yf}{f:List Yf}{tn:Nat->YF->Prop}{J:It}{W:Nat->Nat->St->Hp->Prop}{m0:Nat}{RR:Yd->Yf->Dv->Yh->Prop}(hc:X.calm=true)(hk:sc.kind=.function)(hB:si X.N s B X.env.scope sc)(h:∀x c,cl.lookup x=Ya c->X.env.cells.lookup x=Ya c)(O:∀n,(n,Yz)∈sc.names->∃c,cl.lookup n=Ya c)(hg:∀cl C a d f,s.Nodup->PG (X.blk s sc cl C a d f) tg g)(ht:∀cl C a d f,zt (X.blk s sc cl C a d f) Zj tt)(he:∀cl C a d f,PE (X.blk s sc cl C a d f) Zk te)(l:aC X Za σ d a)(T:tD X.prog X.w X.K tg J f it tn)(K:tn 0 a.heap)(f2:∀b∈f,ly X Za d b)(w0:W 0 m0 (kr B σ) (upd d a.heap.objs.size (.lst [])))(ab:∀i m P t,W i m P t->(J.stop i t/\Qe t)∨(J.go i t/\∃N:St->Hp->Prop,(∀σ2 d,N σ2 d->∃m',m'<m/\W (i+ 1) m' σ2 d)/\
   ∀x ac,J.yld i t x ac->iX g tt te a.heap.objs.size N x P ac)) (an:∀C s4 S U,a.heap.objs.size<=C->aC (X.blk s sc cl C a d f) [] S U s4->Qe U->RR (.ref a.heap.objs.size) C (.ok .next) s4):
  Yj (Ym X.prog X.w) X.A (F4 []) (λad s₃=>Yj (Ym X.prog X.w) X.A (G2 sc X.env.globals cl [] X.env.qual Yb .none (Ya X.env)) (λQ s₄=>
   lr (Ym X.prog X.w) X.A (.compStart (.ListComp Zk [⟨tg,iter,Zj,0⟩] sc pos) 0 (.ref it) ad {Q with scope:=F5 sc X.env}) (RR ad Q.locals) s₄) X.xe s₃) X.xe a:=by
 obtain⟨b1,b2,b3,b4,b5,b6⟩:=hB;refine BP (Fx b1 (by intro y hy;simp at hy) (λh₁ V L=>?_) hk);dsimp only at V L⊢;generalize hP:a.heap.push {cls:=.type "list",dict:=Yb,data:=.seq ([]:List Yd).toArray}=Hl at V L⊢;have hC:Hl.objs.size=a.heap.objs.size+ 1:=by rw[←hP,Cj]
 have ag:a.heap.objs.size≠Hl.objs.size:=by rw[hC];exact YD (Cn _)
 have F:∀{b:Yf} {o:Y1},a.heap.get? b=Ya o->b≠Hl.objs.size:=fun{b o} z=>by
  have:=Yq z;rw[hC];exact YD (CJ this)
 have D:∀b o,a.heap.get? b=Ya o->h₁.get? b=Ya o:=λb o z=>L.extBut b o (F z) (Yi _ (hP▸Yi _ z));have ao:h₁.get? a.heap.objs.size=Ya {cls:=.type "list",data:=.seq ([]:List Yd).toArray}:=L.extBut _ _ ag (Yi _ (hP▸Yu _ rfl));have fD:d a.heap.objs.size=none:=l.hok.fresh (Yo _);have fC:d Hl.objs.size=none:=l.hok.fresh (by rw[hC];exact tB _);have ok:(X.blk s sc cl Hl.objs.size a d f).Ok:=by
  refine⟨l.ok.mod,hk,l.ok.glob,l.ok.blt,?_,λx y c h1 h2=>l.ok.inj x y c (h x c h1) (h y c h2),λx hx=>?_,λx c z=>?_,l.ok.hd,l.ok.frames,.inl rfl,λb hb=>⟨?_,λx c z=>(f2 b hb).2.2.2.2.1 x c (h x c z)⟩,
   l.bs,YI l.ok.bsz l.sz,λb o z hb=>?_,λb hb z=>?_,l.stack,l.stkFree⟩
  ·show a.heap.objs.size<=Hl.objs.size;rw[hC];exact tB _
  ·have E:(sc.names.map fun(n,k)=>if(k==Yz&&X.env.scope.kind==.function&&X.env.kindOf n==Ya .cell)then(n,YW)else(n,k)).lookup x=Ya .cell∨
     (sc.names.map fun(n,k)=>if(k==Yz&&X.env.scope.kind==.function&&X.env.kindOf n==Ya .cell)then(n,YW)else(n,k)).lookup x=Ya .free:=hx
   rw[GX.cO]at E;cases e:sc.names.lookup x with
   |none=>
    rw[e]at E;simp at E
   |some k=>
    rw[e]at E;by_cases hf:k=.free
    ·subst hf;exact O x (Y4 e)
    ·have hb:(k==Yz)=false:=by simpa using hf
     have M:((Ya k).map λk=>if(k==Yz&&X.env.scope.kind==.function&&X.env.kindOf x==Ya .cell)then YW else k)=Ya k:=by
      show Ya (if(k==Yz&&X.env.scope.kind==.function&&X.env.kindOf x==Ya .cell)=true then YW else k)=Ya k;rw[hb,BS,BS];rfl
     rw[M]at E;rcases E with z|z
     ·exact absurd (Yy z) (b1 _ (Y4 e))
     ·exact absurd (Yy z) hf
  ·cases z
  ·obtain⟨o,z,_⟩:=T.obj 0 _ K b hb;exact F z
  ·rcases(f2 b hb).2.2.2.1 with f3|f3
   ·exact l.ok.noex b o z f3
   ·have l1:=Yq z;have l2:=l.ok.bsz;exact absurd (Yv l1 (YI l2 f3)) (xg _)
  ·rcases YK.mp (l.stkSub b z)with z|z
   ·exact(f2 b hb).2.1 z
   ·exact(f2 b hb).2.2.1 z
 have IY:aC (X.blk s sc cl Hl.objs.size a d f) [] (kr B σ) (upd d a.heap.objs.size (.lst [])) {a with heap:=h₁,toks:=a.toks+ ([]:List (Yg×Yd)).length}:=by
  refine⟨ok,rfl,l.bare,Un.laid D (Yo _) fD,⟨_,V,λi x v e1 M _=>?_⟩,λx c z=>?_,?_,λx c z=>?_,λp hp=>?_,l.hok.laid D (Yo _) ⟨kx _,[],0,.nil,ao⟩,?_⟩
  ·have ap:s[i]?=Ya x:=e1;unfold kr at M;rw[YX]at M;cases es:B[i]? with
   |none=>rw[es]at M;cases M
   |some o=>
    rw[es]at M;cases o with
    |none=>cases M
    |some j=>
     have e3:(σ[j]?).bind (λv=>v)=Ya v:=Yy M;have e4:σ[j]?=Ya (Ya v):=by
      cases q:σ[j]? with
      |none=>rw[q]at e3;cases e3
      |some w=>rw[q]at e3;exact congrArg Ya e3
     have hz:(x,Ya j)∈s.zip B:=ar (i:=i) (by rw[EB];exact⟨ap,es⟩);have aj:=b6 _ hz;have A:(decide (X.N[j]?=Ya x)&&decide (sc.names.lookup x=Ya .free))=true:=aj;rw[Cr]at A;have c1:X.N[j]?=Ya x:=of_decide_eq_true A.1;have c2:sc.names.lookup x=Ya .free:=of_decide_eq_true A.2;have G:=Y4 c2;have ak:=b3 _ G rfl;obtain⟨m,hn,hl⟩:=l.loc;obtain⟨u,ru,lk⟩:=hl j x v c1 e4 (.inr ak);rcases lk with⟨k1,_⟩|⟨_,c,k2,z⟩
     ·have as:X.env.scope.names.lookup x=Ya .local:=k1;rcases ak with v|v<;>(rw[as]at v;cases v)
     ·obtain⟨c',k3⟩:=O x G;have k4:=h x c' k3;rw[k2]at k4;cases k4;refine⟨u,ru,.inr ⟨?_,c,k3,z.keeps D⟩⟩;show(sc.names.map fun(n,k)=>if(k==Yz&&X.env.scope.kind==.function&&X.env.kindOf n==Ya .cell)then(n,YW)else(n,k)).lookup x=Ya .cell∨
       (sc.names.map fun(n,k)=>if(k==Yz&&X.env.scope.kind==.function&&X.env.kindOf n==Ya .cell)then(n,YW)else(n,k)).lookup x=Ya .free
      rw[GX.cO,c2];show Ya (if _ then YW else Yz)=_∨Ya (if _ then YW else Yz)=_;split
      ·exact .inl rfl
      ·exact .inr rfl
  ·obtain⟨v,q⟩:=l.cell x c (h x c z);exact⟨v,q.keeps D⟩
  ·show upd d a.heap.objs.size (.lst []) Hl.objs.size=Yb;rw[aR (Ne.symm ag)];exact fC
  ·obtain⟨v,q⟩:=l.cell x c (h x c z);rw[aR (YD q.lt)];exact l.freeC x c (h x c z)
  ·exact absurd (show p∈([]:List (Yf×Y1))from hp) (by simp)
  ·show(B.map _).length=s.length;rw[Yn];exact b5
 have H:∀{t:Hp},(∀b∈f,t b=Yb)->∀b∈f,ly (X.blk s sc cl Hl.objs.size a d f) [] t b:=λhn b hb=>
  ⟨hn b hb,(ok.exf b hb).1,ok.exfs b hb,.inl hb,(ok.exf b hb).2,λp hp=>absurd (show p∈([]:List (Yf×Y1))from hp) (by simp)⟩
 have R:lr (Ym X.prog X.w) X.A (.compLoop (.ListComp Zk [⟨tg,iter,Zj,0⟩] sc pos) 0 (.ref it) (.ref a.heap.objs.size) (EL sc cl Hl.objs.size X.env))
   (RR (.ref a.heap.objs.size) Hl.objs.size) {a with heap:=h₁,toks:=a.toks+ ([]:List (Yg×Yd)).length}:=by
  refine GX.pC (λn s'=>∃i P t,aC (X.blk s sc cl Hl.objs.size a d f) [] P t s'/\tn i s'.heap/\(∀b∈f,t b=Yb)/\W i n P t) ?_ m0
   ⟨0,_,_,IY,T.keep 0 _ _ K (λb _ o z=>D b o z),λb hb=>?_,w0⟩
  ·rintro n s3 ⟨i,S,U,I3,al,am,w3⟩;rcases ab i n S U w3 with⟨stop,qn⟩|⟨go,N,hN,step⟩
   ·refine Ye (bQ (T.done (X.blk s sc cl Hl.objs.size a d f) rfl rfl rfl hc i [] s3 S U (λ_ _=>False) I3 (H am) al stop) λr s4 I=>?_);obtain⟨hr,I4⟩:=I;subst hr;exact Yk<|an _ s4 S U (by rw[hC];exact tB _) I4 qn
   ·refine Ye (bQ (T.item (X.blk s sc cl Hl.objs.size a d f) rfl rfl rfl hc i [] s3 S U (λ_ _=>False) I3 (H am) al go) λr s4 I=>?_);obtain⟨u,hr,h4⟩:=I;subst hr;refine Ye (bQ h4 λ_ s5 I=>?_);obtain⟨x,H5,I5,r5,y5,Y,au⟩:=I;have aw:=I5.pinned (H au) (T.obj _ _ Y);have again:∀{σ7:St} {Z:Hp} {s7:Yh},aC (X.blk s sc cl Hl.objs.size a d f) ([]++jS f s5.heap) σ7 Z s7->N σ7 Z->
      ∃m,m<n/\∃i P t,aC (X.blk s sc cl Hl.objs.size a d f) [] P t s7/\tn i s7.heap/\(∀b∈f,t b=Yb)/\W i m P t:=fun{σ7 Z s7} I7 n7=>by
     obtain⟨m',hm,w7⟩:=hN σ7 Z n7;refine⟨m',hm,i+ 1,σ7,Z,I7.unpinned,T.keep _ _ _ Y λb hb o z=>(I7.pin (b,o) (YH _ (YH _ (cS hb z)))).1,λb hb=>?_,w7⟩;obtain⟨o,z,_⟩:=T.obj _ _ Y b hb;exact(I7.pin (b,o) (YH _ (YH _ (cS hb z)))).2.1
    refine Ye (bQ (hg cl Hl.objs.size a d f b4 _ s5 S H5 x u _ aw r5 (step x H5 y5)) λ_ s6 I=>?_);obtain⟨σ6,H6,I6,q6⟩:=I;refine Ye (bQ (ht cl Hl.objs.size a d f _ s6 σ6 H6 _ I6 q6) λok s7 I=>?_);obtain⟨Z,I7,q7⟩:=I;cases ok with
    |true=>
     rw[if_pos rfl]at q7⊢;refine Ye (bQ (he cl Hl.objs.size a d f _ s7 σ6 Z _ I7 q7) λyv s8 I=>?_);obtain⟨y,H8,I8,r8,ys,hD,hz,n8⟩:=I;exact Ye<|bQ (gI (X:=X.blk s sc cl Hl.objs.size a d f) _ s8 σ6 H8 (.ref a.heap.objs.size) [y] (.ref a.heap.objs.size) [yv] (λ_ t=>N σ6 t) I8 rfl (.cons r8 .nil) ⟨_,ys,y,rfl,rfl,hD,hz,n8⟩)
      λ_ s9 ⟨_,H9,I9,_,n9⟩=>Yk (again I9 n9)
    |false=>
     rw[if_neg Yr]at q7⊢;exact Yk (again I7 q7)
  ·obtain⟨o,z,_⟩:=T.obj 0 _ K b hb;rw[aR (YD (Yq z))];exact(f2 b hb).1
 exact E6 R (T.self X.A 0 _ _ _ (T.keep 0 _ _ K (λb _ o z=>D b o z)) R)
theorem rp{w:TI}(j:List Yg)(k:List (Option Nat))(hc:X.calm=true)(hk:sc.kind=.function)(D:decide (si X.N j k X.env.scope sc)=true)(E:PI X tg iter w)(F:∀cl C a f c,j.Nodup->PG (X.blk j sc cl C a f c) tg g)(G:∀cl C a f c,zt (X.blk j sc cl C a f c) Zj tt)(K:∀cl C a f c,PE (X.blk j sc cl C a f c) Zk te)(L:∀x,Et iter X.env x=pure x:=by intro _;rfl):
  PE X (.ListComp Zk [⟨tg,iter,Zj,0⟩] sc pos) (uM k w g tt te):=by
 intro z s σ H Q I h;have B:=of_decide_eq_true D;obtain⟨cl,d,l,n⟩:=GX.qy (env:=X.env) (sc:=sc) λy M N=>I.ok.has y.1 (B.2.2.1 y M N);rw[eval_ListComp];refine wpAny_comprehension_free (use:=Yb) rfl L d hk B.2.1 (bQ (E z s σ H _ I h) λv s1 h1=>bQ h1 λO a h2=>?_);obtain⟨it,c,tn,J,f,e,r,T,t,o,q⟩:=h2;subst e;obtain⟨W,⟨m0,P⟩,p⟩:=q a.heap.objs.size (r.hok.fresh (Yo _));refine sr (RR:=λu C=>compPost (Ym X.prog X.w) X.A X.xe Yb (EP X z σ Q) u C) (Qe:=λR=>Q (.ref a.heap.objs.size) R) hc hk B l n F G K r T t o P p λC S σ3 U V i Y=>?_;obtain⟨m,hn,_⟩:=i.loc;refine⟨m,hn,λZ A=>⟨.ref a.heap.objs.size,U,?_,rfl,Y⟩⟩;exact r.call' (s':={S with heap:=Z}) (ch:=c) i.os (i.base.but A (CP V)) (i.hok.but A i.free) i.bare λb hb=>⟨(o b hb).2.2.2.1,(o b hb).2.1,(o b hb).2.2.2.2.1,(o b hb).2.2.2.2.2⟩
theorem nk{K:Yc}{a:Yf}{xs:List V}{D:Yf}(b:Nat->St->Hp->Prop)(h0:b 0 σ H)(n:∀i σ H,i<=xs.length->b i σ H->bw K H a xs)(o:∀i x σ H,xs[i]?=Ya x->b i σ H->iX g tt te D (b (i+ 1)) x σ H)(hd:∀σ H,b xs.length σ H->Qe H):
  ∃W:Nat->Nat->St->Hp->Prop,(∃m,W 0 m σ H)/\∀i m h c,W i m h c->((vY K a).stop i c/\Qe c)∨((vY K a).go i c/\∃N:St->Hp->Prop,(∀j k,N j k->∃l,l<m/\W (i+ 1) l j k)/\
   ∀x d,(vY K a).yld i c x d->iX g tt te D N x h d):=by
 refine⟨λi m σ H=>m=xs.length-i/\i<=xs.length/\b i σ H,⟨xs.length,by simp,kx _,h0⟩,?_⟩;rintro i m σ H ⟨rfl,r,p⟩;have q:=n i σ H r p;by_cases f:i<xs.length
 ·refine .inr ⟨⟨xs,xs[i],q,by simp[f]⟩,b (i+ 1),λh c s=>⟨xs.length-(i+ 1),by omega,rfl,f,s⟩,λx c y=>?_⟩;obtain⟨e,y⟩:=y;subst e;exact o i x σ _ (y xs q) p
 ·have e:i=xs.length:=by omega
  subst e;exact .inl ⟨⟨xs,q,Yo _⟩,hd σ H p⟩
section
def rq(_ j:Int):Prop:=0<j/\j<18446744073709551616
theorem oU:iF X (Df .FloorDiv) (rI rq λi j=>.int (i / j)):=Ad λi j _ _ _ _ _ hc q=>by
 have h1:(0:Int)<j:=hc.1;have h2:j<18446744073709551616:=hc.2;refine Hq (by omega) (by rw[Eh i (by omega)];exact q) (.inl (PyProof.noPylong_of_log2 ?_));have h3:j.natAbs.log2<64:=(Gp (by omega)).mpr (by omega);omega
theorem oW:cY X (.builtin "isinstance") (λxs H Q=>∃(x:V) (t:Yd) (T:String) (b:Bool),xs=[x,.ty T]/\iG X.K H x t/\mr X.K t (.type T)=Ya b/\Q (.bl b) H):=by
 intro g s σ H xs i Q I r h;obtain⟨x,t,T,b,rfl,ty,e,q⟩:=h;obtain⟨u,a,rfl,c,d⟩:=vK r;obtain rfl:a=pw T:=d;exact sE I c ty e λf=>⟨.bl b,H,I.tok f,rfl,q⟩
theorem sy(bs:List Bool):(Dq bs.length).all (λi=>bs.getD i false)=bs.all λb=>b:=by
 have e:(Dq bs.length).map (λi=>bs.getD i false)=bs:=List.ext_getElem (by simp) λi h1 h2=>by simp[h2]
 conv=>rhs;rw[←e,Ht]
 rfl
theorem vp(hc:X.calm=true):cY X (.builtin "all") (λxs H Q=>∃(p:Yf) (bs:List Bool),xs=[.ref p]/\bw X.K H p (bs.map V.bl)/\Q (.bl (bs.all λb=>b)) H):=by
 intro C s σ H xs D Q I r h;obtain⟨p,bs,rfl,k,q⟩:=h;obtain⟨u,rfl,l⟩:=fy r;cases l;obtain⟨a,d,c,E⟩:=I.list k;have f:a.toArray.size=bs.length:=by rw[Yx,←d.length,Yn]
 have m:p<s.heap.objs.size:=let ⟨_,z,_⟩:=c.isList;Yq z;refine call_all_walk (Es c.isList ?_);refine⟨s.heap.objs.size,[s.heap.objs.size,p],[s.heap.objs.size],a.toArray.size,_,_,λi=>bs.getD i false,rfl,Walks.list (A:=X.A.in1) (I.ok.hd hc) _ p (YD m) a.toArray,
  ⟨⟨_,Yu _ rfl,rfl,rfl⟩,c.isList.push _⟩,λi v s' F G n t=>?_,λJ w kp=>?_⟩
 ·have g:a[i]?=Ya v:=by simpa using n
  have hb:i<bs.length:=by
   have:=(YY.mp g).1;rw[←f,Yx];exact this
  obtain⟨u,j,y⟩:=d.get (i:=i) (x:=V.bl bs[i]) (by rw[YX,YS hb];rfl);rw[g]at j;cases j;obtain rfl:v=Dm bs[i]:=y;refine CI ?_;have e:bs.getD i false=bs[i]:=by rw[CZ,YS hb,Option.getD_some]
  rw[←e];exact t
 ·refine⟨.bl (bs.all λb=>b),H,I.kept (t':=w) λb o e=>kp b o ?_ (Yi _ e),?_,q⟩
  ·intro z;have B:b=s.heap.objs.size:=by simpa using z
   exact absurd (Yq e) (by rw[B];exact xg _)
  ·show Dm _=Dm _;rw[f,sy]
end
structure dA(K:Yc)(mg:Yg->Option Yd)(x:Yg)(f:Yf)(fd:YA)(ps:List Yg):Prop where
 mg:mg x=Ya (.ref f)
 kp:Ci K (.ref f)=true
 bd:Binds K fd ps []
theorem a5{k:Nat}{f:Yf}{fd:YA}{d:List Yg}{sp:Sp}{e:YN}{t:TA}{p:CW}(F:aP X.prog X.w X.K X.mg X.base cT k f fd d sp)(c:dA X.K X.mg x f fd d)(g:ck k X.A)(ha:PA X (e::es) t)(h:Gl X x:=by rfl)(a:(x==("__debug__":Yg))=false:=by decide)(i:YE (e::es) X.env=(false,dk e X.env)::YE es X.env:=by rfl)(b:(BX pos (YE es X.env)).any (·.1)=false:=by rfl):
  PE X (.Call (.Name x p) (e::es) [] pos) (m3 sp [] E0 t):=nE F g h c.mg c.kp c.bd .nil mR ha a i b
theorem kR{T:String}(hm:X.mg x=Yb)(b:Cm x=Ya (.type T))(c:Gl X x:=by rfl)(hn:x≠"__name__":=by decide)(a:(x==("__debug__":Yg))=false:=by decide):PE X (.Name x pos) (tC (.ty T)):=
 wJ c hm b rfl hn a
def yq(K:Yc)(t:TE):TT:=λσ H Q=>t σ H λx a=>∃k,uN K x a k/\Q k a
theorem cM(K:Yc){f:YN}{a:List G1}{t:TE}(b:X.K=K)(h:PE X (.Call f es a pos) t):PT X (.Call f es a pos) (yq K t):=by
 subst b;exact pq h λ_=>rfl
section
end
end L2
namespace GX
open PySem
variable{prog:YB}{w:YG}{A:Y2}{E:Yd->Yh->Prop}{s:Yh}{n:Nat}
section
variable{l:Yf}{items:Array Yd}{Q:Option Yd->Yh->Prop}
end
section
variable{R:Dv->Yh->Prop}{I d:Yf}{fp wr:List Yf}{P:Nat->Yd->Prop}{St:Nat->YF->Prop}{K:Type}[DecidableEq K]{Zu:EH prog w K}
end
section
variable{K:Type}[DecidableEq K]{Zu:EH prog w K}
end
end GX
namespace GX
open PySem PyProof.Rows
section
variable{prog:YB}{w:YG}{A:Y2}{E:Yd->Yh->Prop}{s:Yh}
theorem r6{x:Yd}{a:List (Yg×Yd)}{Q:Yd->Yh->Prop}(ok:GR "sorted" ⟨[x],a⟩)
  (h:Yj (Ym prog w) A.in1 (HQ x) (λvs b=>Yj (Ym prog w) A.in1 (F4 vs >>= λl=>DF [l] (call (.builtin "list.sort") [l] a) >>= λ_=>ret l) (λf c=>∃v,f=.done (.ret v)/\Q v c) E b) E s):
  Yj (Ym prog w) A (call (.builtin "sorted") [x] a) Q E s:=
 call_function_entry_kw kind_sorted plain_sorted entry_sorted ok (Ye (m:=checkCount _ _ _ _) (Yk (Ye (xn h (λ_ _ q=>q) λ_ _ e=>e))))
end
end GX
namespace L2
open PySem PySem.Spec PyProof.Rows
variable{X:Cx}{s:Yh}{ns:List Int}{H:Hp}{xs:List V}{ps:List (Int×Int)}
noncomputable def dI(m:List (Int×Int)):List (l9×V):=m.map λp=>(D0 p.1,V.int p.2)
section
theorem sZ{A:Y2}{E:Yd->Yh->Prop}{prog:YB}{w:YG}{vs:List Yd}{Q:Yd->Yh->Prop}(f:B2 vs ns)(h64:vs.length<64)(hz:vs.length<=Yp)(h:∀h' out a e,(∀b o,s.heap.get? b=Ya o->h'.get? b=Ya o)->h'.get? s.heap.objs.size=Ya (Hu "list" out e)->B2 out.toList a->a.Perm ns->a.Pairwise (·<=·)->Q (.ref s.heap.objs.size) {s with heap:=h'}):
  Yj (Ym prog w) A (do let l←F4 vs;let _←DF [l] (call (.builtin "list.sort") [l] []);ret l) (λc s'=>∃v,c=.done (.ret v)/\Q v s') E s:=by
 refine Ye (wpAny_newList ?_ hz);have d:(s.heap.push (Hu "list" vs.toArray 0)).get? s.heap.objs.size=Ya (Hu "list" vs.toArray 0):=Yu _ rfl;refine Ye (xi (BU slot_list_sort ⟨_,d,rfl⟩ entry_list_sort (list_sort_tree d f h64 λout a g i j=>⟨_,rfl,?_⟩) (args_list_sort _)));obtain⟨e,k⟩:=sortedHeap_at (out:=out) d;refine Yk ⟨_,rfl,h _ out a e (λb o q=>?_) k g i j⟩;have l:=Yq q;rw[sortedHeap_old (YD l) (by rw[size_push'];exact CJ l)];exact Yi _ q
theorem aC.lay_ints{a:List (Yf×Y1)}{σ:St}{h':YF}{out:Array Yd}{e tk:Nat}(I:aC X a σ H s)(k:∀b o,s.heap.get? b=Ya o->h'.get? b=Ya o)(c:h'.get? s.heap.objs.size=Ya (Hu "list" out e))(d:B2 out.toList ns)(hz:ns.length<=Yp):
  aC X a σ (upd H s.heap.objs.size (.lst (ns.map V.int))) {s with heap:=h',toks:=tk}:=
 I.laid k (Yo _) ⟨by rw[Yn];exact hz,out.toList,e,jL d,c⟩
def Pr(H:Hp)(x:V)(p:Int×Int):Prop:=∃a,x=.ref a/\H a=Ya (.tup [.int p.1,.int p.2])
abbrev kK(H:Hp):List V->List (Int×Int)->Prop:=D7 (Pr H)
theorem kK.mono{b:Hp}(h:∀a xs,H a=Ya (.tup xs)->b a=Ya (.tup xs))(r:kK H xs ps):kK b xs ps:=D7.mapP r λ_ _ ⟨a,c,d⟩=>⟨a,c,h a _ d⟩
theorem kK.snoc{x:V}{p:Int×Int}:∀{xs:List V} {ps:List (Int×Int)},kK H xs ps->Pr H x p->kK H (xs++[x]) (ps++[p]):=by
 intro a b w h
 induction w with
 |nil=>exact .cons h .nil
 |cons r _ ih=>exact .cons r ih
theorem kK.get:∀{xs:List V} {ps:List (Int×Int)} {i:Nat} {x:V},kK H xs ps->xs[i]?=Ya x->∃p,ps[i]?=Ya p/\Pr H x p:=by
 intro a b i x w
 induction w generalizing i with
 |nil=>exact λe=>by simp at e
 |cons r _ ih=>
  intro e;cases i with
  |zero=>simp at e;subst e;exact⟨_,rfl,r⟩
  |succ i=>
   obtain⟨p,h1,h2⟩:=ih (i:=i) (by simpa using e);exact⟨p,by simpa using h1,h2⟩
theorem kK.len(r:kK H xs ps):xs.length=ps.length:=Paired.length r
end
section
end
section
end
end L2
namespace GX
open PySem PyProof.Rows
variable{xs:Array Nat}{i j sl p n ep c:Nat}{t t':D2}{h:YF}{b:Bool}{x first:Yd}{prog:YB}{w:YG}{A:Y2}{E Q1:Yd->Yh->Prop}{s:Yh}{a I tp:Yf}{S:Int->Bool}{es Zq:Array (Int×Yd)}{Q:Option Yd->Yh->Prop}{k:Int}{R:Dv->Yh->Prop}{ns:List Int}{M:GF}{o:Y1}{ps:List Nat}
def vb(xs:Array Nat):Prop:=xs.toList.Pairwise (·<·)
theorem vb.at(h:vb xs)(b:i<j)(a:j<xs.size):xs.getD i 0<xs.getD j 0:=by
 have:=List.pairwise_iff_getElem.mp h i j (by simp;omega) (by simpa using a) b;simp only[DR]at this;rw[YO,YO,Yt (by omega),Yt a];exact this
theorem pR(h:i<xs.size)(a b:Nat):xs.getD i a=xs.getD i b:=by
 rw[YO,YO,Yt h];rfl
theorem l6{xs:Array Nat}(c:vb xs)(j:Nat):∀(a lo b:Nat),lo<=b->b<=xs.size->b-lo<=a->(∀i,i<lo->xs.getD i 0<j)->(∀i,b<=i->i<xs.size->j<=xs.getD i 0)->
  BQ xs j a lo b<=xs.size/\(∀i,i<BQ xs j a lo b->xs.getD i 0<j)/\(∀i,BQ xs j a lo b<=i->i<xs.size->j<=xs.getD i 0)
 |0,lo,b,h1,h2,h3,h4,h5=>by
  have e:lo=b:=by omega
  subst e;unfold BQ;exact⟨h2,h4,h5⟩
 |a+ 1,lo,b,h1,h2,h3,h4,h5=>by
  unfold BQ;by_cases h:lo<b
  ·rw[if_pos h];have hm:(lo+ b) / 2<xs.size:=by omega
   show(if xs.getD ((lo+ b) / 2) j<j then BQ xs j a ((lo+ b) / 2+ 1) b else BQ xs j a lo ((lo+ b) / 2))<=_/\_;by_cases hc:xs.getD ((lo+ b) / 2) j<j
   ·simp only[if_pos hc];rw[pR hm j 0]at hc;refine l6 c j a _ b (by omega) h2 (by omega) (λi d=>?_) h5;rcases xq i ((lo+ b) / 2)with z|z
    ·have:=c.at z hm;omega
    ·have:i=(lo+ b) / 2:=by omega
     rw[this];exact hc
   ·simp only[if_neg hc];rw[pR hm j 0]at hc;refine l6 c j a lo _ (by omega) (by omega) (by omega) h4 (λi d f=>?_);rcases xq ((lo+ b) / 2) i with z|z
    ·have:=c.at z f;omega
    ·have:i=(lo+ b) / 2:=by omega
     rw[this];omega
  ·rw[if_neg h];have e:lo=b:=by omega
   subst e;exact⟨h2,h4,h5⟩
theorem jf(a:vb xs)(j:Nat):YR xs j<=xs.size/\(∀i,i<YR xs j->xs.getD i 0<j)/\(∀i,YR xs j<=i->i<xs.size->j<=xs.getD i 0):=by
 unfold YR;exact l6 a j _ 0 _ (kx _) (Yo _) (by omega) (λi h=>by omega) (λi h1 h2=>by omega)
theorem qR(a:vb xs)(b:i<xs.size):YR xs (xs.getD i 0+ 1)=i+ 1:=by
 obtain⟨h1,h2,h3⟩:=jf a (xs.getD i 0+ 1);rcases Nat.lt_trichotomy (YR xs (xs.getD i 0+ 1)) (i+ 1)with z|z|z
 ·have:=h3 i (by omega) b;omega
 ·exact z
 ·have q:=h2 (i+ 1) z;have:=a.at (i:=i) (j:=i+ 1) (by omega) (by omega);omega
theorem qN(a:vb xs):YR xs 0=0:=by
 obtain⟨h1,h2,h3⟩:=jf a 0;rcases Dj (YR xs 0)with z|z
 ·exact z
 ·have:=h2 0 z;omega
def Off(xs:Array Nat)(d:Nat):Prop:=xs[YR xs d]?≠Ya d
theorem Off.no(b:vb xs){d:Nat}(h:Off xs d):∀i,i<xs.size->xs.getD i 0≠d:=by
 intro i a e;obtain⟨h1,h2,h3⟩:=jf b d;have f:YR xs d<=i:=by
  rcases xq i (YR xs d)with z|z
  ·have:=h2 i z;omega
  ·exact z
 have c:YR xs d=i:=by
  rcases xq (YR xs d) i with z|z
  ·have:=b.at z a;have:=h3 (YR xs d) (Yo _) (by omega);omega
  ·omega
 apply h;rw[c,Yt a];rw[YO,Yt a]at e;exact congrArg Ya e
theorem o9(h:∀i,t.slot j≠.live i):Off t.place j:=by
 intro z;apply h (YR t.place j);unfold SetTable.slot;simp only[z,beq_self_eq_true,if_true]
theorem nB(t:D2)(p:G3):(t.advance p).dummy=p.dummy:=by
 unfold SetTable.advance;split<;>rfl
theorem jO{t:D2}{f:Nat->Int}{h:Int}:∀(a:Nat) (p:G3) (j:Nat) (b:Option Nat),(∀d,p.dummy=Ya d->Off t.place d)->Du t f h a p=Ya (.empty j b)->Off t.place j/\∀d,b=Ya d->Off t.place d
 |0,p,j,b,hp,e=>by
  unfold Du at e;cases e
 |a+ 1,p,j,b,hp,e=>by
  unfold Du at e;cases hs:t.slot p.j with
  |empty=>
   rw[hs]at e;dsimp only at e;cases e;exact⟨o9 (λi z=>by rw[hs]at z;cases z),hp⟩
  |dummy=>
   rw[hs]at e;dsimp only at e;refine jO a _ j b (λd hd=>?_) e;rw[nB]at hd;cases hd;exact o9 (λi z=>by rw[hs]at z;cases z)
  |live i=>
   rw[hs]at e;dsimp only at e;split at e
   ·cases e
   ·exact jO a _ j b (λd hd=>hp d (by rw[nB]at hd;exact hd)) e
theorem uA{h:Int}(e:t.freeSlot h=Ya (sl,b)):Off t.place sl:=by
 unfold SetTable.freeSlot SetTable.probe at e;generalize hg:Du t (λ_=>h+ 1) h (10*SetTable.turns t.mask) (t.probeStart h)=g at e;cases g with
 |none=>cases e
 |some m=>
  cases m with
  |candidate j i n=>cases e
  |empty j dm=>
   obtain⟨h1,h2⟩:=jO _ _ j dm (λd hd=>by cases hd) hg;dsimp only at e;have a:=Yy e;cases dm with
   |none=>
    have:j=sl:=congrArg Prod.fst a;rw[←this];exact h1
   |some d=>
    have:d=sl:=congrArg Prod.fst a;rw[←this];exact h2 d rfl
theorem uQ{x:Nat}(h:x∈xs.toList.take p):∃i,i<p/\i<xs.size/\xs.getD i 0=x:=by
 obtain⟨i,a,e⟩:=DY h;rw[Cp,pe]at a;refine⟨i,by omega,by omega,?_⟩;rw[List.getElem_take,DR]at e;rw[YO,Yt (by omega)];exact e
theorem nj{x:Nat}(h:x∈xs.toList.drop p):∃i,p<=i/\i<xs.size/\xs.getD i 0=x:=by
 obtain⟨i,a,e⟩:=DY h;rw[DB,pe]at a;refine⟨p+ i,by omega,by omega,?_⟩;rw[List.getElem_drop,DR]at e;rw[YO,Yt (by omega)];exact e
theorem wZ(d:vb t.place)(f:Off t.place sl):vb (t.put sl).1.place:=by
 obtain⟨h1,h2,h3⟩:=jf d sl;show(SetTable.insertAt t.place (YR t.place sl) sl).toList.Pairwise (·<·);rw[SetTable.toList_insertAt,CT];refine⟨d.sublist (Ew _ _),?_,?_⟩
 ·rw[List.pairwise_cons];refine⟨λx e=>?_,d.sublist (List.drop_sublist _ _)⟩;obtain⟨i,a,b,c⟩:=nj e;have g:=h3 i a b;have h:=f.no d i b;omega
 ·intro x e y j;obtain⟨i,a,b,c⟩:=uQ e;have g:=h2 i a;rcases YK.mp j with z|z
  ·omega
  ·obtain⟨k,l,m,n⟩:=nj z;have h:=h3 k l m;omega
theorem gC(t:D2)(n:Nat):vb (t.standIn n).place:=by
 show(Array.range n).toList.Pairwise (·<·);rw[Array.toList_range];exact E7
def Tb(b:Bool)(t:D2):Prop:=vb t.place/\t.led=b
theorem y0(h:Tb b t)(a:Array (Int×Yd))(k:Int)(x:Yd):Tb b (layNew t a k x).2.1:=by
 unfold layNew;split
 ·rename_i c d e;dsimp only;unfold SetTable.orStandIn;split
  ·exact⟨wZ h.1 (uA e),h.2⟩
  ·exact⟨gC _ _,h.2⟩
 ·exact⟨gC _ _,h.2⟩
theorem sU{f:Array Int}{o:Array Nat}(h:Tb b t)(e:t.relaid f n=Ya (t',o)):Tb b t':=by
 unfold SetTable.relaid SetTable.laid at e;cases hc:SetTable.layClean (SetTable.sizeAbove n-1) f with
 |none=>rw[hc]at e;cases e
 |some ow=>
  rw[hc]at e;have i:=Yy e;have g:=congrArg Prod.fst i;dsimp only at g;rw[←g];refine⟨?_,h.2⟩;show List.Pairwise _ (Ho (List.toArray _));rw[List.toList_toArray,List.map_filterMap];refine HI (R:=(·<·)) _ (λx y d a ha c hc=>?_) E7;simp only[Option.map_map,Option.mem_def,Dw]at ha hc;obtain⟨_,_,rfl⟩:=ha;obtain⟨_,_,rfl⟩:=hc;exact d
theorem vE(h:Tb b t)(a:Array (Int×Yd))(n:Nat):Tb b (Gv t a n).2.1:=by
 unfold Gv;split
 ·rename_i c o e;dsimp only;split
  ·exact sU h e
  ·exact⟨gC _ _,h.2⟩
 ·exact⟨gC _ _,h.2⟩
noncomputable abbrev qJ(w:YG):Bool:=w.params.followText "set-order"
section
def iL(prog:YB)(w:YG)(h:YF)(a:Yf)(S:Int->Bool)(n:Nat):Prop:=
 ∃o b c t,h.get? a=Ya o/\o.ExactSet/\o.data=.set b c t/\HR (xc prog w) b.toList/\(∀k,S k=true↔∃e∈b.toList,(xc prog w).is k e.2=true)/\b.size<CN/\t.fits b.size=true/\b.size=n/\Tb (!qJ w) t
theorem iL.at{h':YF}(x:iL prog w h a S n)(k:∀o,h.get? a=Ya o->h'.get? a=Ya o):iL prog w h' a S n:=by
 obtain⟨o,b,c,t,d,r⟩:=x;exact⟨o,b,c,t,k o d,r⟩
theorem iL.congr{b:Int->Bool}{c:Nat}(x:iL prog w h a S n)(e:∀k,S k=b k)(d:n=c):iL prog w h a b c:=by
 have z:S=b:=funext e;rw[←z,←d];exact x
def gg(prog:YB)(w:YG)(a:Array (Int×Yd))(t:D2)(S:Int->Bool)(n:Nat):Prop:=
 HR (xc prog w) a.toList/\(∀k,S k=true↔∃e∈a.toList,(xc prog w).is k e.2=true)/\a.size<CN/\t.fits a.size=true/\a.size=n/\Tb (!qJ w) t
def o8(h:YF)(a:Yf)(b:Array (Int×Yd))(t:D2):Prop:=∃o c,h.get? a=Ya o/\o.ExactSet/\o.data=.set b c t
theorem o8.good(r:o8 h a es t)(g:gg prog w es t S n):iL prog w h a S n:=by
 obtain⟨o,b,c,d,e⟩:=r;exact⟨o,es,b,t,c,d,e,g⟩
theorem o8.put{Q:Unit->Yh->Prop}(r:o8 s.heap a es t)(hz:Zq.size<CN)(h:∀h',rl a s.heap h'->o8 h' a Zq t'->Q () {s with heap:=h'}):
  Yj (Ym prog w) A (storeSet a Zq t') Q E s:=by
 obtain⟨⟨c,d,b,i⟩,f,e,g,hd⟩:=r;cases hd;exact wpAny_storeSet_of e rfl (h _ (C5 ..) ⟨_,f+ 1,rf _ e rfl,g,rfl⟩) (Ey hz)
theorem gg.mix(g:gg prog w es t S n)(p:HX Zq.toList es.toList)(f:t'.fits Zq.size=true)(b:Tb (!qJ w) t'):gg prog w Zq t' S n:=by
 obtain⟨a,c,d,_,h,_⟩:=g;have z:Zq.size=es.size:=by simpa using p.length_eq
 exact⟨a.perm p,λk=>(c k).trans ⟨fun⟨e,u,v⟩=>⟨e,p.mem_iff.mpr u,v⟩,fun⟨e,u,v⟩=>⟨e,p.mem_iff.mp u,v⟩⟩,z▸d,f,z.trans h,b⟩
theorem gg.relaid(g:gg prog w es t S n)(m:Nat):gg prog w (Gv t es m).1 (Gv t es m).2.1 S n:=
 g.mix (relayAll_perm t es m) (relayAll_fits t es m) (vE g.2.2.2.2.2 es m)
theorem gg.more(g:gg prog w es t S n)(hk:(xc prog w).is k x=true)(c:x.scannable=true)(a:n+ 1<CN):
  gg prog w (layNew t es ((xc prog w).hash k) x).1 (layNew t es ((xc prog w).hash k) x).2.1 (λb=>S b||decide (b=k)) (n+ 1):=by
 obtain⟨d,e,i,_,f,h⟩:=g;have p:HX _ (es.push ((xc prog w).hash k,x)).toList:=layNew_perm t es ((xc prog w).hash k) x;rw[Gd]at p;have z:(layNew t es ((xc prog w).hash k) x).1.size=n+ 1:=by simpa [f]using p.length_eq
 exact⟨(d.push hk c).perm p,mem_push_iff hk e p,z▸a,layNew_fits t es _ x,z,y0 h es _ x⟩
theorem oZ{Q:Unit->Yh->Prop}(q:Q () s):Yj (Ym prog w) A (match b with|true=>rule "set.scan.the-table-gave-way"|false=>pure ()) Q E s:=by
 cases b
 ·exact Yk q
 ·exact wpAny_rule q
theorem wV{u:FH}{Q:Bool->Yh->Prop}(x:iL prog w s.heap a S n)(d:n+ 1<CN)(h:∀h' b,rl a s.heap h'->iL prog w h' a (λc=>S c||decide (c=k)) (if S k then n else n+ 1)->Q b {s with heap:=h'}):
  Yj (Ym prog w) A (Hv a (.int k u) ((xc prog w).hash k)) Q E s:=by
 obtain⟨o,m,q,t,f,r,hd,g⟩:=x;have y:gg prog w m t S n:=g;obtain⟨B,hm,hb,C,hn,K⟩:=g;have D:(xc prog w).is k (.int k u)=true:=intKind_is _ _ _ _;rw[Hv,setAddHashedIn];apply xi;apply Ye;apply xb f hd C;dsimp only;rw[byScan_of rfl hb B,if_pos rfl]
 wp_walk using wpAny_setScan_of D f hd C B
 cases hr:List.findIdx? (λe=>(xc prog w).is k e.2) m.toList with
 |some j=>
  obtain⟨lt,is,_⟩:=List.findIdx?_eq_some_iff_getElem.mp hr;have i:S k=true:=(hm k).mpr ⟨_,DC lt,is⟩
  wp_walk
  refine h s.heap false (.refl a _) (o8.good ⟨o,q,f,r,hd⟩ ?_);rw[if_pos i,show(λc=>S c||decide (c=k))=S from funext λc=>?_]
  ·exact y
  ·by_cases e:c=k
   ·rw[e,i];rfl
   ·rw[decide_eq_false e,Ek]
 |none=>
  have i:¬ S k=true:=λz=>by
   obtain⟨e,u,v⟩:=(hm k).mp z;exact absurd v (by simpa using List.findIdx?_eq_none_iff.mp hr e u)
  have l:=y.more D rfl d;rw[if_neg i]at h;dsimp only;generalize layNew t m ((xc prog w).hash k) (.int k u)=L at l⊢;obtain⟨p,M,N,O⟩:=L;refine Ye (oZ ?_);dsimp only;rw[hashByValue_scannable 8 (x:=.int k u) rfl];split
  all_goals
   refine Ye (Yk ?_);rw[if_pos (by rfl)];refine Ye (o8.put ⟨o,q,f,r,hd⟩ l.2.2.1 λh1 F G=>?_);split
   ·have H:=l.relaid (SetTable.grown p.size);refine Ye (oZ (Ye (o8.put (s:={s with heap:=h1}) G H.2.2.1 λh2 I J=>?_)))
    wp_walk
    exact h h2 true (F.trans I) (J.good H)
   ·wp_walk
    exact h h1 true F (G.good l)
theorem pG(S I:Yf):MeetsIn prog w (CL.«set.update.loop» ⟨[.ref S,.ref I],[]⟩) λA R s=>Yj (Ym prog w) A.in1 (CY (.ref I)) (λr s=>match r with
  |none=>R (.ok (.ret .none)) s
  |some v=>Yj (Ym prog w) A.in1 (setAdd S v) (λ_ s=>lr (Ym prog w) A (.builtin "set.update.loop" ⟨[.ref S,.ref I],[]⟩) R s) (λ_ _=>False) s) (λ_ _=>False) s:=by
 intro A R s nx;show Yj _ _ (CY (.ref I) >>= _) _ _ s;apply Ye;refine xn nx (λr a h=>?_) λ_ _ z=>z.elim;rcases r with _|v
 ·wp_walk
  exact h
 ·wp_walk using xn h
  ·exact λ_ _ e=>Yk ⟨FJ BZ _,e⟩
  ·exact λ_ _ z=>z.elim
theorem uV{S:Yf}{p j:List Yf}{P:Nat->Yd->Prop}{St:Nat->YF->Prop}(W:Hj prog w A.in1 I p j n P St)(q:S∉p)(a:Nat->Int)(B:∀i v,P i v->∃t,v=.int (a i) t)(hb:n+ 1<CN):
  ∀(k i:Nat) (s:Yh),n=i+ k->St i s.heap->iL prog w s.heap S (λf=>(CG a i).any (·==f)) (CG a i).length->
   (∀h' tk,(∀b o,b∉j->b≠S->s.heap.get? b=Ya o->h'.get? b=Ya o)->iL prog w h' S (λf=>(CG a n).any (·==f)) (CG a n).length->R (.ok (.ret .none)) {s with heap:=h',toks:=tk})->
   lr (Ym prog w) A (.builtin "set.update.loop" ⟨[.ref S,.ref I],[]⟩) R s:=by
 have r:S∉j:=λz=>q (W.sub _ z);intro k
 induction k with
 |zero=>
  intro i s u st x c;obtain rfl:n=i:=u;exact enter Dk BZ (pG S I) (W.done s _ _ st λh tk kp=>c h tk (λb o g _ e=>kp b o g e) (x.at λo e=>kp S o r e))
 |succ k ih=>
  intro i s u st x c;refine enter Dk BZ (pG S I) (W.item i s _ _ (by omega) st λv h tk pv l kp=>?_);obtain⟨t,rfl⟩:=B i v pv;have len:=firstMet_length_le a i;show Yj _ _ (setAdd S (.int (a i) t)) _ _ _;unfold setAdd;refine xi (Ye ((xc prog w).pyHash (k:=a i) (intKind_is _ _ _ _) (wV (s:={s with heap:=h,toks:=tk+ 1}) (x.at λo e=>kp S o r e) (by omega) λh2 b y C=>?_)));refine ih (i+ 1) {s with heap:=h2,toks:=tk+ 1} (by omega) (W.frame _ _ _ l λb hb o e=>(y.2 b λz=>q (z▸hb)).trans e) (C.congr (λf=>?_) ?_) λh3 m D E=>c h3 m (λb o g d e=>D b o g d ((y.2 b d).trans (kp b o g e))) E
  ·rw[FK,step_any]
  ·rw[FK,step_length]
theorem wW(a:Yd)(h:Q1 (.ref s.heap.objs.size) {s with heap:=s.heap.push {cls:=.type "set",dict:=Yb,data:=.set #[] 0 (.fresh 0 0 (!qJ w))}}):
  lr (Ym prog w) A (.call (.builtin "set.__new__") ⟨[.type "set",a],[]⟩) (wants Q1 E) s:=by
 refine CU PySem.F.plain_set_new PySem.F.entry_set_new (Dx (PySem.F.newCall_set_1 a) ?_);have sub:=sub_set_self;obtain⟨b,g,d,c,os⟩:=s
 wp_walk using Cs
 exact h
theorem pd{T e f:String}{a:List Yd}{Q:Yd->Yh->Prop}(b:TypeCalled T e f)(ct:checkTypeCall T ⟨a,[]⟩=pure ())(new:lr (Ym prog w) A.in1 (.call (.builtin e) ⟨.type T::a,[]⟩) (wants Q1 E) s)(init:∀v d,Q1 v d->d.TypeIs v T/\lr (Ym prog w) A.in1 (.call (.builtin f) ⟨v::a,[]⟩) (wants (λr g=>r=.none/\Q v g) E) d):Yj (Ym prog w) A (call (.type T) a) Q E s:=by
 obtain⟨_,_,_⟩:=b.mro;have:=b.notType;have:=b.canCreate;have:=b.made;have:=b.sub;refine DN (codeAny_of_tree (Yk ⟨Code.quiet_builtin _ (by decide +kernel),DQ PySem.F.entry_type_call ?_⟩));rw[Around.under_plain (weight_type_call_type T a []) rfl]
 repeat' first|assumption|wp_step
 refine codeAny_mono new λr d h=>?_
 match r,h with
 | .error _,h=>exact h
 | .ok (.ret v),h=>
  obtain⟨ty,c⟩:=init v d h;have:=b.init.lookup;have:=b.init.bind v
  repeat' first|assumption|wp_step
  refine codeAny_mono c λr g h=>?_
  match r,h with
  | .error _,h=>exact h
  | .ok (.ret _),h=>
   obtain⟨rfl,_⟩:=h
   repeat' first|assumption|wp_step
end
theorem bj:Slot "set_iterator" "__next__" "set_iterator.__next__":=
 .of (owner:="set_iterator") (n:="__next__") (by rw[GS,Fj];kernel_rfl) (by decide +kernel) (by decide +kernel) (by decide +kernel) (by first|exact .inl (by decide +kernel)|exact .inr (by decide +kernel)) (by rw[Fl];kernel_rfl)
theorem ey:Fw Hi "set_iterator.__next__"=Ya CL.«set_iterator.__next__»:=entryFor_of_tree (by kernel_rfl)
theorem d9(a:Yd):GR "set_iterator.__next__" ⟨[a],[]⟩:=by unfold GR;kernel_rfl
theorem kC:Slot "set_iterator" "__iter__" "set_iterator.__iter__":=
 .of (owner:="set_iterator") (n:="__iter__") (by rw[GS,Fj];kernel_rfl) (by decide +kernel) (by decide +kernel) (by decide +kernel) (by first|exact .inl (by decide +kernel)|exact .inr (by decide +kernel)) (by rw[Fl];kernel_rfl)
theorem pB:Fw Hi "set_iterator.__iter__"=Ya CL.«dict_keyiterator.__iter__»:=G4 (id':="dict_keyiterator.__iter__") (by kernel_rfl) rfl (by decide +kernel) (by kernel_rfl)
theorem pS(a:Yd):GR "set_iterator.__iter__" ⟨[a],[]⟩:=by unfold GR;kernel_rfl
theorem pU:Fw Hi "set.__iter__"=Ya CL.«frozenset.__iter__»:=G4 (id':="frozenset.__iter__") (by kernel_rfl) rfl (by decide +kernel) (by kernel_rfl)
noncomputable abbrev qM(w:YG)(h:YF):YF:=h.push {cls:=.type "set",dict:=Yb,data:=.set #[] 0 (.fresh 0 0 (!qJ w))}
section
theorem pX{l:Yf}{items:Array Yd}{Q:Yd->Yh->Prop}(t:A.handled=Yb)(u:s.heap.IsList l items)(y:B2 items.toList ns)(hb:items.size+ 1<CN)(h:∀h' tk,iL prog w h' s.heap.objs.size (λB=>(CG (λi=>ns.getD i 0) items.size).any (·==B)) (CG (λi=>ns.getD i 0) items.size).length->(∀b o,s.heap.get? b=Ya o->h'.get? b=Ya o)->Q (.ref s.heap.objs.size) {s with heap:=h',toks:=tk}):
  Yj (Ym prog w) A (call (.type "set") [.ref l]) Q E s:=by
 obtain⟨⟨J,C,D,g⟩,d,j,p,m⟩:=id u;cases j;cases m;have q:l<s.heap.objs.size:=Yq d;refine pd FW (PySem.F.typeCall_set_1 _) (wW (.ref l) (Q1:=λv F=>v=.ref s.heap.objs.size/\F={s with heap:=qM w s.heap}) ⟨rfl,rfl⟩) ?_;rintro _ _ ⟨rfl,rfl⟩;have new:(qM w s.heap).get? s.heap.objs.size=Ya {cls:=.type "set",dict:=Yb,data:=.set #[] 0 (.fresh 0 0 (!qJ w))}:=Yu _ rfl;have f:(qM w s.heap).get? l=Ya {cls:=.type "list",dict:=C,data:=.seq items p,slots:=g}:=Yi _ d;have a:(qM w s.heap).objs.size=s.heap.objs.size+ 1:=Cj ..;have ty:Shared.TypeIs {s with heap:=qM w s.heap} (.ref s.heap.objs.size) "set":=⟨_,new,rfl⟩;refine⟨ty,CU FW.init.plain PySem.F.entry_set_init (check_set_init_1 ty ?_)⟩;have:=PySem.F.sub_list_set;have:=PySem.F.sub_list_frozenset;have nd:(pw "list"==pw "dict")=false:=by decide
 have c:∀b o,s.heap.get? b=Ya o->(qM w s.heap).get? b=Ya o:=λb o e=>Yi _ e;generalize qM w s.heap=h1 at new f a ty c⊢;have r:h1.IsList l items:=⟨_,f,rfl,p,rfl⟩
 wp_walk using Es r
 have G:s.heap.objs.size∉[h1.objs.size,l]:=by
  rw[a];intro z;rcases YK.mp z with z|z
  ·exact absurd z (YD (Cn _))
  ·exact DL q (YQ.mp z)
 refine uV (Walks.list (by simpa using t) _ l (by rw[a];exact YD (CJ q)) items) G (λi=>ns.getD i 0) (λi v H=>IntsAre.int_at y i v (by rw[gs];exact H)) hb items.size 0 _ (by omega)
  ⟨⟨_,Yu _ rfl,rfl,rfl⟩,r.push _⟩ ⟨_,#[],0,_,Yi _ new,⟨rfl,rfl,rfl⟩,rfl,λe I=>by simp at I,λk=>by simp[firstMet_zero],by decide,by rfl,rfl,⟨Ex,rfl⟩⟩ λh2 tk kp x=>?_
 wp_walk
 refine⟨rfl,h h2 tk x λb o e=>?_⟩;have n:=Yq e;refine kp b o (λz=>?_) (YD n) (Yi _ (c b o e));rw[YQ.mp z,a]at n;exact absurd n (EC.mpr (tB _))
end
section
theorem iH{α:Type}:∀{xs:List α} {i:Nat} (h:i<xs.length),(xs[i]::xs.eraseIdx i).Perm xs
 |x::xs,0,_=>.refl _
 |x::xs,i+ 1,h=>(List.Perm.swap x (xs[i]'(BV h)) _).trans ((iH (xs:=xs) (i:=i) (BV h)).cons x)
theorem rQ{a:Source}{Q:Nat->Yh->Prop}(hn:n≠0)(h:∀i d,i<n->Q i {s with drawn:=d}):Yj M A (choose a n) Q E s:=fun Γ p _=>by
 unfold choose;rw[Sem.wp_choose];exact⟨hn,h _ _ (HV _ (Nat.pos_of_ne_zero hn))⟩
theorem rm{α:Type}{M:GF}:∀(n:Nat) (xs:List α) (s:Yh) (Q:List α->Yh->Prop),xs.length=n->(∀a d,a.Perm xs->Q a {s with drawn:=d})->Yj M A (Hc n xs) Q E s
 |0,xs,s,Q,hl,h=>by
  have e:xs=[]:=cw hl;subst e;unfold Hc;exact Yk (h [] s.drawn .nil)
 |n+ 1,[],s,Q,hl,h=>by cases hl
 |n+ 1,x::xs,s,Q,hl,h=>by
  unfold Hc;refine Ye (rQ (by simp) λi d b=>?_);rw[YS b];dsimp only;refine Ye (rm n _ _ _ (by rw[El b,hl];rfl) λa c f=>?_);exact Yk (h _ c ((f.cons _).trans (iH b)))
theorem ra{α:Type}(f:Nat->Nat):∀(n k:Nat) (xs:List α) (out:Array α),xs.length=n->(pickOrder.go f n k xs out).toList.Perm (out.toList++xs)
 |0,k,xs,out,hl=>by
  have e:xs=[]:=cw hl;subst e;unfold pickOrder.go;rw[Dd]
 |n+ 1,k,xs,out,hl=>by
  unfold pickOrder.go;have a:f k%xs.length<xs.length:=HV _ (by omega);rw[YS a];dsimp only;refine(ra f n (k+ 1) _ _ (by rw[El a,hl];rfl)).trans ?_;rw[Gd,Ge];exact List.Perm.append_left _ (iH a)
theorem sS{α:Type}(f:Nat->Nat)(xs:Array α):(DG f xs).toList.Perm xs.toList:=by
 have:=ra f xs.size 0 xs.toList #[] (by simp);simpa [DG]using this
end
section
noncomputable def kI(first:Yd)(i:Nat)(a:Yf)(n b:Nat):Y1:={cls:=.type "set_iterator",dict:=Yb,data:=.fields #[first,.int i 0,.ref a,.int n 0,.int b 0],slots:=#[]}
theorem iw(h:YF)(b:h.get? I=Ya (kI first i a n ep))(k:Nat)(x:Yd):(h.update I (Em (·.setIfInBounds k x))).get? I=Ya {cls:=.type "set_iterator",dict:=Yb,data:=.fields ((#[first,.int i 0,.ref a,.int n 0,.int ep 0]:Array Yd).setIfInBounds k x),slots:=#[]}:=
 rf _ b rfl
theorem b7(b:s.heap.get? I=Ya (kI first i a es.size ep)):s.TypeIs (.ref I) "set_iterator":=⟨_,b,rfl⟩
theorem jE{c:Int}{nx:Nat}(b:s.heap.get? I=Ya (kI (.int c 0) i a es.size ep))(e:s.heap.get? a=Ya o)(hd:o.data=.set es ep t)(f:t.fits es.size=true)(hn:∀(A:Y2) (E:Yd->Yh->Prop) (d:Option (Yd×Nat)->Yh->Prop),d (Ya (x,nx)) s->Yj (Ym prog w) A (D3 a c.toNat i ep) d E s)(h:∀h',h'.get? I=Ya (kI (.int nx 0) (i+ 1) a es.size ep)->rl I s.heap h'->Q (Ya x) {s with heap:=h'}):Yj (Ym prog w) A (CY (.ref I)) Q E s:=by
 unfold CY;refine Ye (C0 (Cw (name:=YT "__next__") (b7 b) bj (BU bj (b7 b) ey ?_ (d9 _))));unfold CL.«set_iterator.__next__»;refine Ye (Yk (Ye (D4 b rfl ?_)));show Yj _ _ (Fy a >>= _) _ _ _;refine Ye (Cv e hd f ?_);show Yj _ _ (if(((es.size:Nat):Int) !=((es.size:Nat):Int))=true then _ else _) _ _ _;rw[if_neg (by simp)];show Yj _ _ (D3 a c.toNat ((i:Int)).toNat ((ep:Int)).toNat >>= _) _ _ _;rw[gr,gr];refine Ye (hn _ _ _ ?_);show Yj _ _ (Gw (.ref I) 0 (BR nx) >>= _) _ _ _;refine Ye (Ck b rfl (by simp) ?_);have h1:=iw s.heap b 0 (BR nx);refine Ye (Ck (s:={s with heap:=s.heap.update I (Em (·.setIfInBounds 0 (BR nx)))}) h1 rfl (by simp) ?_);refine Yk ⟨_,rfl,Yk (h _ ?_ ((C5 ..).trans (C5 ..)))⟩;exact rf _ h1 rfl
theorem pI{Q:Fin->Yh->Prop}(c:A.handled=Yb)(h:∀h' e,(∀b o,s.heap.get? b=Ya o->h'.get? b=Ya o)->(∃o,h'.get? e=Ya o/\o.cls=.type "StopIteration")->E (.ref e) {s with heap:=h'}):
  Yj M A (newExc (.type "StopIteration") [] >>= λe=>raiseNew e) Q E s:=by
 refine Ye ?_;simp only[newExc,newTuple];refine Ye (BP ?_ (by size_fits));refine Ye (m:=G5 _ _) (Dx (a:=Cz) (by first|rfl|(simp only[G5];rfl)) ?_);refine BP ?_ (by size_fits);refine wpAny_raiseNew_none c (h _ _ (λb o e=>Yi _ (Yi _ e)) ⟨_,Yu _ rfl,rfl⟩)
theorem jB{d:Int}(g:A.handled=Yb)(c:s.heap.get? I=Ya (kI (.int d 0) i a es.size ep))(j:s.heap.get? a=Ya o)(hd:o.data=.set es ep t)(k:t.fits es.size=true)(hn:∀(A:Y2) (E:Yd->Yh->Prop) (f:Option (Yd×Nat)->Yh->Prop),f Yb s->Yj (Ym prog w) A (D3 a d.toNat i ep) f E s)(h:∀h',(∀b o,b≠I->s.heap.get? b=Ya o->h'.get? b=Ya o)->Q Yb {s with heap:=h'}):Yj (Ym prog w) A (CY (.ref I)) Q E s:=by
 unfold CY;refine Ye (C0 (Cw (name:=YT "__next__") (b7 c) bj (BU bj (b7 c) ey ?_ (d9 _))));unfold CL.«set_iterator.__next__»;refine Ye (Yk (Ye (D4 c rfl ?_)));show Yj _ _ (Fy a >>= _) _ _ _;refine Ye (Cv j hd k ?_);show Yj _ _ (if(((es.size:Nat):Int) !=((es.size:Nat):Int))=true then _ else _) _ _ _;rw[if_neg (by simp)];show Yj _ _ (D3 a d.toNat ((i:Int)).toNat ((ep:Int)).toNat >>= _) _ _ _;rw[gr,gr];refine Ye (hn _ _ _ ?_);show Yj _ _ (Gw (.ref I) 2 .none >>= _) _ _ _;refine Ye (Ck c rfl (by simp) ?_);refine pI (A:=A.in1) g λh' e kp l=>?_;obtain⟨m,n,p⟩:=l;refine Ye (EM (T:="StopIteration") (b:=true) ⟨m,n,p⟩ G6 ?_);exact Yk (h h' λb ob q e=>kp b ob ((cb _ _ (Ne.symm q)).trans e))
theorem oq{k:Nat}{hk:Int}(b:s.heap.get? I=Ya (kI (.ref tp) i a es.size ep))(d:s.heap.get? a=Ya o)(hd:o.data=.set es ep t)(e:t.fits es.size=true)(f:s.heap.get? tp=Ya {cls:=.type "tuple",dict:=Yb,data:=.seq (ps.map fun(i:Nat)=>BR i).toArray c,slots:=#[]})(g:ps[i]?=Ya k)(j:es[k]?=Ya (hk,x))(h:∀h',h'.get? I=Ya (kI (.ref tp) (i+ 1) a es.size ep)->rl I s.heap h'->Q (Ya x) {s with heap:=h'}):Yj (Ym prog w) A (CY (.ref I)) Q E s:=by
 unfold CY;refine Ye (C0 (Cw (name:=YT "__next__") (b7 b) bj (BU bj (b7 b) ey ?_ (d9 _))));unfold CL.«set_iterator.__next__»;refine Ye (Yk (Ye (D4 b rfl ?_)));show Yj _ _ (Fy a >>= _) _ _ _;refine Ye (Cv d hd e ?_);show Yj _ _ (if(((es.size:Nat):Int) !=((es.size:Nat):Int))=true then _ else _) _ _ _;rw[if_neg (by simp)];show Yj _ _ (seqItems? (.ref tp) >>= _) _ _ _;refine Ye (G7 f rfl ?_);have l:((ps.map fun(i:Nat)=>BR i).toArray)[((i:Nat):Int).toNat]?=Ya (.int k 0):=by
  rw[gr,Fm,YX,g];rfl
 dsimp only;rw[l];show Yj _ _ (Hw a ((k:Nat):Int).toNat ((ep:Nat):Int).toNat >>= _) _ _ _;rw[gr,gr];unfold Hw;refine Ye (Ye (xb d hd e ?_));show Yj _ _ (if(ep !=ep)=true then _ else _) _ _ _;rw[if_neg (by simp)];refine Ye (Yk ?_);rw[j];refine Yk ?_;show Yj _ _ (Gw (.ref I) 1 (BR ((i:Int)+ 1)) >>= _) _ _ _;refine Ye (Ck b rfl (by simp) (Yk ⟨_,rfl,Yk (h _ ?_ (C5 ..))⟩));exact iw s.heap b 1 (BR ((i:Int)+ 1))
theorem oB(g:A.handled=Yb)(d:s.heap.get? I=Ya (kI (.ref tp) i a es.size ep))(j:s.heap.get? a=Ya o)(hd:o.data=.set es ep t)(k:t.fits es.size=true)(l:s.heap.get? tp=Ya {cls:=.type "tuple",dict:=Yb,data:=.seq (ps.map fun(i:Nat)=>BR i).toArray c,slots:=#[]})(m:ps[i]?=Yb)(h:∀h',(∀b o,b≠I->s.heap.get? b=Ya o->h'.get? b=Ya o)->Q Yb {s with heap:=h'}):Yj (Ym prog w) A (CY (.ref I)) Q E s:=by
 unfold CY;refine Ye (C0 (Cw (name:=YT "__next__") (b7 d) bj (BU bj (b7 d) ey ?_ (d9 _))));unfold CL.«set_iterator.__next__»;refine Ye (Yk (Ye (D4 d rfl ?_)));show Yj _ _ (Fy a >>= _) _ _ _;refine Ye (Cv j hd k ?_);show Yj _ _ (if(((es.size:Nat):Int) !=((es.size:Nat):Int))=true then _ else _) _ _ _;rw[if_neg (by simp)];show Yj _ _ (seqItems? (.ref tp) >>= _) _ _ _;refine Ye (G7 l rfl ?_);have n:((ps.map fun(i:Nat)=>BR i).toArray)[((i:Nat):Int).toNat]?=none:=by
  rw[gr,Fm,YX,m];rfl
 dsimp only;rw[n];show Yj _ _ (Gw (.ref I) 0 (BR 0) >>= _) _ _ _;refine Ye (Ck d rfl (by simp) ?_);have h1:=iw s.heap d 0 (BR 0);refine Ye (Ck (s:={s with heap:=s.heap.update I (Em (·.setIfInBounds 0 (BR 0)))}) h1 rfl (by simp) ?_);refine pI (A:=A.in1) g λh' e kp p=>?_;obtain⟨q,r,u⟩:=p;refine Ye (EM (T:="StopIteration") (b:=true) ⟨q,r,u⟩ G6 ?_);exact Yk (h h' λb ob f e=>kp b ob ((cb _ _ (Ne.symm f)).trans ((cb _ _ (Ne.symm f)).trans e)))
theorem mQ{Q:Option (Yd×Nat)->Yh->Prop}(b:qJ w=true)(c:s.heap.get? a=Ya o)(hd:o.data=.set es ep t)(d:t.fits es.size=true)(h:Q (((DG (w.params.setOrder a ep) es)[i]?).map λe=>(e.2,sl)) s):Yj (Ym prog w) A (D3 a sl i ep) Q E s:=by
 have hb:w.params.followText "set-order"=true:=b;unfold D3;refine Ye (xb c hd d (Ye (Ye (Cs (Yk ?_)))));show Yj _ _ (if w.params.followText "set-order"=true then _ else _) _ _ _;rw[hb,if_pos rfl];show Yj _ _ (if(ep !=ep)=true then _ else _) _ _ _;rw[if_neg (by simp)];refine Ye ?_;unfold setWalk;refine Ye (xb c hd d (Ye (Ye (Cs (Yk ?_)))));show Yj _ _ (if w.params.followText "set-order"=true then _ else _) _ _ _;rw[hb,if_pos rfl];exact Ye (Cs (Yk (Yk h)))
theorem p7{Q:Option (Yd×Nat)->Yh->Prop}(b:qJ w=false)(d:(!t.plain&&decide (es.size>1))=false)(c:t.led=true)(e:s.heap.get? a=Ya o)(hd:o.data=.set es ep t)(f:t.fits es.size=true)(h:Q (match es[YR t.place sl]?,t.place[YR t.place sl]? with|some (_,x),Ya j=>Ya (x,j+ 1)|_,_=>Yb) s):Yj (Ym prog w) A (D3 a sl i ep) Q E s:=by
 have hb:w.params.followText "set-order"=false:=b;unfold D3;refine Ye (xb e hd f (Ye (Ye (Cs (Yk ?_)))));show Yj _ _ (if w.params.followText "set-order"=true then _ else _) _ _ _;rw[hb,if_neg Yr];refine Ye (Yk ?_);show Yj _ _ (if(!t.plain&&decide (es.size>1))=true then _ else _) _ _ _;rw[d,if_neg Yr];refine Ye ?_;show Yj _ _ (if(!t.led&& !es.isEmpty)=true then _ else _) _ _ _;rw[c];show Yj _ _ (if(false&& !es.isEmpty)=true then _ else _) _ _ _;rw[BS,if_neg Yr];exact Yk (Yk h)
end
section
theorem lM{Q:Yd->Yh->Prop}(b:s.heap.get? I=Ya (kI first i a es.size ep))(h:Q (.ref I) s):Yj (Ym prog w) A (GK (.ref I)) Q E s:=by
 refine Gf (b7 b) kC (BU kC (b7 b) pB ?_ (pS _));show Yj _ _ (ret (.ref I)) _ _ s;exact Yk ⟨_,rfl,"set_iterator",_,b7 b,bj.lookup,h⟩
theorem rR(y:A.handled=Yb)(b:qJ w=true)(hd:o.data=.set es ep t)(k:t.fits es.size=true)(ne:a≠I):
  Hj prog w A I [I,a] [I] ((DG (w.params.setOrder a ep) es).toList.map (·.2)).length (λi v=>((DG (w.params.setOrder a ep) es).toList.map (·.2))[i]?=Ya v)
   (λi h=>(∃sl:Nat,h.get? I=Ya (kI (.int sl 0) i a es.size ep))/\h.get? a=Ya o) where
 sub:=λb hb=>YQ.mp hb▸YL
 frame:=λi h l st p=>⟨let ⟨sl,e⟩:=st.1;⟨sl,p I (by simp) _ e⟩,p a (by simp) _ st.2⟩
 item:=λi s _ _ B st f=>by
  obtain⟨⟨sl,g⟩,d⟩:=st;have j:i<(DG (w.params.setOrder a ep) es).size:=by simpa using B
  refine jE (x:=((DG (w.params.setOrder a ep) es)[i]).2) (nx:=sl) g d hd k (λA E C q=>mQ b d hd k ?_) λl e r=>f _ l s.toks ?_ ⟨⟨sl,e⟩,(r.2 a ne).trans d⟩ λc u m n=>(r.2 c (λz=>m (by simp[z]))).trans n
  ·rw[Yt j];exact q
  ·rw[YX,gs,Yt j];rfl
 done:=λs Q E st f=>by
  obtain⟨⟨sl,g⟩,d⟩:=st;refine jB y g d hd k (λA E C q=>mQ b d hd k ?_) λl kp=>f l s.toks λc u m n=>kp c u (λz=>m (by simp[z])) n;rw[CH (by simp)];exact q
 self:=λi s Q E st f=>let ⟨⟨_,g⟩,_⟩:=st;lM g f
theorem uv(G:A.handled=Yb)(b:qJ w=false)(d:(!t.plain&&decide (es.size>1))=false)(r:Tb (!qJ w) t)(hd:o.data=.set es ep t)(g:t.fits es.size=true)(ne:a≠I):
  Hj prog w A I [I,a] [I] (es.toList.map (·.2)).length (λi v=>(es.toList.map (·.2))[i]?=Ya v)
   (λi h=>(∃sl:Nat,YR t.place sl=i/\h.get? I=Ya (kI (.int sl 0) i a es.size ep))/\h.get? a=Ya o) where
 sub:=λb hb=>YQ.mp hb▸YL
 frame:=λi h p st C=>⟨let ⟨sl,k,e⟩:=st.1;⟨sl,k,C I (by simp) _ e⟩,C a (by simp) _ st.2⟩
 item:=λi s _ _ H st l=>by
  obtain⟨⟨sl,k,m⟩,j⟩:=st;have n:i<es.size:=by simpa using H
  have u:t.led=true:=by rw[r.2,b];rfl
  have K:t.place.size=es.size:=by
   simp only[SetTable.fits,Cr,beq_iff_eq,decide_eq_true_eq]at g;exact g.1
  have f:i<t.place.size:=by omega
  refine jE (x:=(es[i]).2) (nx:=t.place.getD i 0+ 1) m j hd g (λA E J q=>p7 b d u j hd g ?_) λp e D=>l _ p s.toks ?_ ⟨⟨t.place.getD i 0+ 1,qR r.1 f,e⟩,(D.2 a ne).trans j⟩ λc F y B=>(D.2 c (λz=>y (by simp[z]))).trans B
  ·rw[gr,k,Yt n,Yt f];rw[YO,Yt f]at q;exact q
  ·rw[YX,gs,Yt n];rfl
 done:=λs Q E st l=>by
  obtain⟨⟨sl,k,m⟩,j⟩:=st;have u:t.led=true:=by rw[r.2,b];rfl
  refine jB G m j hd g (λA E J q=>p7 b d u j hd g ?_) λp kp=>l p s.toks λc F y B=>kp c F (λz=>y (by simp[z])) B;rw[gr,k,CH (by simp)];exact q
 self:=λi s Q E st l=>let ⟨⟨_,_,m⟩,_⟩:=st;lM m l
theorem qz(y:A.handled=Yb)(B:ps.Perm (Dq es.size))(hd:o.data=.set es ep t)(r:t.fits es.size=true)(ne:a≠I)(C:tp≠I):
  Hj prog w A I [I,a,tp] [I] (ps.map λi=>(es.getD i (0,.none)).2).length (λi v=>(ps.map λi=>(es.getD i (0,.none)).2)[i]?=Ya v)
   (λi h=>h.get? I=Ya (kI (.ref tp) i a es.size ep)/\h.get? a=Ya o/\h.get? tp=Ya {cls:=.type "tuple",dict:=Yb,data:=.seq (ps.map fun(i:Nat)=>BR i).toArray c,slots:=#[]}) where
 sub:=λb hb=>YQ.mp hb▸YL
 frame:=λi h f st l=>⟨l I (by simp) _ st.1,l a (by simp) _ st.2.1,l tp (by simp) _ st.2.2⟩
 item:=λi s _ _ g st d=>by
  obtain⟨m,j,k⟩:=st;rw[Yn]at g;have hm:ps[i]<es.size:=CK.mp (B.mem_iff.mp (DC g));refine oq (x:=(es[ps[i]]).2) (hk:=(es[ps[i]]).1) m j hd r k (YS g) (Yt hm) λf e n=>d _ f s.toks ?_ ⟨e,(n.2 a ne).trans j,(n.2 tp C).trans k⟩ λc u p q=>(n.2 c (λz=>p (by simp[z]))).trans q;rw[YX,YS g,GU,YO,Yt hm];rfl
 done:=λs Q E st d=>by
  obtain⟨m,j,k⟩:=st;exact oB y m j hd r k (DH (by rw[Yn];exact Yo _)) λf kp=>d f s.toks λc u p q=>kp c u (λz=>p (by simp[z])) q
 self:=λi s Q E st d=>lM st.1 d
theorem qo(a:Array (Int×Yd)):(Dq a.size).map (λi=>(a.getD i (0,Cz)).2)=a.toList.map (·.2):=by
 apply Gg;intro i;rw[YX,YX,gs (xs:=a)];by_cases h:i<a.size
 ·rw[YS (by rw[Ce];exact h),List.getElem_range,GU,YO,Yt h];rfl
 ·rw[DH (by rw[Ce];omega),CH (by omega)];rfl
theorem uF(y:A.handled=Yb)(d:s.heap.get? a=Ya o)(x:o.ExactSet)(hd:o.data=.set es ep t)(g:t.fits es.size=true)(hb:es.size<CN)(q:Tb (!qJ w) t){Q:Yd->Yh->Prop}
  (h:∀(h':YF) (d':GD) (I:Yf) (r:List Yf) (vs:List Yd) (St:Nat->YF->Prop),(∀b o,s.heap.get? b=Ya o->h'.get? b=Ya o)->s.heap.objs.size<=I->(∀b∈r,b=a∨s.heap.objs.size<=b)->vs.Perm (es.toList.map (·.2))->
   (∀A:Y2,A.handled=Yb->Hj prog w A I r [I] vs.length (λi v=>vs[i]?=Ya v) St)->St 0 h'->Q (.ref I) {s with heap:=h',drawn:=d'}):Yj (Ym prog w) A (GK (.ref a)) Q E s:=by
 have j:s.TypeIs (.ref a) "set":=⟨o,d,x.1⟩;have u:=Yq d;refine Gf j Fn (BU Fn j pU ?_ (PySem.F.args_set_iter_1 _));unfold CL.«frozenset.__iter__» Builtin.Frozenset.slot0 Builtin.Frozenset.addrOf Builtin.Frozenset.sizeOf;refine Ye (Ye (Yk (Yk (Ye (Ye (Cv d hd g (Yk ?_)))))));refine Ye ?_;unfold setDrawn;refine Ye (xb d hd g (Ye (Ye (Cs (Yk (Yk ?_))))));show Yj _ _ (if(!qJ w&&(!t.plain&&decide (es.size>1)))=true then _ else _) _ _ _;cases hc:(!qJ w&&(!t.plain&&decide (es.size>1)))with
 |false=>
  rw[if_neg Yr];refine Ye (Yk (Ye ?_));unfold setEpoch;refine Ye (xb d hd g (Yk ?_));refine Ye (BP (Yk ⟨_,rfl,"set_iterator",_,⟨_,Yu _ rfl,rfl⟩,bj.lookup,?_⟩));have nI:a≠s.heap.objs.size:=YD u;have f:∀b∈[s.heap.objs.size,a],b=a∨s.heap.objs.size<=b:=λb hb=>by
   simp only[YK,Gx,or_false]at hb;rcases hb with z|z
   ·exact .inr (Dg z.symm)
   ·exact .inl z
  cases j:qJ w with
  |true=>
   refine h _ s.drawn s.heap.objs.size [s.heap.objs.size,a] _ _ (λb o e=>Yi _ e) (Yo _) f ((sS (w.params.setOrder a ep) es).map _) (λA k=>rR k j hd g nI) ⟨⟨0,Yu _ rfl⟩,Yi _ d⟩
  |false=>
   have n:(!t.plain&&decide (es.size>1))=false:=by rw[j]at hc;exact hc
   refine h _ s.drawn s.heap.objs.size [s.heap.objs.size,a] _ _ (λb o e=>Yi _ e) (Yo _) f (.refl _) (λA k=>uv k j n q hd g nI) ⟨⟨0,qN q.1,Yu _ rfl⟩,Yi _ d⟩
 |true=>
  rw[if_pos rfl];refine Ye (rm es.size (Dq es.size) s _ (by rw[Ce]) λl d' p=>Ye ?_);refine wpAny_newTuple (Ye ?_) ?_
  ·unfold setEpoch;have m:(s.heap.push {cls:=.type "tuple",data:=.seq (l.map fun(i:Nat)=>BR i).toArray}).get? a=Ya o:=Yi _ d;refine Ye (xb m hd g (Yk ?_));refine Ye (BP (Yk ⟨_,rfl,"set_iterator",_,⟨_,Yu _ rfl,rfl⟩,bj.lookup,?_⟩));have sz:(s.heap.push {cls:=.type "tuple",data:=.seq (l.map fun(i:Nat)=>BR i).toArray}).objs.size=s.heap.objs.size+ 1:=Cj ..;refine h _ d' (s.heap.push {cls:=.type "tuple",data:=.seq (l.map fun(i:Nat)=>BR i).toArray}).objs.size [(s.heap.push {cls:=.type "tuple",data:=.seq (l.map fun(i:Nat)=>BR i).toArray}).objs.size,a,s.heap.objs.size] (l.map λi=>(es.getD i (0,.none)).2) _
    (λb o e=>Yi _ (Yi _ e)) (by rw[sz];exact tB _) (λb hb=>?_) ?_ (λA k=>qz (c:=0) k p hd g (by rw[sz];exact YD (CJ u)) (by rw[sz];exact YD (Cn _)))
    ⟨Yu _ rfl,Yi _ m,Yi _ (Yu _ rfl)⟩
   ·simp only[YK,Gx,or_false]at hb;rcases hb with z|z|z
    ·exact .inr (by rw[z,sz];exact tB _)
    ·exact .inl z
    ·exact .inr (Dg z.symm)
   ·exact(p.map _).trans (by rw[qo])
  ·rw[Yn,p.length_eq,Ce];exact Ey hb
end
theorem lD{α:Type}[DecidableEq α]:∀{l m:List α},l.Nodup->(∀x∈l,x∈m)->m.length<=l.length->m.Perm l
 |[],m,_,_,h=>by
  have e:m=[]:=cw (Nat.le_zero.mp h);rw[e]
 |x::l,m,nd,sub,h=>by
  rw[CB]at nd;have d:=sub x YL;have b:=Fz d;refine b.trans (List.Perm.cons x (lD nd.2 (λy c=>?_) ?_))
  ·have a:=sub y (Yw _ c);exact(FA (show y≠x from λz=>nd.1 (z▸c))).mpr a
  ·have:=b.length_eq;rw[YJ]at this h;omega
theorem j7(a:Nat->Int):∀i,(CG a i).Nodup
 |0=>List.nodup_nil
 |i+ 1=>by
  rw[FK];unfold step_dedup;have b:=j7 a i;by_cases h:List.any (CG a i) (·==a i)
  ·rw[if_pos h];exact b
  ·rw[if_neg h,List.nodup_append];refine⟨b,by simp,λx c y d e=>h ?_⟩;rw[DD];refine⟨x,c,?_⟩;have f:=YQ.mp d;rw[e,f,beq_self_eq_true]
theorem nH(a:Nat->Int)(i:Nat)(k:Int):k∈CG a i↔∃j,j<i/\a j=k:=by
 have h:=firstMet_any a i k;rw[xo,DD,DD]at h;constructor
 ·intro z;obtain⟨x,b,e⟩:=h.mp ⟨k,z,by simp⟩;obtain⟨j,c,d⟩:=CM.mp b;exact⟨j,CK.mp c,by rw[d];simpa using e⟩
 ·rintro⟨j,c,e⟩;obtain⟨x,b,f⟩:=h.mpr ⟨a j,CM.mpr ⟨j,CK.mpr c,rfl⟩,by simp[e]⟩;have:x=k:=by simpa using f
  rw[←this];exact b
section
theorem kX:∀{l:List (Int×Yd)},HR (xc prog w) l->∃ns,B2 (l.map (·.2)) ns/\∀k,k∈ns↔∃e∈l,(xc prog w).is k e.2=true
 |[],_=>⟨[],.nil,λk=>by simp⟩
 |e::l,h=>by
  obtain⟨ns,h1,h2⟩:=kX h.tail;obtain⟨⟨k,a,_⟩,_⟩:=h.head;obtain⟨t,d⟩:=F6 (k:=k) (v:=e.2) a;refine⟨k::ns,?_,λj=>?_⟩
  ·rw[Cd,d];exact .cons k t h1
  ·rw[YK,h2 j];constructor
   ·rintro(z|⟨b,c,q⟩)
    ·exact⟨e,YL,by rw[z];exact a⟩
    ·exact⟨b,Yw _ c,q⟩
   ·rintro⟨b,c,q⟩;rcases YK.mp c with z|z
    ·rw[z]at q;exact .inl ((xc prog w).inj e.2 j k q a)
    ·exact .inr ⟨b,z,q⟩
theorem sd{vs us:List Yd}(b:vs.Perm us)(h:B2 us ns):∃a,B2 vs a/\a.Perm ns:=by
 induction b generalizing ns with
 |nil=>exact⟨ns,h,.refl _⟩
 |cons x p ih=>
  cases h with
  |cons n t hr=>
   obtain⟨a,h1,h2⟩:=ih hr;exact⟨n::a,.cons n t h1,h2.cons n⟩
 |swap x y l=>
  cases h with
  |cons n t hr=>
   cases hr with
   |cons m u hr=>exact⟨_,.cons m u (.cons n t hr),List.Perm.swap ..⟩
 |trans p q ih1 ih2=>
  obtain⟨a,h1,h2⟩:=ih2 h;obtain⟨c,h3,h4⟩:=ih1 h1;exact⟨c,h3,h4.trans h2⟩
theorem uy{Q:Bool->Yh->Prop}(c:s.TypeIs (.ref a) "set")(h:Q false s):Yj (Ym prog w) A (Builtin.List.listLengthHint (.ref a)) Q E s:=by
 show Yj _ _ (specialOf (.ref a) "__len__" >>= _) _ _ s;refine Ye (wpAny_specialOf c PySem.F.slot_set_len.lookup ?_);generalize hid:("set.__len__":String)=id0
 wp_delta
 rw[show splitId id0=Ya ("set","__len__")from by subst hid;decide +kernel];subst hid;refine Ye (EM (T:="set") (b:=true) c (by rw[Fl];kernel_rfl) ?_);refine E3 (λz=>absurd z (by decide)) (λ_=>?_);refine E3 (λ_=>?_) (λz=>absurd (by decide +kernel) z);exact Ye (Hx c (Yk h))
theorem vC{id:String}{B:CL}{a:Args}(d:Fw Hi id=Ya B)(g:plainId id=true)(h:Yj (Ym prog w) A.in1 (B a) (λf b=>match f with| .done f=>R (.ok f) b| .again c=>c.quiet=true/\lr (Ym prog w) A c R b) (λe b=>R (.error e) b) s):lr (Ym prog w) A (.builtin id a) R s:=
 DQ d (by rw[Around.under_plainId g];exact h)
theorem oY{R:List Yd->Yh->Prop}(B:A.handled=Yb)(x:iL prog w s.heap a S n)(h:∀(h':YF) (d':GD) (tk:Nat) (vs:List Yd) (ns:List Int),(∀b o,s.heap.get? b=Ya o->h'.get? b=Ya o)->B2 vs ns->ns.length=n->(∀k,k∈ns↔S k=true)->R vs {s with heap:=h',drawn:=d',toks:=tk}):
  Yj (Ym prog w) A (HQ (.ref a)) R E s:=by
 obtain⟨o,es,ep,t,K,C,hd,U,hm,hb,V,hn,X⟩:=x;have L:=Yq K;unfold HQ;refine Ye (wpAny_runValue (vC entry_proto_collect' PySem.F.plain_proto_collect (Ye (BP (Yk ⟨FJ ER _,vC entry_list_iadd' ER ?_⟩)))));have m:(s.heap.push {cls:=.type "list",data:=.seq ([]:List Yd).toArray}).get? s.heap.objs.size=Ya {cls:=.type "list",data:=.seq #[]}:=Yu _ rfl;have c:(s.heap.push {cls:=.type "list",data:=.seq ([]:List Yd).toArray}).get? a=Ya o:=Yi _ K;have g:(s.heap.push {cls:=.type "list",data:=.seq ([]:List Yd).toArray}).objs.size=s.heap.objs.size+ 1:=Cj ..;have p:∀b ob,s.heap.get? b=Ya ob->(s.heap.push {cls:=.type "list",data:=.seq ([]:List Yd).toArray}).get? b=Ya ob:=λb ob e=>Yi _ e;show Yj _ A.in1 (Builtin.List.listExtendWith (.ref s.heap.objs.size) (.ref a) (.ref s.heap.objs.size)) _ _ _;generalize s.heap.push {cls:=.type "list",data:=.seq ([]:List Yd).toArray}=H1 at m c g p⊢;show Yj _ _ (typeOf (.ref a) >>= _) _ _ _;refine Ye (Hx (T:="set") ⟨o,c,C.1⟩ ?_);have n1:Builtin.List.listSameRef (.ref s.heap.objs.size) (.ref a)=false:=by simp[Builtin.List.listSameRef,DL L]
 have n2:(pw "set"==pw "list")=false:=by decide
 have n3:(pw "set"==pw "tuple")=false:=by decide
 simp only[n1,n2,n3,Ek,Di,if_false];refine Ye (uF (s:={s with heap:=H1}) (A:=A.in1) B c C hd V hb X λh2 Y I Z vs St D lI F M W st=>?_);refine Ye (xi (uy (s:={s with heap:=h2,drawn:=Y}) ⟨o,D _ _ c,C.1⟩ ?_));have r:=D _ _ m;have N:s.heap.objs.size∉Z:=λz=>by
  rcases F _ z with q|q
  ·exact absurd L (by rw[←q];exact xg _)
  ·rw[g]at q;exact absurd q (Nat.not_succ_le_self _)
 have d:vs.length=n:=by rw[M.length_eq,Yn,pe,hn]
 have nz:vs.length<=Yp:=by rw[d,←hn];exact Ey hb
 refine E3 (λ_=>?_) (λz=>absurd (by decide) z);refine Ye (wpAny_rule (Ye ?_));show Yj _ _ (updateSeq s.heap.objs.size (·.push .none) >>= λ_=>updateSeq s.heap.objs.size (·.pop)) _ _ _;refine Ye (GV r rfl ?_);have u:=rf (CC (·.push Cz)) r rfl;refine GV (hz:=by seq_fits) u rfl ?_;have G:=rf (CC (·.pop)) u rfl;have v:∀b ob,b≠s.heap.objs.size->h2.get? b=Ya ob->((h2.update s.heap.objs.size (CC (·.push Cz))).update s.heap.objs.size (CC (·.pop))).get? b=Ya ob:=λb ob O e=>(cb _ _ (Ne.symm O)).trans ((cb _ _ (Ne.symm O)).trans e);refine Yk ⟨FJ PySem.F.plain_extend_loop _,codeAny_extend_loopS (W A.in1 B).toS nz _ N _ vs.length 0 _ #[] _ rfl (kx _) ((W A.in1 B).frame 0 _ _ st λb hb ob e=>v b ob (λz=>N (z▸hb)) e) G (ItemsOf.nil _) λs' i c' l H f=>?_⟩;apply Ye (wpAny_load H _);have ea:i.toList=vs:=by
  apply Gg;intro j;rw[gs];by_cases P:j<i.size
  ·rw[Yt P];exact(f.2 j _ (Yt P)).symm
  ·rw[CH (by omega),DH (by rw[←f.1];omega)]
 obtain⟨ab,q1,q2⟩:=kX U;obtain⟨ns,Q,q4⟩:=sd M q1;have ln:ns.length=n:=by rw[←Q.length,d]
 have:=h s'.heap s'.drawn s'.toks vs ns (λb ob e=>l.heap b ob (λz=>?_) (v b ob (YD (Yq e)) (D b ob (p b ob e)))) Q ln (λk=>by rw[q4.mem_iff,q2 k,hm k])
 ·obtain⟨h',g',d',t',J⟩:=s';have eg:g'=s.gens:=l.gens;have eo:J=s.os:=l.os;subst eg eo;show Yj _ A (pure i.toList) _ _ _;rw[ea];exact Yk this
 ·have y:=Yq e;rcases YK.mp z with z|z
  ·rw[z]at y;exact xg _ y
  ·rw[YQ.mp z]at y;have q:H1.objs.size<=I:=lI;rw[g]at q;exact absurd y (EC.mpr (YI (tB _) q))
end
end GX
namespace L2
open PySem PySem.Spec PyProof.Rows
noncomputable def ug(P:YB)(w:YG)(a:Yf)(b:List Int):HO:=.ext λh=>GX.iL P w h a (λk=>b.any (·==k)) b.length
section
variable{X:Cx}
theorem aC.draw{a:List (Yf×Y1)}{σ:St}{H:Hp}{s:Yh}(I:aC X a σ H s)(d:GD):aC X a σ H {s with drawn:=d}:=⟨I.ok,I.os,I.bare,I.base,I.loc,I.cell,I.free,I.freeC,I.pin,I.hok,I.len⟩
theorem sV(hc:X.calm=true):cY X (.type "set") (λxs H Q=>∃(p:Yf) (ns:List Int),xs=[.ref p]/\bw X.K H p (ns.map V.int)/\ns.length<=1000/\∀(q:Yf) (c:List Int),H q=Yb->c.Nodup->(∀k,k∈c↔k∈ns)->Q (.ref q) (upd H q (ug X.prog X.w q c))):=by
 intro C s σ H xs D Q I r h;obtain⟨p,ns,rfl,g,E,q⟩:=h;obtain⟨u,rfl,l⟩:=fy r;cases l;obtain⟨b,m,n,t⟩:=I.list g;have d:B2 b ns:=qi m;have f:b.length=ns.length:=d.length;refine GX.pX (items:=b.toArray) (ns:=ns) (I.ok.hd hc) n.isList (by simpa using d) (by rw[Yx,f];unfold CN;omega) λv w x kp=>?_;have sz:b.toArray.size=ns.length:=by rw[Yx,f]
 rw[sz]at x;have new:bU X.prog X.w (upd H s.heap.objs.size (ug X.prog X.w s.heap.objs.size (CG (λi=>ns.getD i 0) ns.length))) v s.heap.objs.size (ug X.prog X.w s.heap.objs.size (CG (λi=>ns.getD i 0) ns.length)):=by
  refine⟨x,?_,λh1 h2 y k=>y.at k⟩;obtain⟨o,_,_,_,z,_⟩:=x;exact⟨o,z⟩
 refine⟨.ref s.heap.objs.size,_,I.laid (t':=w) kp (Yo _) new,rfl,q _ _ (I.hok.fresh (Yo _)) (GX.j7 _ _) λk=>?_⟩;rw[GX.nH];constructor
 ·rintro⟨j,a,e⟩;rw[CZ,YS a]at e;have A:ns[j]=k:=e;rw[←A];exact DC a
 ·intro B;obtain⟨j,a,e⟩:=DY B;refine⟨j,a,?_⟩;rw[CZ,YS a];exact e
theorem oI(hc:X.calm=true):cY X (.builtin "sorted") (λxs H Q=>∃(a:Yf) (b:List Int),xs=[.ref a]/\H a=Ya (ug X.prog X.w a b)/\b.Nodup/\b.length<64/\∀(l:Yf) (ns:List Int),H l=Yb->ns.Perm b->ns.Pairwise (·<=·)->Q (.ref l) (upd H l (.lst (ns.map V.int)))):=by
 intro v s σ H xs J Q I r h;obtain⟨a,b,rfl,ha,nd,c,q⟩:=h;obtain⟨u,rfl,w⟩:=fy r;cases w;have x:GX.iL X.prog X.w s.heap a (λk=>b.any (·==k)) b.length:=(I.hok a _ ha).1;refine GX.r6 (args_sorted1 _) (GX.oY (A:=X.A.in1) (I.ok.hd hc) x λg i f y ns j n m hm=>?_);have z:ns.Perm b:=GX.lD nd (λk j=>(hm k).mpr (DD.mpr ⟨k,j,by simp⟩)) (Dg m);have o:y.length=b.length:=by rw[n.length,m]
 have p:aC X v σ H {s with heap:=g,drawn:=i,toks:=f}:=(I.draw i).kept (t':=f) j;refine sZ (s:={s with heap:=g,drawn:=i,toks:=f}) n (by rw[o];exact c) (by rw[o];exact De (dz (by omega))) λh2 B d e C D E t F=>?_;have G:d.length<=Yp:=by rw[t.length_eq,m];exact De (dz (by omega))
 exact⟨.ref g.objs.size,_,p.lay_ints (tk:=f) C D E G,rfl,q _ d (p.hok.fresh (Yo _)) (t.trans z) F⟩
end
end L2
namespace GX
open PySem PyProof.Rows
section
variable{prog:YB}{w:YG}{A:Y2}{E:Yd->Yh->Prop}{s:Yh}{I:Yf}{fp wr:List Yf}{N:Nat}{P:Nat->Yd->Prop}{St:Nat->YF->Prop}
end
end GX
namespace L2
open PySem PySem.Spec PyProof.Rows
variable{X:Cx}
section
end
section
end
mutual
inductive Dp (K:Yc) (H:Hp):V->Ct->Prop
 |none:Dp K H .non .none
 |bool (b:Bool):Dp K H (.bl b) (.bool b)
 |int (i:Int):Dp K H (.int i) (.int i)
 |str (x:Yg):Dp K H (.str x) (.str x)
 |tup {a:Yf} {xs:List V} {ds:List Ct}:gU K H a xs->rG K H xs ds->Dp K H (.ref a) (.tuple ds)
inductive rG (K:Yc) (H:Hp):List V->List Ct->Prop
 |nil:rG K H [] []
 |cons {x:V} {xs:List V} {d:Ct} {ds:List Ct}:Dp K H x d->rG K H xs ds->rG K H (x::xs) (d::ds)
end
section
variable{X:Cx}{Za:List (Yf×Y1)}{σ:St}{H:Hp}{s:Yh}
mutual
theorem Dp.reads(I:aC X Za σ H s):∀{x:V} {d:Ct} {u:Yd},Dp X.K H x d->RelV x u->∃a,Reads s.heap u d a
 |_,_,_,.none,r=>by cases r;exact⟨_,.none⟩
 |_,_,_,.bool b,r=>by cases r;exact⟨_,.bool b⟩
 |_,_,_,.int i,r=>by obtain⟨t,rfl⟩:=r;exact⟨_,.int i t⟩
 |_,_,_,.str z,r=>by obtain⟨t,rfl⟩:=r;exact⟨_,.str z t⟩
 |_,_,_,.tup h t,r=>by
  cases r;obtain⟨j,f,⟨o,e,c,n,g⟩,_⟩:=I.tuple h;obtain⟨a,q⟩:=rG.reads I t f;exact⟨_,.tuple e c g (by simpa using q)⟩
theorem rG.reads(I:aC X Za σ H s):∀{xs:List V} {a:List Ct} {us:List Yd},rG X.K H xs a->Vals xs us->∃b,ReadsAll s.heap us a b
 |_,_,_,.nil,r=>by cases r;exact⟨_,.nil⟩
 |_,_,_,.cons h t,r=>by
  cases r with
  |cons r1 r2=>
   obtain⟨b,q⟩:=Dp.reads I h r1;obtain⟨bs,c⟩:=rG.reads I t r2;exact⟨_,.cons q c⟩
end
def Dl(K:Yc)(H:Hp)(x:V)(d:Ct):Prop:=Dp K H x d∨∃a b c,x=.ref a/\d=.list c/\bw K H a b/\rG K H b c
theorem Dl.reads(I:aC X Za σ H s){x:V}{d:Ct}{u:Yd}(h:Dl X.K H x d)(r:RelV x u):∃b,Reads s.heap u d b:=by
 rcases h with h|⟨a,i,j,rfl,rfl,h,t⟩
 ·exact Dp.reads I h r
 ·cases r;obtain⟨k,f,⟨o,n,e,c,_,g⟩,_⟩:=I.list h;obtain⟨b,q⟩:=rG.reads I t f;exact⟨_,.list e c g (by simpa using q)⟩
def ui(K:Yc):R2:=λx y H Q=>∃d e,Dl K H x d/\Dl K H y e/\d.canLay0=true/\e.canLay0=true/\min d.depth e.depth<=60/\Q (.bl (d.eqv e)) H
def yj(K:Yc):R2:=λx y H Q=>∃d e,Dl K H x d/\Dl K H y e/\d.canLay0=true/\e.canLay0=true/\min d.depth e.depth<=60/\Q (.bl (!d.eqv e)) H
theorem wc(j:X.A.units+ 64<C9):iF X (gm .Eq) (ui X.K):=by
 intro k s σ H x y v u Q I a b h;obtain⟨d,e,h1,h2,c,f,dp,q⟩:=h;obtain⟨l,g⟩:=h1.reads I a;obtain⟨bs,i⟩:=h2.reads I b;exact SeqAt.compareEq_reads g i c f (by omega) ⟨.bl _,H,I,rfl,q⟩
theorem wx(j:X.A.units+ 64<C9):iF X (gm .NotEq) (yj X.K):=by
 intro k s σ H x y v u Q I a b h;obtain⟨d,e,h1,h2,c,f,dp,q⟩:=h;obtain⟨l,g⟩:=h1.reads I a;obtain⟨bs,i⟩:=h2.reads I b;exact SeqAt.compareNe_reads g i c f (by omega) ⟨.bl _,H,I,rfl,q⟩
def qj(K:Yc)(c:Bool):R2:=λx y H Q=>∃a e b d,y=.ref a/\(bw K H a e∨gU K H a e)/\rG K H e b/\Dp K H x d/\Cf b=true/\d.canLay0=true/\d.depth<=60/\Q (.bl (if c then !(b.any λz=>z.eqv d)else b.any λz=>z.eqv d)) H
theorem yP(o:X.A.units+ 64<C9):iF X (gm .In) (qj X.K false):=by
 intro p s σ H x y v u Q I i j h;obtain⟨a,k,l,d,rfl,b,hd,m,e,f,dp,q⟩:=h;obtain⟨bs,g⟩:=m.reads I i;cases j;rcases b with b|b
 ·obtain⟨n,c⟩:=Dl.reads I (x:=.ref a) (u:=.ref a) (.inr ⟨a,k,l,rfl,rfl,b,hd⟩) rfl;exact SeqAt.in_list_reads c g e f (by omega) ⟨.bl _,H,I,rfl,q⟩
 ·obtain⟨n,c⟩:=Dp.reads I (x:=.ref a) (u:=.ref a) (.tup b hd) rfl;exact SeqAt.in_tuple_reads c g e f (by omega) ⟨.bl _,H,I,rfl,q⟩
theorem sP(o:X.A.units+ 64<C9):iF X (gm .NotIn) (qj X.K true):=by
 intro p s σ H x y v u Q I i j h;obtain⟨a,k,l,d,rfl,b,hd,m,e,f,dp,q⟩:=h;obtain⟨bs,g⟩:=m.reads I i;cases j;rcases b with b|b
 ·obtain⟨n,c⟩:=Dl.reads I (x:=.ref a) (u:=.ref a) (.inr ⟨a,k,l,rfl,rfl,b,hd⟩) rfl;exact SeqAt.notIn_list_reads c g e f (by omega) ⟨.bl _,H,I,rfl,q⟩
 ·obtain⟨n,c⟩:=Dp.reads I (x:=.ref a) (u:=.ref a) (.tup b hd) rfl;exact SeqAt.notIn_tuple_reads c g e f (by omega) ⟨.bl _,H,I,rfl,q⟩
end
theorem m4{K:Yc}{x y:V}{H:Hp}{Q:VK}{d:Ct}(h1:Dl K H x d)(h2:Dl K H y d)(c:d.canLay0=true)(dp:d.depth<=60)(q:Q (.bl true) H):ui K x y H Q:=
 ⟨d,d,h1,h2,c,c,by omega,by rw[SeqAt.eqv_refl d c];exact q⟩
theorem aZ{H:Hp}{l:Yf}{o:HO}(h:H l=Yb):aX H (upd H l o):=λb u e=>by rw[aR (aW e h)];exact e
def qw(d:Yf)(H a:Hp):Prop:=∀b,b≠d->a b=H b
theorem qw.upd{d:Yf}{H:Hp}{o:HO}:qw d H (L2.upd H d o):=λb h=>aR h
theorem qw.same{d:Yf}{B H a:Hp}(e:qw d H a)(s:aX B H)(h:B d=Yb):aX B a:=λb o hb=>by rw[e b (aW hb h)];exact s b o hb
theorem qw.at{d b:Yf}{H a:Hp}{o:Option HO}(e:qw d H a)(n:b≠d)(h:H b=o):a b=o:=by rw[e b n];exact h
theorem qw.of{d b:Yf}{H a:Hp}{o u:HO}(e:qw d H a)(hd:H d=Ya u)(h:H b=Ya o)(n:o≠u):a b=Ya o:=e.at (xP h hd n) h
def Bx(xs:List V)(H:Hp)(Q:VK):Prop:=xs.length<=Yp/\∀p,H p=Yb->Q (.ref p) (upd H p (.tup xs))
def Bt(xs:List V)(H:Hp)(Q:VK):Prop:=xs.length<=Yp/\∀p,H p=Yb->Q (.ref p) (upd H p (.lst xs))
section
variable{D:fU}{σ:St}{H:Hp}{Q:VK}{K:Yc}
theorem bN{t u:TS}(h:t {D with nx:=u D} σ H):jh t u D σ H:=h
theorem yY{a:TE}{g:TG}{u:TS}(h:a σ H λx b=>g x σ b (u D)):jh (uo a g) u D σ H:=h
theorem y2{a:TI}{g:TG}{b u:TS}(h:wH a g b {D with nx:=u D} σ H):jh (wH a g b) u D σ H:=h
theorem yr{a b:TE}{f:Yg}{u:TS}(h:tZ K a b f {D with nx:=u D} σ H):jh (tZ K a b f) u D σ H:=h
theorem yo{c:TT}{a:TE}{u:TS}(h:c σ H λb d=>if b=true then a σ d D.rt else u D σ d):jh (vM c (vf a) rE) u D σ H:=h
theorem lK(I:St->Hp->Prop){t u:TS}(h2:∀a b,I a b->u D a b)(h:∀N:St->Hp->Prop,(∀a b,I a b->N a b)->t {D with nx:=N} σ H):jh t u D σ H:=h _ h2
theorem yR(h:D.nx σ H):rE D σ H:=h
theorem Av{a:TE}(h:a σ H D.rt):vf a D σ H:=h
theorem za{a:TE}(h:a σ H λ_ b=>D.nx σ b):tS a D σ H:=h
theorem Ah{a:TE}{g:TG}(h:a σ H λx b=>g x σ b D.nx):uo a g D σ H:=h
theorem zC{c:TT}{t u:TS}(h:c σ H λb a=>if b=true then t D σ a else u D σ a):vM c t u D σ H:=h
theorem yc{i:Nat}{v:V}{R:St->Hp->Prop}(h:R (σ.set i (Ya v)) H):rn i v σ H R:=h
theorem zH{i:Nat}{v:V}(h1:σ[i]?=Ya (Ya v))(h:Q v H):jH i σ H Q:=⟨v,h1,h⟩
theorem BI{v:V}(h:Q v H):tC v σ H Q:=h
theorem AW{r:R2}{a b:TE}(h:a σ H λx c=>b σ c λy d=>r x y d Q):vQ r a b σ H Q:=h
theorem Be{r:V->Hp->VK->Prop}{a:TE}(h:a σ H λx b=>r x b Q):By r a σ H Q:=h
theorem A9{g:Int->Int->V}{i j:Int}(h:Q (g i j) H):xH g (.int i) (.int j) H Q:=⟨i,j,rfl,rfl,h⟩
theorem BJ{C:Int->Int->Prop}{g:Int->Int->V}{i j:Int}(hc:C i j)(h:Q (g i j) H):rI C g (.int i) (.int j) H Q:=⟨i,j,rfl,rfl,hc,h⟩
theorem BH{g:Int->V}{i:Int}(h:Q (g i) H):rU g (.int i) H Q:=⟨i,rfl,h⟩
theorem Au(i j:Int):decide (V.int i=V.int j)=decide (i=j):=by
 by_cases h:i=j
 ·subst h;rw[decide_eq_true rfl,decide_eq_true rfl]
 ·rw[decide_eq_false h,decide_eq_false (λe=>h (V.int.inj e))]
theorem zN(i j:Yg):decide (V.str i=V.str j)=decide (i=j):=by
 by_cases h:i=j
 ·subst h;rw[decide_eq_true rfl,decide_eq_true rfl]
 ·rw[decide_eq_false h,decide_eq_false (λe=>h (V.str.inj e))]
theorem z9{i j:Int}(h:Q (.bl (decide (i=j))) H):Bl (.int i) (.int j) H Q:=⟨rfl,by rw[Au];exact h⟩
theorem zy{i j:Int}(h:Q (.bl (!decide (i=j))) H):Bg (.int i) (.int j) H Q:=⟨rfl,by rw[Au];exact h⟩
theorem zx{i j:Yg}(h:Q (.bl (decide (i=j))) H):Bl (.str i) (.str j) H Q:=⟨rfl,by rw[zN];exact h⟩
theorem Ai{i j:Yg}(h:Q (.bl (!decide (i=j))) H):Bg (.str i) (.str j) H Q:=⟨rfl,by rw[zN];exact h⟩
theorem x9{t:TE}{R:Bool->Hp->Prop}(h:t σ H λx a=>∃k,x=.bl k/\R k a):xB t σ H R:=h
theorem zP{t:TE}{R:Bool->Hp->Prop}(h:t σ H λx a=>∃k,uN K x a k/\R k a):yq K t σ H R:=h
theorem zb{c:Bool}{P:Bool->Prop}(h:P c):∃k,V.bl c=.bl k/\P k:=⟨c,rfl,h⟩
theorem wD{c:Bool}{P:Bool->Prop}(h:P c):∃k,uN K (.bl c) H k/\P k:=⟨c,rfl,h⟩
theorem zW{t u:TT}{R:Bool->Hp->Prop}(h:t σ H λc a=>if c=true then u σ a R else R false a):z8 t u σ H R:=h
theorem Bo{t u:TT}{R:Bool->Hp->Prop}(h:t σ H λc a=>if c=true then R true a else u σ a R):BD t u σ H R:=h
theorem AG{t:TT}{R:Bool->Hp->Prop}(h:t σ H λc a=>R (!c) a):zG t σ H R:=h
theorem zc{a b:TE}(h:a σ H λx d=>∃c,x=.bl c/\if c=true then b σ d Q else Q (.bl false) d):w9 a b σ H Q:=h
theorem ya{a:TE}(h:a σ H λx b=>∃c,x=.bl c/\Q (.bl (!c)) b):xD a σ H Q:=h
theorem As{R:List V->Hp->Prop}(h:R [] H):pL σ H R:=h
theorem xQ{a:TE}{tr:TA}{R:List V->Hp->Prop}(h:a σ H λx b=>tr σ b λxs c=>R (x::xs) c):eT a tr σ H R:=h
theorem z5{t:TA}(h:t σ H λxs a=>Bx xs a Q):wR t σ H Q:=h
theorem zX{t:TA}(h:t σ H λxs a=>Bt xs a Q):zI t σ H Q:=h
theorem zK{xs:List V}(c:xs.length<=Yp)(h:∀p a,H p=Yb->aX H a->a p=Ya (.tup xs)->Q (.ref p) a):Bx xs H Q:=⟨c,λp b=>h p _ b (aZ b) aI⟩
theorem Aw{xs:List V}(c:xs.length<=Yp)(h:∀p a,H p=Yb->aX H a->a p=Ya (.lst xs)->Q (.ref p) a):Bt xs H Q:=⟨c,λp b=>h p _ b (aZ b) aI⟩
theorem yn(h:∀p a,H p=Yb->aX H a->a p=Ya (.dK (dI []))->Q (.ref p) a):uE σ H Q:=λp b=>h p _ b (aZ b) aI
theorem zg{sp:Sp}{a:List V}{E:XK}{t:TA}(h:t σ H λvs b=>sp (vs++a) b Q E):m3 sp a E t σ H Q:=h
theorem Bc{r:List V->Hp->VK->Prop}{t:TA}(h:t σ H λvs a=>r vs a Q):AN r t σ H Q:=h
theorem AV{r:V->Option Int->Option Int->Hp->VK->Prop}{a:TE}{b c:TO}(h:a σ H λx d=>b σ d λl e=>c σ e λu f=>r x l u f Q):Bz r a b c σ H Q:=h
theorem vD{R:Option Int->Hp->Prop}(h:R Yb H):rF σ H R:=h
theorem yZ{t:TE}{R:Option Int->Hp->Prop}(h:t σ H λx a=>∃i,x=.int i/\R (Ya i) a):xr t σ H R:=h
theorem wM{c:Int}{P:Int->Prop}(h:P c):∃k,V.int c=.int k/\P k:=⟨c,rfl,h⟩
theorem zT{a:Yf}{xs:List V}{lo c:Option Int}(h1:bw K H a xs)(h:∀p b,H p=Yb->aX H b->b p=Ya (.lst (mG xs lo c))->Q (.ref p) b):yl K (.ref a) lo c H Q:=⟨a,xs,rfl,h1,λp d=>h p _ d (aZ d) aI⟩
theorem zL{a:Yf}{xs:List V}{i:Int}{v:V}(h1:bw K H a xs)(h2:dC xs i=Ya v)(h:Q v H):qd K (.ref a) (.int i) H Q:=⟨a,xs,i,v,rfl,rfl,h1,h2,h⟩
theorem Am{a:Yf}{xs:List V}{i:Int}{v:V}(h1:gU K H a xs)(h2:dC xs i=Ya v)(h:Q v H):yH K (.ref a) (.int i) H Q:=⟨a,xs,i,v,rfl,rfl,h1,h2,h⟩
theorem Al{b:TI}{g:TG}{c:TS}(h:b σ H λJ f=>∃W:Nat->Nat->St->Hp->Prop,(∃m,W 0 m σ f)/\∀i m σ H,W i m σ H->
 (J.stop i H/\D.nx σ H)∨(J.go i H/\∃N:St->Hp->Prop,(∀d a,N d a->∃e,e<m/\W (i+ 1) e d a)/\∀x a,J.yld i H x a->g x σ a λj k=>c {D with nx:=N,ct:=N,bk:=D.nx} j k)):wH b g c D σ H:=h
theorem vT{b:TE}{R:It->Hp->Prop}(h:b σ H λx c=>∃a,x=.ref a/\(∃xs,bw K c a xs)/\R (vY K a) c):uk K b σ H R:=h
theorem xS{a:Yf}{xs:List V}{P:Yf->Prop}(hd:bw K H a xs)(h:P a):∃b,V.ref a=.ref b/\(∃xs,bw K H b xs)/\P b:=⟨a,rfl,⟨xs,hd⟩,h⟩
theorem Ac{a:TA}{R:It->Hp->Prop}(h:a σ H λvs b=>∃j:Int,vs=[.int j]/\-(2^62)<=j/\j<2^62/\R (yi 0 j.toNat) b):xJ a σ H R:=h
theorem Bm{T:String}{r:V->List V->Hp->VK->Prop}{to:TE}{t:TA}(h:to σ H λx a=>Af K T x a/\t σ a λxs b=>r x xs b Q):yC K T r to t σ H Q:=h
theorem Aq{a:Yf}{xs:List V}{P:Prop}(hd:H a=Ya (.lst xs))(h:P):Af K "list" (.ref a) H/\P:=⟨.inl ⟨rfl,_,bw.of hd⟩,h⟩
theorem vw{a:Yf}{xs:List V}{y:V}(hd:H a=Ya (.lst xs))(c:xs.length<Yp)(h:∀b,qw a H b->b a=Ya (.lst (xs++[y]))->Q .non b):jD (.ref a) [y] H Q:=⟨a,xs,y,rfl,rfl,hd,c,h _ .upd aI⟩
theorem yV{a:List (Option Nat)}{d:TI}{g:TG}{e:TT}{f:TE}(h:d σ H λJ j=>∀D,j D=Yb->∃W:Nat->Nat->St->Hp->Prop,(∃m,W 0 m (kr a σ) (upd j D (.lst [])))/\
 ∀i m k b,W i m k b->(J.stop i b/\Q (.ref D) b)∨(J.go i b/\∃N:St->Hp->Prop,(∀l n,N l n->∃o,o<m/\W (i+ 1) o l n)/\
  ∀x c,J.yld i b x c->iX g e f D N x k c)):uM a d g e f σ H Q:=h
end
theorem Ab{A B:Prop}(h:B):if(!true)=true then A else B:=h
theorem Ax{A B:Prop}(h:A):if(!false)=true then A else B:=h
section
variable{X:Cx}{K:Yc}
theorem ju(a:X.K=K):zl X (yH K):=by subst a;exact yf
theorem aJ(a:X.K=K):zl X (qd K):=by subst a;exact wa
theorem lU(a:X.K=K):AK X (yl K):=by subst a;exact wj
theorem oP(a:X.K=K)(b:X.A.units+ 64<C9):iF X (gm .Eq) (ui K):=by subst a;exact wc b
theorem vk(a:X.K=K)(b:X.A.units+ 64<C9):iF X (gm .NotEq) (yj K):=by subst a;exact wx b
theorem ym(a:X.K=K)(b:X.A.units+ 64<C9):iF X (gm .In) (qj K false):=by subst a;exact yP b
theorem nQ(a:X.K=K)(b:X.A.units+ 64<C9):iF X (gm .NotIn) (qj K true):=by subst a;exact sP b
def Ao(K:Yc):List V->Hp->VK->Prop:=λb H Q=>∃p a,b=[.ref p]/\(bw K H p a∨gU K H p a)/\Q (.int a.length) H
theorem b9(a:X.K=K):cY X (.builtin "len") (Ao K):=by subst a;exact oa
def pW(K:Yc):List V->Hp->VK->Prop:=λb H Q=>∃p a,b=[.ref p]/\((bw K H p a/\∀l,H l=Yb->Q (.ref l) (upd H l (.tup a)))∨(gU K H p a/\Q (.ref p) H))
theorem j8(a:X.K=K):cY X (.type "tuple") (pW K):=by subst a;exact mD
def Bj(K:Yc):List V->Hp->VK->Prop:=λa H Q=>∃(x:V) (t:Yd) (T:String) (b:Bool),a=[x,.ty T]/\iG K H x t/\mr K t (.type T)=Ya b/\Q (.bl b) H
theorem jQ(a:X.K=K):cY X (.builtin "isinstance") (Bj K):=by subst a;exact oW
theorem jb{b l:YN}{a:TE}(c:X.K=K)(d:PE X l a):PI X b l (uk K a):=by subst c;exact wy d
theorem uh{x:Yg}{pos:CW}{t:TE}(a:X.K=K)(h:PE X (.Name x pos) t):PT X (.Name x pos) (yq K t):=by
 subst a;exact pq h λ_=>rfl
theorem lN{o e:YN}{to:TE}{t:TA}{a b:CW}(c:X.K=K)(h:PE X (.Call (.Attribute o "append" a) [e] [] b) (yC X.K "list" jD to t)):PE X (.Call (.Attribute o "append" a) [e] [] b) (yC K "list" jD to t):=by subst c;exact h
end
section
variable{σ:St}{H:Hp}{Q:VK}{K:Yc}
theorem wo{a:Yf}{xs:List V}(hd:bw K H a xs)(h:∀p b,H p=Yb->aX H b->b p=Ya (.tup xs)->Q (.ref p) b):pW K [.ref a] H Q:=⟨a,xs,rfl,.inl ⟨hd,λp c=>h p _ c (aZ c) aI⟩⟩
end
theorem eR{α:Type}{a:List α}{i:Nat}{n:α}(h:a[i]?=Ya n):a.take (i+ 1)=a.take i++[n]:=by
 rw[List.take_succ,h];rfl
theorem qV{α:Type}{xs:List α}{i:Int}{v:α}(h0:0<=i)(h:xs[i.toNat]?=Ya v):dC xs i=Ya v:=by
 obtain⟨n,rfl⟩:=ES h0;exact av h
def uC(H c:Hp):Prop:=∀a b,H a=Ya (.tup b)->c a=Ya (.tup b)
theorem uC.trans{c d e:Hp}(a:uC c d)(b:uC d e):uC c e:=λ_ _ h=>b _ _ (a _ _ h)
theorem uC.same{H a:Hp}(e:aX H a):uC H a:=λ_ _ h=>e _ _ h
theorem uC.but{H b:Hp}{l:Yf}{o:HO}(e:qw l H b)(h:H l=Ya o)(n:∀xs,o≠.tup xs):uC H b:=λa xs z=>e.of h z (Ne.symm (n xs))
section
variable{σ:St}{H:Hp}{Q:VK}{K:Yc}{X:Cx}
theorem vP{a:Yf}{xs:List V}(hd:bw K H a xs∨gU K H a xs)(h:Q (.int xs.length) H):Ao K [.ref a] H Q:=⟨a,xs,rfl,hd,h⟩
end
theorem uf{P:Prop}(h:P):V.non=V.non/\P:=⟨rfl,h⟩
section
variable{X:Cx}{CX:vz}{k:Nat}{f C:Yf}{fd:YA}{ps:List Yg}{sp:Sp}{Zo:List V}{ds:List Yd}{E:XK}{x m:Yg}{p pos Zi:CW}{e o:YN}{es:List YN}{ta:TE}{t:TA}
structure vj(K:Yc)(C:Yf)(m:Yg)(f:Yf):Prop where
 ga:Eu K (.ref C) "__getattribute__"=Ya (Ya (.builtin "type.__getattribute__"))
 rd:PySem.W.readsIn K C (.type "type")=true
 at_:PySem.W.findCls K (.ref C) (.type "type") m=Ya (.val (.ref f))
 hd:EI (.ref f)=true
 kp:Ci K (.ref f)=true
theorem uS{pl:Fe Bool}(w:Gl X x)(hm:X.mg x=Ya (.ref C))(c:vj X.K C m f)(F:aP X.prog X.w X.K X.mg X.base cT k f fd ps sp)(hb:Binds X.K fd ps [])(y:ck k X.A)(ha:PA X (e::es) t)
  (a:(x==("__debug__":Yg))=false:=by decide)
  (b:YE (e::es) X.env=(false,dk e X.env)::YE es X.env:=by rfl) (d:(BX pos (YE es X.env)).any (·.1)=false:=by rfl)
  (z:dk (.Call (.Attribute (.Name x p) m Zi) (e::es) [] pos) X.env=(do
   let ov←dk (.Name x p) X.env
   F3 Zi.atName
   let (f,first)←DF [ov] (FT ov m pl)
   callWith pos f first (BX pos (YE (e::es) X.env)) (Hr pos (Gn [] X.env))):=by rfl):
  PE X (.Call (.Attribute (.Name x p) m Zi) (e::es) [] pos) (m3 sp [] E0 t):=by
 intro l s σ H Q I h;refine Fo (pl:=pl) (bQ (cW (v:=.ref C) w hm rfl a l s σ H (λv g=>v=.ref C/\t σ g λi n=>sp (i++[]) n Q E0) I ⟨rfl,h⟩) λu G A=>?_) z;obtain⟨x,g,j,B,ex,q⟩:=A;subst ex;obtain rfl:u=YZ C:=B;refine PySem.W.method_cls j.kIn c.ga (PySem.W.cls_value j.kIn c.rd c.at_ c.hd ?_);refine Dh (first:=[]) (h₀:=X.base) I.ok.mod.kin c.kp (bQ (ha pos l _ σ g _ (j.tok _) q) λD J ⟨i,n,o,r,E⟩=>⟨o.kIn,?_⟩) b d;exact qA (us:=D) (vs:=i) F y hb .nil mR o r E
def qW(P:YB)(w:YG)(K:Yc)(mg:Yg->Option Yd)(base:YF)(k:Nat)(m:Yg)(c:List (Yf×Sp)):Prop:=
 ∀a∈c,∃f fd b,qO K a.1/\iE K a.1 m f/\aP P w K mg base cT k f fd b a.2/\Binds K fd b []
theorem qW.nil{P:YB}{w:YG}{K:Yc}{mg:Yg->Option Yd}{base:YF}:qW P w K mg base k m []:=λ_ h=>nomatch h
theorem qW.cons{P:YB}{w:YG}{K:Yc}{mg:Yg->Option Yd}{base:YF}{a:List (Yf×Sp)}(c:qO K C)(hm:iE K C m f)(F:aP P w K mg base cT k f fd ps sp)(hb:Binds K fd ps [])(r:qW P w K mg base k m a):qW P w K mg base k m ((C,sp)::a):=by
 intro b h;rcases YK.mp h with rfl|h
 ·exact⟨f,fd,ps,c,hm,F,hb⟩
 ·exact r b h
def zU(c:List (Yf×Sp))(m:Yg)(t:TA)(σ:St)(x:V)(H:Hp)(Q:VK):Prop:=
 ∃b∈c,∃a d fs,x=.ref a/\H a=Ya (.ins b.1 d fs)/\fs.lookup m=Yb/\t σ H λe f=>b.2 (x::(e++[])) f Q E0
def vA(a:List (Yf×Sp))(m:Yg)(b:TE)(t:TA):TE:=λσ H Q=>b σ H λx c=>zU a m t σ x c Q
theorem nq{pl:Fe Bool}{e:List (Yf×Sp)}(M:qW X.prog X.w X.K X.mg X.base k m e)(g:PE X o ta)(i:ck k X.A)
  (j:dk (.Call (.Attribute o m Zi) [] [] pos) X.env=(do
   let ov←dk o X.env
   F3 Zi.atName
   let (f,first)←DF [ov] (FT ov m pl)
   callWith pos f first (BX pos (YE [] X.env)) (Hr pos (Gn [] X.env))):=by rfl):
  PE X (.Call (.Attribute o m Zi) [] [] pos) (vA e m ta pL):=by
 intro n s σ H Q I h;refine Fo (pl:=pl) (bQ (g n s σ H _ I h) λu w p=>?_) j;obtain⟨x,y,b,r,t,d,a,z,fs,ex,v,l,q⟩:=p;subst ex;obtain rfl:u=YZ a:=r;obtain⟨f,fd,A,c,hm,F,hb⟩:=M t d;refine qq b v c hm l ?_;exact PySem.W.callWith_K0 (first:=[.ref a]) b.kIn hm.kp (qA (us:=[.ref a]) (vs:=[.ref a]) F i hb .nil mR b (.cons rfl .nil) q)
end
section
variable{X:Cx}{K:Yc}
theorem jA{e:YN}{a:TE}{f:Yg}{pos:CW}(b:X.K=K)(c:PE X e a)(hb:Ej e f X.env (dk e X.env)=dk e X.env):PE X (.Attribute e f pos) (yy K a f):=by subst b;exact yk c hb
theorem jy{o a:YN}{b c:TE}{f:Yg}{pos d:CW}(e:X.K=K)(ha:PE X o b)(g:PE X a c)(h:EX a (Ya (.Attribute o f d)) pos.line X.env=pure false):PS X (.Assign [.Attribute o f d] a pos) (tZ K b c f):=by subst e;exact yO ha g h
end
section
variable{D:fU}{σ:St}{H:Hp}{Q:VK}{K:Yc}
def AH(K:Yc)(f:Yg)(x:V)(H:Hp)(Q:VK):Prop:=∃a C b fs v,x=.ref a/\H a=Ya (.ins C b fs)/\qO K C/\cF K C f/\fs.lookup f=Ya v/\Q v H
theorem Ak{a:TE}{f:Yg}(h:a σ H λx b=>AH K f x b Q):yy K a f σ H Q:=h
theorem yD{f:Yg}{a C b:Yf}{fs:List (Yg×V)}{v:V}(e:H a=Ya (.ins C b fs))(c:qO K C)(n:cF K C f)(l:fs.lookup f=Ya v)(h:Q v H):AH K f (.ref a) H Q:=⟨a,C,b,fs,v,rfl,e,c,n,l,h⟩
def Bv(K:Yc)(f:Yg)(y x:V)(H:Hp)(R:Hp->Prop):Prop:=∃a C b fs,x=.ref a/\H a=Ya (.ins C b fs)/\qO K C/\cF K C f/\fs.length<1000/\R (upd H a (.ins C b (dq f y fs)))
theorem x4{a b:TE}{f:Yg}(h:b σ H λy c=>a σ c λx d=>Bv K f y x d λe=>D.nx σ e):tZ K a b f D σ H:=h
theorem zE{f:Yg}{y:V}{a C b:Yf}{fs:List (Yg×V)}{R:Hp->Prop}(e:H a=Ya (.ins C b fs))(c:qO K C)(n:cF K C f)(g:fs.length<1000)(h:∀d,qw a H d->d a=Ya (.ins C b (dq f y fs))->R d):Bv K f y (.ref a) H R:=⟨a,C,b,fs,rfl,e,c,n,g,h _ .upd aI⟩
theorem vU{a:List (Yf×Sp)}{m:Yg}{b:TE}{t:TA}(h:b σ H λx c=>zU a m t σ x c Q):vA a m b t σ H Q:=h
theorem qf{c:List (Yf×Sp)}{m:Yg}{t:TA}{C a b:Yf}{sp:Sp}{fs:List (Yg×V)}(e:H a=Ya (.ins C b fs))(l:fs.lookup m=Yb)(h:t σ H λvs d=>sp (.ref a::(vs++[])) d Q E0):zU ((C,sp)::c) m t σ (.ref a) H Q:=
 ⟨(C,sp),YL,a,b,fs,rfl,e,l,h⟩
theorem qp{a:List (Yf×Sp)}{m:Yg}{t:TA}{b:Yf×Sp}{x:V}(h:zU a m t σ x H Q):zU (b::a) m t σ x H Q:=by
 obtain⟨c,h1,h2⟩:=h;exact⟨c,Yw _ h1,h2⟩
def BA(C:Yf)(sp:Sp)(vs:List V)(H:Hp)(Q:VK):Prop:=∀x a,H x=Yb->H a=Yb->a≠x->sp (.ref x::(vs++[])) (upd (upd H a (.own x)) x (.ins C a [])) (λv b=>v=.non/\Q (.ref x) b) E0
theorem y3{C:Yf}{sp:Sp}{t:TA}(h:t σ H λvs a=>BA C sp vs a Q):xp C sp [] E0 t σ H Q:=h
theorem A1{C:Yf}{sp:Sp}{vs:List V}(h:∀x a c,H x=Yb->aX H c->c x=Ya (.ins C a [])->sp (.ref x::(vs++[])) c (λv f=>v=.non/\Q (.ref x) f) E0):BA C sp vs H Q:=by
 intro x a nx d g;refine h x a _ nx (λb o e=>?_) aI;rw[aR (aW e nx),aR (aW e d)];exact e
end
theorem AZ{f b c:St->Hp->Prop}{r:VK}{σ:St}{H:Hp}(h:f σ H):fU.nx ⟨f,r,b,c⟩ σ H:=h
theorem Ay{σ:St}{H:Hp}{R:Bool->Hp->Prop}(h:R true H):AA σ H R:=h
theorem yX{g:TG}{d:TT}{e:TE}{D:Yf}{N:St->Hp->Prop}{x:V}{σ:St}{H:Hp}(h:g x σ H λa j=>d a j λb f=>if b=true then e a f λy i=>∃c,i D=Ya (.lst c)/\c.length<Yp/\N a (upd i D (.lst (c++[y])))else N a f):iX g d e D N x σ H:=h
theorem xV{D:fU}{σ:St}{H:Hp}{c:TT}{u:TS}(h:c σ H λb a=>if b=true then False else u D σ a):jh (vM c tY rE) u D σ H:=h
noncomputable def v9:List Int:=(Dq 63).map fun(h:Nat)=>(h:Int)
theorem yg{k:Int}:k∈v9↔0<=k/\k<63:=by
 unfold v9;rw[CM];constructor
 ·rintro⟨n,hn,rfl⟩;have:=CK.mp hn;omega
 ·rintro⟨h0,h1⟩;exact⟨k.toNat,CK.mpr (by omega),by omega⟩
theorem vn{α:Type}[DecidableEq α]:∀{l m:List α},l.Nodup->(∀x∈l,x∈m)->l.length<=m.length
 |[],m,_,_=>kx _
 |x::l,m,nd,sub=>by
  rw[CB]at nd;have b:=sub x YL;have c:=Fz b;have:=vn (l:=l) (m:=m.erase x) nd.2 λy a=>(FA (show y≠x from λz=>nd.1 (z▸a))).mpr (sub y (Yw _ a));have q:=c.length_eq;rw[YJ]at q⊢;omega
theorem yd{l:List Int}(nd:l.Nodup)(h:∀k∈l,0<=k/\k<63):l.length<64:=by
 have:=vn nd (m:=v9) λk a=>yg.mpr (h k a);unfold v9 at this;rw[Yn,Ce]at this;omega
noncomputable def sR(n c k w a:V):List (Yg×V):=[("number",n),("caller",c),("count",k),("word",w),("causes",a)]
theorem v7(n c k w d:V):dq "causes" d (dq "word" w (dq "count" k (dq "caller" c (dq "number" n []))))=sR n c k w d:=by
 have e:∀(a b:Yg),decide (a=b)=false->a≠b:=λa b h=>of_decide_eq_false h;simp only[dq,sR,if_neg (e "number" "caller" (by decide +kernel)),if_neg (e "number" "count" (by decide +kernel)),if_neg (e "caller" "count" (by decide +kernel)),if_neg (e "number" "word" (by decide +kernel)),if_neg (e "caller" "word" (by decide +kernel)),if_neg (e "count" "word" (by decide +kernel)),if_neg (e "number" "causes" (by decide +kernel)),if_neg (e "caller" "causes" (by decide +kernel)),if_neg (e "count" "causes" (by decide +kernel)),if_neg (e "word" "causes" (by decide +kernel))]
theorem qr{n c k w a:V}:(sR n c k w a).lookup ("number":Yg)=Ya n:=by kernel_rfl
theorem qg{n c k w a:V}:(sR n c k w a).lookup ("caller":Yg)=Ya c:=by kernel_rfl
theorem rS{n c k w a:V}:(sR n c k w a).lookup ("count":Yg)=Ya k:=by kernel_rfl
theorem uU{n c k w a:V}:(sR n c k w a).lookup ("word":Yg)=Ya w:=by kernel_rfl
theorem qQ{n c k w a:V}:(sR n c k w a).lookup ("causes":Yg)=Ya a:=by kernel_rfl
theorem uG{n c k w a:V}:(sR n c k w a).lookup ("kind":Yg)=none:=by kernel_rfl
theorem tX{n c k w a:V}:(sR n c k w a).lookup ("told":Yg)=none:=by kernel_rfl
theorem wF{K:Yc}{H:Hp}{Q:VK}{a:Yf}{kd:Yg}(h:kd="own"∨kd="heard"∨kd="one")(ha:gU K H a [.str "own",.str "heard",.str "one"])(q:Q (.bl false) H):qj K true (.str kd) (.ref a) H Q:=by
 refine⟨a,_,_,_,rfl,.inr ha,.cons (.str _) (.cons (.str _) (.cons (.str _) .nil)),.str kd,by kernel_rfl,?_,by show 0<=60;decide,?_⟩
 ·rcases h with rfl|rfl|rfl<;>kernel_rfl
 ·have e:(([.str "own",.str "heard",.str "one"]:List Ct).any λz=>z.eqv (.str kd))=true:=by rcases h with rfl|rfl|rfl<;>kernel_rfl
  show Q (.bl (!_)) H;rw[e];exact q
theorem z3:decide (("heard":Yg)="own")=false:=by decide +kernel
theorem Ae:decide (("one":Yg)="own")=false:=by decide +kernel
theorem zS:decide (("one":Yg)="heard")=false:=by decide +kernel
theorem AF:decide (("own":Yg)="own")=true:=by decide +kernel
theorem Ag:decide (("heard":Yg)="heard")=true:=by decide +kernel
theorem AR(x y z:Yg)(c:Int):∃v:Yg,dC [V.str x,V.str y,V.str z] (c%3)=Ya (.str v)/\(v=x∨v=y∨v=z):=by
 have h1:=GW c (show(3:Int)≠0 by decide);have h2:=FX c (show(0:Int)<3 by decide);rcases(by omega:c%3=0∨c%3=1∨c%3=2)with h|h|h
 ·exact⟨x,by rw[h];exact av (j:=0) rfl,.inl rfl⟩
 ·exact⟨y,by rw[h];exact av (j:=1) rfl,.inr (.inl rfl)⟩
 ·exact⟨z,by rw[h];exact av (j:=2) rfl,.inr (.inr rfl)⟩
noncomputable def rY(p:Int×Int):Ct:=.tuple [.int p.1,.int p.2]
theorem kK.dps{K:Yc}{H:Hp}:∀{xs:List V} {b:List (Int×Int)},kK H xs b->rG K H xs (b.map rY)
 |_,_,.nil=>.nil
 |_,_,.cons r t=>by
  obtain⟨a,rfl,h⟩:=r;exact .cons (.tup (gU.of h) (.cons (.int _) (.cons (.int _) .nil))) (kK.dps t)
theorem kW:∀a:List (Int×Int),Cf (a.map rY)=true
 |[]=>rfl
 |p::a=>by rw[Cd,YU,kW a];rfl
theorem rj:∀a:List (Int×Int),xt (a.map rY)<=1
 |[]=>by rw[FU,PyData.depthAll.eq_1];omega
 |p::a=>by
  have e:xt ((p::a).map rY)=max (rY p).depth (xt (a.map rY)):=rfl;rw[e];have:=rj a;have:(rY p).depth=1:=rfl;omega
theorem wz{K:Yc}{H:Hp}{Q:VK}{a b:Yf}{xs:List V}{c:List Ct}(ha:bw K H a xs)(f:rG K H xs c)(g:Cf c=true)(hb:bw K H b [])(q:Q (.bl (!decide (c=[]))) H):yj K (.ref a) (.ref b) H Q:=by
 refine⟨.list c,.list [],.inr ⟨_,_,_,rfl,rfl,ha,f⟩,.inr ⟨_,_,_,rfl,rfl,hb,.nil⟩,by rw[DZ];exact g,rfl,by have:(Gq []).depth=1:=rfl;omega,?_⟩;have e:(Gq c).eqv (.list [])=decide (c=[]):=by
  cases c with
  |nil=>rfl
  |cons d c=>rw[decide_eq_false (by intro z;cases z)];rfl
 rw[e];exact q
structure fq(K:Yc)(C:Yf):Prop where
 cl:qO K C
 n1:cF K C "number"
 n2:cF K C "caller"
 n3:cF K C "count"
 n4:cF K C "word"
 n5:cF K C "causes"
section
variable{X:Cx}
end
section
variable{D:fU}{σ:St}{H:Hp}{Q:VK}
end
section
variable{X:Cx}
end
section
variable{X:Cx}
end
section
variable{X:Cx}
end
section
variable{X:Cx}
end
end L2
namespace GX
open PySem
section
variable{prog:YB}{w:YG}{A:Y2}{E:Yd->Yh->Prop}{s:Yh}{K:Type}[DecidableEq K]{Zu:EH prog w K}
end
end GX
namespace L2
open PySem PySem.Spec PyProof.Rows
variable{v:V}{H:Hp}
section
variable{X:Cx}
end
theorem xU{to a:TE}{t:wt}{σ:St}{Q:St->Hp->Prop}(h:to σ H λo b=>a σ b λi c=>t o i v c λd=>Q σ d):zY to a t v σ H Q:=h
theorem xT{p:Yf}{xs:List V}{k:Int}{j:Nat}{Q:Hp->Prop}(b:H p=Ya (.lst xs))(hk:tM xs.length k=Ya j)(h:∀a,qw p H a->a p=Ya (.lst (xs.set j v))->Q a):xu (.ref p) (.int k) v H Q:=
 ⟨p,xs,k,j,rfl,rfl,b,hk,h _ .upd aI⟩
end L2
namespace GX
open PySem PyProof.Rows
end GX
namespace L2
open PySem PySem.Spec PyProof.Rows
section
variable{X:Cx}
end
end L2
namespace HT
open PySem PyProof.Rows
section
open PySem.SeqAt
open PySem.AutoSeq1 (wpAny_loadPart')
open PySem.MeetsSeq PySem.MeetsSeq2 PySem.MeetsSeq3
end
section
variable{prog:YB}{w:YG}{A:Y2}{E:Yd->Yh->Prop}{s:Yh}
end
end HT
namespace L2
open PySem PySem.Spec PyProof.Rows
section
variable{X:Cx}
end
section
variable{me hd ba ye vo re ag v:V}
end
end L2
namespace GX
open PySem PyProof.Rows
variable{prog:YB}{w:YG}{A:Y2}
section
variable{R:Dv->Yh->Prop}{I d:Yf}{fp wr:List Yf}{n:Nat}{P:Nat->Yd->Prop}{St:Nat->YF->Prop}{K:Type}[DecidableEq K]{Zu:EH prog w K}
end
section
variable{E:Yd->Yh->Prop}{s:Yh}{K:Type}[DecidableEq K]{Zu:EH prog w K}
end
end GX
namespace L2
open PySem PySem.Spec PyProof.Rows
variable{X:Cx}{Za:List (Yf×Y1)}{σ:St}{H:Hp}{s:Yh}{f:Yf}{xs:List V}{Zc:List Yd}{ks:List (List Int)}{k:Nat}{fd:YA}{ps:List Yg}{sp:Sp}{prog:YB}{w:YG}{A:Y2}{E:Yd->Yh->Prop}
section
end
section
end
section
variable{l:Yf}
end
section
end
section
end
section
variable{n:Nat}(hn:0<n)
include hn
end
section
end
section
end
section
variable{H0:Hp}{h':YF}
end
section
variable{D:Yf}
end
section
end
section
end
section
end
section
variable{K:Yc}
theorem w8{o e:YN}{to:TE}{t:TA}{a b:CW}(c:X.K=K)(h:PE X (.Call (.Attribute o "pop" a) [e] [] b) (yC X.K "list" qG to t)):PE X (.Call (.Attribute o "pop" a) [e] [] b) (yC K "list" qG to t):=by subst c;exact h
end
end L2
namespace GX
open PySem PySem.Spec PyProof.Rows
variable{prog:YB}{w:YG}{A:Y2}{s:Yh}{E:Yd->Yh->Prop}{it d:Yf}
section
variable{l:Yf}
end
section
variable{v:Yf}{es:Array Hb}{i ep:Nat}
end
section
variable{K:Type}[DecidableEq K]{Zu:HeapKind prog w K}{a:Yf}{xs:List (K×Yf×Yd)}{k:K}{j:Nat}{p:Yf×Yd}
end
end GX
namespace L2
open PySem PySem.Spec PyProof.Rows
variable{X:Cx}{w:YG}{A:Y2}{E:Yd->Yh->Prop}{s s':Yh}{Za:List (Yf×Y1)}{σ:St}{H H':Hp}{D f C:Yf}{k i:Nat}{ps N:List Yg}{P:YB}{h h' base B:YF}{CX:vz}{mg:Yg->Option Yd}{Zb x n:Yg}{scope:Cg}{cd:Yd}{cl:List (Yg×Yf)}{outer:List BW}{us:List Yd}{vs Zr:List V}{pos np:CW}{es:List YN}{t:TA}{ix:List Nat}{Ze:String}{M:GF}
section
variable{tg:YN}
end
section
end
section
end
section
end
section
variable(ky:Nat->Int)
variable{ky}{n:Nat}(hn:0<n)
end
section
variable{prog:YB}
end
section
variable{xs:List V}{Zc:List Yd}{ks:List (List Int)}{fd:YA}{sp:Sp}
end
section
end
section
end
section
variable{cs fs:List Yf}
end
section
variable{K:Yc}{E:XK}
end
section
end
section
end
section
variable{K:Yc}
end
section
end
section
variable{K:Yc}
end
section
end
section
variable{me hd ba ye vo re ag:V}
end
section
variable{m:Yg}{Zi:CW}{e o:YN}{ta:TE}
end
section
variable{Q:VK}
end
section
end
section
variable{K:Yc}{E:XK}
end
section
variable{K:Yc}
end
section
variable{K:Yc}
end
def bC(P:YB)(w:YG):vz:=λouter H s E e s'=>∃(c C:Yf) (d:Yd) (B:YF) (a:Hp),e=.ref c/\s'.os=s.os/\C1 s'.gens/\Un (cP outer) [] H a s.heap s'.heap/\gS P w a s'.heap/\
 FY B outer c (.ref C) d s'.heap/\(∀b o,s'.heap.get? b=Ya o->b∉cP outer->((∃f,s.heap.get? b=Ya f)∨∃u,a b=Ya u)->B.get? b=Ya o)/\a c=Yb/\E (.ref c) (Ya C) a
theorem bU.at{a:Yf}{o:HO}(x:bU P w H h a o):∃ob,h.get? a=Ya ob:=by
 cases o with
 |lst xs=>obtain⟨_,_,_,_,e⟩:=x;exact⟨_,e⟩
 |tup xs=>obtain⟨_,_,_,ob,e,_⟩:=x;exact⟨_,e⟩
 |dK Zf=>obtain⟨_,_,_,_,o,_,_,e,_⟩:=x;exact⟨_,e⟩
 |dT Zf=>obtain⟨_,_,_,_,o,_,_,e,_⟩:=x;exact⟨_,e⟩
 |set S n=>obtain⟨o,_,_,_,e,_⟩:=x;exact⟨_,e⟩
 |ins C dx fs=>obtain⟨_,_,_,e,_⟩:=x;exact⟨_,e⟩
 |own _=>exact x
 |xd fs=>obtain⟨_,⟨o,_,_,e,_⟩,_⟩:=x;exact⟨_,e⟩
 |rng lo hi=>obtain⟨_,_,_,e⟩:=x;exact⟨_,e⟩
 |frz o u=>exact⟨_,x.1⟩
 |tbl ps=>exact⟨_,x⟩
 |met f x'=>exact⟨_,x⟩
 |ext φ=>exact x.2.1
theorem o4{G:Hp}{H:Yh}(I:aC X Za σ G H)(x:X.ex=[])(V:X.prog=P)(hw:X.w=w)(un:Un (cP X.stack) [] G H' H.heap s'.heap)(hok:gS P w H' s'.heap)(J:∀b o,s'.heap.get? b=Ya o->b∉cP X.stack->((∃h,X.s₀.heap.get? b=Ya h)∨∃u,H' b=Ya u)->B.get? b=Ya o)(st:B.StaysIn h')(up:s'.heap.UpToSlots h')(k:X.stack=X.env::X.outer):
  Un (cP X.outer) [] X.H₀ H' X.s₀.heap h'/\gS P w H' h'/\∀b o,h'.get? b=Ya o->b∉cP X.outer->((∃h,X.s₀.heap.get? b=Ya h)∨∃u,H' b=Ya u)->B.get? b=Ya o:=by
 have base:=I.base;rw[x]at base;have l:∀b,b∈cP X.stack->H' b=none:=λb hb=>by
  obtain⟨_,o,N,_⟩:=I.stack.mem hb;exact un.free b o N (I.stkFree b hb) (by simp)
 have m:∀b,b∈cP X.outer->b∈cP X.stack:=λb hb=>by
  rw[k];unfold cP;rw[xf];cases X.env.frame with
  |none=>exact hb
  |some _=>exact Yw _ hb
 have lo:∀b o,X.s₀.heap.get? b=Ya o->b∉cP X.outer->b∉cP X.stack:=λb o e n z=>by
  rcases YK.mp (I.stkSub b z)with q|q
  ·rw[q]at e;exact absurd (Yq e) (EC.mpr I.ok.above)
  ·exact n q
 have f:∀b o,s'.heap.get? b=Ya o->b∈cP X.stack->∃p,h'.get? b=Ya {o with slots:=p}:=λb o e hb=>by
  obtain⟨_,i,y,O⟩:=I.stack.mem hb;obtain⟨p,d⟩:=un.slot b i y (I.stkFree b hb) hb (by simp);rw[e]at d;cases d;exact up b _ e O
 have c:∀b o,s'.heap.get? b=Ya o->b∉cP X.stack->((∃h,X.s₀.heap.get? b=Ya h)∨∃u,H' b=Ya u)->h'.get? b=Ya o:=λb o e n r=>st b o (J b o e n r);refine⟨⟨λb o e n g _=>?_,λb o e n g _=>?_,λb o e n _=>?_,λb o e _=>?_,λb K e=>un.tups b K (base.tups b K e),λb o u e=>un.frzs b o u (base.frzs b o u e),λb Q e=>?_⟩,λa u e=>?_,λb o e g r=>?_⟩
 ·have d:=base.keep b o e n g (by simp);have ns:=lo b o e g;exact c b o (un.keep b o d (base.free b o e n (by simp)) ns (by simp)) ns (.inl ⟨o,e⟩)
 ·obtain⟨p,d⟩:=base.slot b o e n g (by simp);obtain⟨R,j⟩:=un.slot b _ d (base.free b o e n (by simp)) (m b g) (by simp);obtain⟨A,C⟩:=f b _ j (m b g);exact⟨A,C⟩
 ·obtain⟨i,d⟩:=base.there b o e (by simp);exact un.free b i d (base.free b o e n (by simp)) (by simp)
 ·obtain⟨i,d⟩:=base.there b o e (by simp);obtain⟨D,j⟩:=un.there b i d (by simp);by_cases g:b∈cP X.stack
  ·obtain⟨p,C⟩:=f b D j g;exact⟨_,C⟩
  ·exact⟨D,c b D j g (.inl ⟨o,e⟩)⟩
 ·obtain⟨S,d⟩:=base.tbls b Q e;obtain⟨T,j⟩:=un.tbls b _ d;exact⟨S++T,by rw[j,D9]⟩
 ·refine(hok a u e).stay (λb o hb q=>?_) (λ_ q=>q) λ_ _ q=>q;have tr:∃v,H' b=Ya v:=by
   rcases hb with z|z
   ·exact⟨u,z▸e⟩
   ·exact⟨_,z⟩
  refine c b o q (λz=>?_) (.inr tr);obtain⟨v,L⟩:=tr;rw[l b z]at L;cases L
 ·have E:∃s,s'.heap.get? b=Ya s:=by
   rcases r with⟨h,F⟩|⟨u,t⟩
   ·obtain⟨i,d⟩:=base.there b h F (by simp);exact un.there b i d (by simp)
   ·exact(hok b u t).at
  obtain⟨s,U⟩:=E;have ns:b∉cP X.stack:=λz=>by
   rcases r with⟨h,F⟩|⟨u,t⟩
   ·exact lo b h F g z
   ·rw[l b z]at t;cases t
  have M:=J b s U ns r;rw[st b s M]at e;cases e;exact M
section
variable{K:Yc}{E:XK}
theorem AB:iD (bC P w) (aU (bC P w) P w K mg base N Zb scope f cd A outer s H E) E:=by
 intro v σ x y e s' I h;obtain⟨c,C,d,B,g,rfl,os,i,un,hok,j,k,hn,q⟩:=h;refine wpAny_leaves_onW I.ok.frames rfl j λD a up=>?_;obtain⟨l,m,p⟩:=o4 I rfl rfl rfl un hok (λb o e n r=>k b o e n (r.imp (fun⟨t,u⟩=>I.base.there b t u (by intro z;cases z)) id)) a.1 up rfl;exact⟨c,C,d,B,g,rfl,os.trans I.os,i,l,m,a,p,hn,q⟩
def qk(C:Yf)(E:XK)(t:TA):TS:=λ_ σ H=>t σ H λc a=>c.length<=Yp/\∀b,a b=Yb->E (.ref b) (Ya C) a
def qL(K:Yc)(C N:Yf)(up:List Yd)(c:String):Prop:=∃d e bs a f sub g b h i j k l m,K.lookup C=Ya (Dy d e C N bs up a f sub g b h i j k l m c)
theorem qL.mk{K:Yc}{N:Yf}{up:List Yd}{nm a bs hdct sn sub ab col dd k0 k1 k2 k3 k5}(h:K.lookup C=Ya (Dy nm a C N bs up hdct sn sub ab col dd k0 k1 k2 k3 k5 Ze)):qL K C N up Ze:=⟨_,_,_,_,_,_,_,_,_,_,_,_,_,_,h⟩
def yh(K:Yc)(C:Yf)(a:List Yd)(b:String):Prop:=∃N up,qL K C N up b/\PySem.W.tailIn K a up=true/\PySem.W.nsOkIn K N=true/\Hy K N "__init__"=Ya Yb
def qx(K:Yc)(C D:Yf):Prop:=∃N up a,qL K C N up a/\up.contains (.type "BaseException")=true/\(YZ C::up).contains (.ref D)=true
theorem bZ{W Y:String}{y:List Yd}{p:CW}{d:YN}(F:ExcBaseFacts W Ze Y y)(hb:y.contains (.type "BaseException")=true)(g:yh K C y Ze)(Z:Gl (aU (bC P w) P w K mg base N Zb scope f cd A outer s H E) x)(hm:mg x=Ya (.ref C))(ha:PA (aU (bC P w) P w K mg base N Zb scope f cd A outer s H E) (d::es) t)(B:(x==("__debug__":Yg))=false:=by decide)(k:YE (d::es) (aU (bC P w) P w K mg base N Zb scope f cd A outer s H E).env=(false,dk d (aU (bC P w) P w K mg base N Zb scope f cd A outer s H E).env)::YE es (aU (bC P w) P w K mg base N Zb scope f cd A outer s H E).env:=by rfl)(G:(BX p (YE es (aU (bC P w) P w K mg base N Zb scope f cd A outer s H E).env)).any (·.1)=false:=by rfl):
  PS (aU (bC P w) P w K mg base N Zb scope f cd A outer s H E) (.Raise (Ya (.Call (.Name x np) (d::es) [] p)) Yb pos) (qk C E t):=by
 intro Za s1 σ H1 D I h;obtain⟨Nn,up,⟨nm,qn,bs,l,sn,sub,ab,J,dd,k0,k1,k2,k3,k5,lk⟩,ht,hok,L⟩:=g;have X:=I.mod.kin;have hC:=X C _ lk;have T:=PySem.W.tail_of_in X ht;have hN:=Heap.Ns.of_isNs (PySem.W.isNs_of_in X hok);have M:=PySem.W.nsMap_none_of_in X hok L;refine wpAny_Raise_call_subT (C:=C) (N:=Nn) (nm:=nm) (q:=qn) (bs:=bs) (bm:=up) (hdct:=l) (sn:=sn) (sub:=sub) (ab:=ab) (col:=J) (dd:=dd) (k0:=k0) (k1:=k1) (k2:=k2) (k3:=k3) (k5:=k5) F (T.hasType hb) (I.ok.hd rfl) (by rw[k];show(false||(BX p (YE es _)).any (·.1))=false;rw[G];rfl) M (gL I Z hm ⟨rfl,?_⟩ B);rw[k];refine Fv ?_;have Q:=ha p Za s1 σ H1 _ I h;rw[k]at Q;refine bQ Q λus j zz=>?_;obtain⟨vs,v,c,r,hl,q⟩:=zz;refine⟨rfl,by rw[←r.length];exact hl,c.bk _ _ hC,hN.keeps c.bk,T.keeps c.bk,λR e g=>?_⟩;refine wpAny_leaves_madeW (base:=kv j.heap (cP (aU (bC P w) P w K mg base N Zb scope f cd A outer s H E).stack)) (h:=j.heap) c.ok.frames rfl (λb o q=>D8 _ q) (PySem.W.funFrames_hide c.stack (λenv k a hf=>Ec.mpr ⟨env,k,hf⟩)) g λac t S tup tn O=>?_;have hB:∀b o,R.get? b=Ya o->b∉cP (aU (bC P w) P w K mg base N Zb scope f cd A outer s H E).stack->((∃i,j.heap.get? b=Ya i)∨∃u,v b=Ya u)->(kv j.heap (cP (aU (bC P w) P w K mg base N Zb scope f cd A outer s H E).stack)).get? b=Ya o:=λb o U nb r1=>by
  obtain⟨i,d⟩:∃i,j.heap.get? b=Ya i:=by
   rcases r1 with z|⟨u,hu⟩
   ·exact z
   ·exact(c.hok b u hu).at
  rw[g.keeps b i d]at U;cases U;exact C4 _ d nb
 have m:v e=none:=by
  cases z:v e with
  |none=>rfl
  |some u=>
   obtain⟨ob,V⟩:=(c.hok e u z).at
   rw[g.new]at V;cases V
 obtain⟨u1,u2,u3⟩:=o4 (s':={j with heap:=R}) c rfl rfl rfl (Un.kept g.keeps) (c.hok.kept g.keeps) (λb o e n r=>hB b o e n (r.imp (fun⟨i,d⟩=>c.base.there b i d (by intro z;cases z)) id)) S.1 O rfl;exact⟨e,C,.ref t,_,v,rfl,c.os,c.bare,u1,u2,S,u3,m,q e m⟩
end
def BL(a C:Yf):YF->Prop:=λh=>∃o,h.get? a=Ya o/\o.cls=.ref C
noncomputable abbrev xO(a C:Yf):HO:=.ext (BL a C)
section
variable{h2:YF}{ea:Yf}{a0:Yd}
theorem pV(I:aC X Za σ H s)(os:s'.os=s.os)(K:C1 s'.gens)(un:Un (cP X.stack) [] H H' s.heap s'.heap)(hok:gS X.prog X.w H' s'.heap)(A:FY B X.stack ea (.ref C) a0 s'.heap)
  (D:∀b o,s'.heap.get? b=Ya o->b∉cP X.stack->((∃m,s.heap.get? b=Ya m)∨∃u,H' b=Ya u)->B.get? b=Ya o) (hn:H' ea=Yb) (i:FY B X.stack ea (.ref C) a0 h2) (up:s'.heap.UpToSlots h2):
  aC X Za σ (upd H' ea (xO ea C)) {s' with heap:=h2}:=by
 have st:=i.1;have p:∀b,b∈cP X.stack->H' b=none:=λb hb=>by
  obtain⟨_,o,L,_⟩:=I.stack.mem hb;exact un.free b o L (I.stkFree b hb) (by simp)
 have d:∀b o,s'.heap.get? b=Ya o->b∈cP X.stack->(∀E,o.data≠.fields E)/\∃l,h2.get? b=Ya {o with slots:=l}:=λb o e hb=>by
  obtain⟨_,h,t,F⟩:=I.stack.mem hb;obtain⟨l,c⟩:=un.slot b h t (I.stkFree b hb) hb (by simp);rw[e]at c;cases c;exact⟨F,up b _ e F⟩
 have f:∀b o,s'.heap.get? b=Ya o->b∉cP X.stack->((∃m,s.heap.get? b=Ya m)∨∃u,H' b=Ya u)->h2.get? b=Ya o:=λb o e n r=>st b o (D b o e n r);have ne:∀b o,s.heap.get? b=Ya o->b≠ea:=λb o e z=>by
  subst z;obtain⟨h,c⟩:=un.there b o e (by simp);obtain⟨S,E,j,_,M,_⟩:=A.first;rw[c]at j;cases j;by_cases g:b∈cP X.stack
  ·exact(d b _ c g).1 _ M
  ·have:=D b _ c g (.inl ⟨o,e⟩);rw[A.2.1]at this;cases this
 have neT:∀{b u},H' b=Ya u->b≠ea:=λe z=>by rw[z,hn]at e;cases e
 refine I.call' (s':={s' with heap:=h2}) (ch:=[]) os ⟨λb o e n g _=>?_,λb o e n g _=>?_,λb o e n _=>?_,λb o e _=>?_,λb G e=>?_,λb o u e=>?_,λb N e=>?_⟩ (λa u e=>?_) K (λb z=>absurd z (by simp))
 ·exact f b o (un.keep b o e n g (by simp)) g (.inl ⟨o,e⟩)
 ·obtain⟨l,c⟩:=un.slot b o e n g (by simp);obtain⟨_,x,y⟩:=d b _ c g;exact⟨x,y⟩
 ·rw[aR (ne b o e)];exact un.free b o e n (by simp)
 ·obtain⟨h,c⟩:=un.there b o e (by simp);by_cases g:b∈cP X.stack
  ·obtain⟨_,l,y⟩:=d b h c g;exact⟨_,y⟩
  ·exact⟨h,f b h c g (.inl ⟨o,e⟩)⟩
 ·have c:=un.tups b G e;rw[aR (neT c)];exact c
 ·have c:=un.frzs b o u e;rw[aR (neT c)];exact c
 ·obtain⟨O,c⟩:=un.tbls b N e;exact⟨O,by rw[aR (neT c)];exact c⟩
 ·by_cases z:a=ea
  ·subst z;rw[aI]at e;cases e;obtain⟨ob,j,P⟩:=i.there;exact⟨⟨ob,j,P⟩,⟨ob,j⟩,λh3 h4 ⟨o,Q,R⟩ k=>⟨o,k o Q,R⟩⟩
  ·rw[aR z]at e;refine(hok a u e).stay (λb o hb q=>?_) (λb q=>by rw[aR (neT q)];exact q) λb G q=>by rw[aR (neT q)];exact q
   have tr:∃v,H' b=Ya v:=by
    rcases hb with w|w
    ·exact⟨u,w▸e⟩
    ·exact⟨_,w⟩
   refine f b o q (λz=>?_) (.inr tr);obtain⟨v,J⟩:=tr;rw[p b z]at J;cases J
end
noncomputable abbrev Cx.hnd(X:Cx)(e:Yd):Cx:={X with A:=X.A.mark (Ya e),calm:=false,xe:=λ_ _=>False}
theorem aC.hnd(I:aC X Za σ H s)(e:Yd):aC (X.hnd e) Za σ H s:=
 ⟨⟨I.ok.mod,I.ok.kind,I.ok.glob,I.ok.blt,I.ok.above,I.ok.inj,I.ok.has,I.ok.cab,(λz=>nomatch z),I.ok.frames,I.ok.stk,I.ok.exf,I.ok.bs,I.ok.bsz,I.ok.noex,I.ok.exfs,I.ok.funs,I.ok.frf⟩,I.os,I.bare,I.base,I.loc,I.cell,I.free,I.freeC,I.pin,I.hok,I.len⟩
theorem aC.unhnd{e:Yd}(ok:X.Ok)(I:aC (X.hnd e) Za σ H s):aC X Za σ H s:=
 ⟨ok,I.os,I.bare,I.base,I.loc,I.cell,I.free,I.freeC,I.pin,I.hok,I.len⟩
section
theorem gA{Q:Unit->Yh->Prop}(I:aC X Za σ H s)(G:X.N.Nodup)(x:X.N[i]?=Ya n)(r:X.env.scope.names.lookup n=Ya .local)(h:∀s',aC X Za (σ.set i Yb) H s'->Q () s'):
  Yj M A (do bindName X.env n .none;unbindBehindTheSuite X.env n pos) Q E s:=by
 refine Ye (wpAny_bindName (jd (v:=.non) I G x (.inl r) rfl (λP a=>?_) (.inr r)));have J:i<σ.length:=by rw[I.len];exact(YY.mp x).1
 obtain⟨m,hn,lo⟩:=id a.loc;obtain⟨u,_,R⟩:=lo i n .non x (CF J) (.inl r);have hm:m n=Ya u:=by
  rcases R with⟨_,z⟩|⟨k,_⟩
  ·exact z
  ·have S:X.env.kindOf n=Ya .local:=r;rw[S]at k;rcases k with z|z<;>cases z
 refine wpAny_onRaise (wpAny_unbindName_local r hn hm (by rw[I.ok.kind];rfl) λT w D f=>?_);obtain⟨oL,_,_,U,_⟩:=id hn;have cne:=a.cne;have g:∀b o,X.s₀.heap.get? b=Ya o->b≠X.env.locals:=λb o e=>YD (Yv (Yq e) I.ok.above);refine h {P with heap:=T} ⟨a.ok,a.os,a.bare,⟨λb o e n hb t=>(f.2 b (g b o e)).trans (a.base.keep b o e n hb t),λb o e n hb t=>?_,a.base.free,λb o e t=>?_,a.base.tups,a.base.frzs,a.base.tbls⟩,⟨_,D,λj y K l B W=>?_⟩,λy c e=>?_,a.free,a.freeC,λp Y=>?_,λb ob e=>?_,by rw[E2];exact I.len⟩
 ·obtain⟨Z,l⟩:=a.base.slot b o e n hb t;exact⟨Z,(f.2 b (g b o e)).trans l⟩
 ·obtain⟨o',l⟩:=a.base.there b o e t;exact⟨o',(f.2 b (g b o e)).trans l⟩
 ·by_cases C:j=i
  ·subst C;rw[CF J]at B;cases B
  ·rw[CS (Ne.symm C)]at B;have F:(σ.set i (Ya V.non))[j]?=Ya (Ya K):=by rw[CS (Ne.symm C)];exact B
   obtain⟨L,r',q⟩:=lo j y K l F W;refine⟨L,r',?_⟩;rcases q with⟨k,e⟩|⟨k,c,e,z⟩
   ·refine .inl ⟨k,?_⟩;have:y≠n:=λe=>C (lC G l (e▸x));show(if y=n then w else m y)=Ya L;rw[if_neg this];exact e
   ·exact .inr ⟨k,c,e,z.sameBut f (cne y c e)⟩
 ·obtain⟨N,z⟩:=a.cell y c e;exact⟨N,z.sameBut f (cne y c e)⟩
 ·obtain⟨e,n,ne,nf,d⟩:=a.pin p Y;exact⟨(f.2 p.1 ne).trans e,n,ne,nf,d⟩
 ·refine(a.hok b ob e).stay (λc N hc q=>(f.2 c λz=>?_).trans q) (λ_ q=>q) λ_ _ q=>q;have O:=a.free;rcases hc with hc|hc
  ·rw[←hc,z,O]at e;cases e
  ·rw[z,O]at hc;cases hc
end
section
theorem sh{g:Array Hm}{d:GD}{t:Nat}{os:OsState}{N v:Yf}{nm q l w:Yg}{bs bm m c:List Yd}{hdct f:Bool}{sn n:List Yg}{sub i:List Yd}{ab o:Bool}{col j:Option Bool}{dd p:Option Yf}{k0 k1 k2 k3 k5 x y z B F:Option Yd}{a:String}{e:Yf}{s:Y1}{b:Bool}{Q:Bool->Yh->Prop}(G:h.get? C=Ya (Dy nm q C N bs bm hdct sn sub ab col dd k0 k1 k2 k3 k5 Ze))(u:h.get? D=Ya (Dy l w D v m c f n i o j p x y z B F a))(H:h.get? e=Ya s)(k:s.cls=.ref C)(r:c.contains (.type "BaseException")=true)(hb:(YZ C::bm).contains (.ref D)=b)(I:Q b ⟨h,g,d,t,os⟩):Yj M A (excMatches (.ref e) (.ref D)) Q E ⟨h,g,d,t,os⟩:=by
 have J:(YZ D::c).contains (.type "BaseException")=true:=by rw[List.contains_cons,r,Bool.or_true]
 have K:=tc_notTuple;unfold excMatches
 repeat(first
  |(with_reducible refine FN u ?_;rw[J])
  |(with_reducible refine FN G ?_;rw[hb])
  |(with_reducible refine Gh H ?_;rw[k])
  |with_reducible refine Gh u ?_
  |wp_step)
 cases b<;>(wp_walk;exact I)
end
noncomputable abbrev Cx.tr(X:Cx)(a:List (Yf×Y1))(b:St->XK):Cx:={X with pn:=X.pn++a,xe:=λe s'=>∃σ H s,aC X a σ H s/\bC X.prog X.w X.stack H s (b σ) e s'}
section
variable{Zl:List (Yf×Y1)}{EE:St->XK}
theorem aC.tr(I:aC X Za σ H s)(a:St->XK):aC (X.tr Za a) [] σ H s:=
 ⟨⟨I.ok.mod,I.ok.kind,I.ok.glob,I.ok.blt,I.ok.above,I.ok.inj,I.ok.has,I.ok.cab,I.ok.hd,I.ok.frames,I.ok.stk,I.ok.exf,I.ok.bs,I.ok.bsz,I.ok.noex,I.ok.exfs,I.ok.funs,I.ok.frf⟩,I.os,I.bare,I.base,I.loc,I.cell,I.free,I.freeC,by rw[Dd];exact I.pin,I.hok,I.len⟩
theorem aC.untr(I:aC (X.tr Za EE) Zl σ H s):aC X Za σ H s:=
 ⟨⟨I.ok.mod,I.ok.kind,I.ok.glob,I.ok.blt,I.ok.above,I.ok.inj,I.ok.has,I.ok.cab,I.ok.hd,I.ok.frames,I.ok.stk,I.ok.exf,I.ok.bs,I.ok.bsz,I.ok.noex,I.ok.exfs,I.ok.funs,I.ok.frf⟩,I.os,I.bare,I.base,I.loc,I.cell,I.free,I.freeC,λp a=>I.pin p (CQ _ a),I.hok,I.len⟩
theorem SP.untr{D:fU}{f:Flow}(h:SP (X.tr Za EE) Zl D f s'):SP X Za D f s':=by
 cases f with
 |next=>obtain⟨a,b,I,q⟩:=h;exact⟨a,b,I.untr,q⟩
 |brk=>obtain⟨a,b,I,q⟩:=h;exact⟨a,b,I.untr,q⟩
 |cont=>obtain⟨a,b,I,q⟩:=h;exact⟨a,b,I.untr,q⟩
 |ret u=>obtain⟨v,a,b,I,r,q⟩:=h;exact⟨v,a,b,I.untr,r,q⟩
end
noncomputable def x8(i:Nat)(D:fU):fU:={nx:=λσ H=>D.nx (σ.set i Yb) H,rt:=D.rt,bk:=λσ H=>D.bk (σ.set i Yb) H,ct:=λσ H=>D.ct (σ.set i Yb) H}
def uH(K:Yc)(D:Yf)(i:Nat)(d:(St->XK)->TS)(e:TS):TS:=λb σ H=>
 d (λf g c h=>∃a C,g=.ref a/\c=Ya C/\qx K C D/\e (x8 i b) (f.set i (Ya (.ref a))) (upd h a (xO a C))) b σ H
theorem vB{K:Yc}{L:Yf}{p:CW}{Zn:List Y5}{b0:Y5}{a:List Y5}{tb:(St->XK)->TS}{th:TS}(hK:X.K=K)(b:X.stack=X.env::X.outer)(hf:X.env.frame=Ya L)(w:X.N.Nodup)(y:X.N[i]?=Ya n)(o:X.env.scope.names.lookup n=Ya .local)(hg:Gl X x)(hm:X.mg x=Ya (.ref D))(hD:qx K D D)(hb:∀Za EE,p9 (X.tr Za EE) Zn (tb EE))(hs:∀k,p9 (X.hnd (.ref k)) (b0::a) th)(M:(x==("__debug__":Yg))=false:=by decide):
  PS X (.Try Zn [.ExceptHandler (Ya (.Name x np)) (Ya n) (b0::a) p] [] [] pos) (uH K D i tb th):=by
 subst hK;intro Za s σ H Dn I h;refine wpAny_Try_except ?_;refine xn (hb Za _ [] s σ H Dn (I.tr _) h) (λf s1 q=>?_) λe s1 q=>?_
 ·cases f with
  |next=>exact DK q.untr
  |brk=>exact q.untr
  |cont=>exact q.untr
  |ret u=>exact q.untr
 ·obtain⟨σ1,H1,s2,N,k,C,a0,B,G,rfl,os,gb,un,hok,O,hB,hn,_,_,e1,e2,A,ht⟩:=q;cases e1;cases e2;obtain⟨hh,g,d,t,ab⟩:=s1;have E:=O;rw[b]at E;have fr:=N.ok.frames;rw[b]at fr;refine GY fr hf E λh1 F up1=>?_;refine Hz F λh2 c P=>?_;rw[←b]at c;have j:=up1.trans P;have J:=pV N os gb un hok O hB hn c j;have Q:=J.hnd (.ref k);refine wpAny_handleBy_cons (codeAny_handlers_test (gL (X:=X.hnd (.ref k)) Q hg hm ?_ M)) (by intro q;cases q);obtain⟨_,_,_,⟨_,_,_,_,_,_,_,_,_,_,_,_,_,_,R⟩,_,S⟩:=A;obtain⟨_,_,_,⟨_,_,_,_,_,_,_,_,_,_,_,_,_,_,T⟩,U,_⟩:=hD;obtain⟨oe,V,W⟩:=c.there;refine sh (Q.kIn _ _ R) (Q.kIn _ _ T) V W U S ?_;refine codeAny_handlers_suite_as ?_;refine lands_againW c λh3 Y Z=>?_;have J3:=pV N os gb un hok O hB hn Y (j.trans Z);refine jd (X:=X.hnd (.ref k)) (v:=.ref k) (J3.hnd _) w y (.inl o) rfl (λs4 I4=>?_) (.inr o);refine xn (hs k Za s4 _ _ (x8 i Dn) I4 ht) (λf s5 q=>?_) λ_ _ z=>z.elim;cases f with
  |next=>obtain⟨σ',G,l,q⟩:=q;exact gA (l.unhnd J.ok) w y o λs6 m=>⟨_,_,m,q⟩
  |brk=>obtain⟨σ',G,l,q⟩:=q;exact gA (l.unhnd J.ok) w y o λs6 m=>⟨_,_,m,q⟩
  |cont=>obtain⟨σ',G,l,q⟩:=q;exact gA (l.unhnd J.ok) w y o λs6 m=>⟨_,_,m,q⟩
  |ret u=>obtain⟨v,σ',G,l,r,q⟩:=q;exact gA (l.unhnd J.ok) w y o λs6 m=>⟨_,_,_,m,r,q⟩
end L2
namespace L2
open PySem PySem.Spec PyProof.Rows PySem.W
variable{M:GF}{h:YF}{R:Dv->Yh->Prop}{s:Yh}
structure wA(K:Yc)(C:Yf):Prop where
 ga:Y8 K (.ref C) "__getattribute__"=Ya (Ya (.builtin "BaseException.__getattribute__"))
 gn:Y8 K (.ref C) "__getattr__"=Ya Yb
 ha:Y8 K (.ref C) "__class__"=Ya (Ya (.builtin "object.__class__"))
 hn:Eu K (.builtin "object.__class__") "__get__"=Ya (Ya (.builtin "getset_descriptor.__get__"))
 htk:GN K (.builtin "object.__class__")=Ya true
 hm:FI K C (.type "object")=Ya true
 hb:FI K C (.type "BaseException")=Ya true
 hd:Dt K C=true
 hc:∃N up Ze,qL K C N up Ze
section
variable{prog:YB}{w:YG}{A:Y2}{E:Yd->Yh->Prop}{K:Yc}{x C:Yf}
def xM(h:YF)(x C:Yf):Prop:=∃o,h.get? x=Ya o/\o.cls=.ref C
theorem xM.type(I:xM h x C):Looks M h (typeOf (.ref x)) (.ref C):=by
 obtain⟨o,e,c⟩:=I;exact c▸(Looks.ld e).andThen .now
theorem vV(F:wA K C)(X:K.In h):Looks M h (Builtin.ObjectAttr.find (.ref x) (.ref C) "__class__") (.bind (.builtin "getset_descriptor.__get__") (.builtin "object.__class__")):=by
 have a:=looks_findIn (M:=M) X F.ha;have b:Looks M h (Builtin.ObjectAttr.getOf (Ya (.builtin "object.__class__"))) (Ya (.builtin "getset_descriptor.__get__")):=looks_specialIn X F.hn;have c:Looks M h (Builtin.ObjectAttr.dataDescriptor? (Ya (.builtin "object.__class__")) (Ya (.builtin "getset_descriptor.__get__"))) (Ya (.builtin "getset_descriptor.__get__",.builtin "object.__class__")):=(looks_takesIn X F.htk).andThen .now;exact a.andThen (b.andThen (c.andThen (Looks.tag .now)))
theorem yU(F:wA K C)(X:K.In s.heap)(I:xM s.heap x C)(a:R (.ok (.ret (.ref C))) s):
  lr (Ym prog w) A (.call (.builtin "getset_descriptor.__get__") ⟨[.builtin "object.__class__",.ref x,.ref C],[]⟩) R s:=by
 obtain⟨h,g,d,t,os⟩:=s;have LT:=I.type (M:=Ym prog w);have b:Looks (Ym prog w) h (isInstance (.ref x) (.type "object")) true:=LT.andThen (looks_mroIn X F.hm);apply CU KF.slot_gs.plain KF.entry_gs;refine KF.slot_gs.check _ _ _ _ (.builtin "object.__class__") [.ref x,.ref C] [] _ KF.type_class (KF.args_gs _ _ _) ?_;have c:C6 ⟨[.builtin "object.__class__",.ref x,.ref C],[]⟩=pure (.builtin "object.__class__",Ya (.ref x),Ya (.ref C)):=by kernel_rfl
 show Yj _ _ (C6 _ >>= _) _ _ _;refine Ye (Dx c ?_);show Yj _ _ (E8 (.builtin "object.__class__") (.ref x) >>= _) _ _ _;have e:Fd (.builtin "object.__class__")=pure ((("__class__":Yg),pw "object"):Yg×Yd):=by kernel_rfl
 refine Ye (Ye (Dx e (Ye (b.at ?_))));dsimp only;rw[if_neg (by decide)];refine Yk (Yk ⟨Code.quiet_builtin _ (by decide +kernel),DQ KF.entry_class ?_⟩);show Yj _ _ (shownTypeOf (.ref x) >>= _) _ _ _;refine Ye (Ye (LT.at ?_));dsimp only;rw[if_neg (show ¬ (YZ C==pw "builtin_function_or_method")=true from Yr)];exact Yk (Yk a)
theorem wq{tk:FH}(F:wA K C)(X:K.In s.heap)(I:xM s.heap x C)(b:R (.ok (.ret (.ref C))) s):
  lr (Ym prog w) A (.call (.builtin "BaseException.__getattribute__") ⟨[.ref x,.str "__class__" tk],[]⟩) R s:=by
 obtain⟨h,g,d,t,os⟩:=s;have LT:=I.type (M:=Ym prog w);have c:=looks_mroIn (M:=Ym prog w) X F.hb;have e:=vV (M:=Ym prog w) (x:=x) F X;refine CU ET.ga.plain PySem.F.entry_bexc_ga ?_;show Yj _ _ (Gy "BaseException.__getattribute__" ⟨[.ref x,.str "__class__" tk],[]⟩) _ _ _;have a:builtinKind "BaseException.__getattribute__"=Ya .slot/\splitId "BaseException.__getattribute__"=Ya ("BaseException","__getattribute__"):=by decide +kernel
 rw[PySem.checkBuiltinCall.eq_def,a.1,a.2];refine Ye ((LT.andThen c).at ?_);rw[if_neg (show ¬ (!true)=true from Yr)];refine Dx (PySem.F.args_bexc_ga (.ref x) (.str "__class__" tk)) ?_;unfold CL.«object.__getattribute__»;refine Ye (Yk ?_);refine Ye (Yk ?_);refine Ye (LT.at ?_);refine Ye (e.at ?_);show Yj _ _ (DF [En "object.__class__"] (call (.builtin "getset_descriptor.__get__") [.builtin "object.__class__",.ref x,.ref C]) >>= _) _ _ _;refine Ye (xi (DN (yU F X I ?_)));exact Yk b
theorem ub{Q:Option Yd->Yh->Prop}(F:wA K C)(X:K.In s.heap)(I:xM s.heap x C)(a:Q (Ya (.ref C)) {s with toks:=s.toks+ 1}):Yj (Ym prog w) A (getAttr? (.ref x) "__class__") Q E s:=by
 obtain⟨h,g,d,t,os⟩:=s;have LT:=I.type (M:=Ym prog w);have c:=looks_findIn (M:=Ym prog w) X F.ga;have e:=looks_findIn (M:=Ym prog w) X F.gn;unfold getAttr?;refine Ye (wpAny_mkText ?_);unfold getAttrBy? getAttrBy;refine Ye (C0 (xi ?_));refine Ye (LT.at ?_);refine Ye (c.at ?_);have own:∀b:Bool,¬ (b&&(En "BaseException.__getattribute__"==En "object.__getattribute__"))=true:=by decide +kernel
 dsimp only;rw[if_neg (own _)];unfold getAttrByItsOwn hookBefore;rw[if_pos (show onTheHeap (YZ C)=true from rfl)];refine Ye (e.at (Ye (C0 (xi ?_))));unfold callGetattribute boundAndCalled;rw[if_neg (show ¬ (false&&onTheHeap (En "BaseException.__getattribute__"))=true by decide)];refine Ye (Dx (ET.ga.bind _) ?_);refine DN (wq (s:=⟨h,g,d,t+ 1,os⟩) F X I ?_);show Yj _ _ (handedOut (.ref C)) _ _ _;exact handed_on rfl (Yk a)
theorem o7(F:wA K C):PySem.W.KitX K (.ref x) (.ref C) (λh=>xM h x C) where
 ty:=λ_ _ _ I=>I.type
 it:=λ_ h X _ c d f s' k q=>mc_isType (s:=s') (λb o e=>k b o (X b o e)) F.hd c d f s' (λ_ _ e=>e) q
 ne:=λh i j l n m X a=>Gi.mpr λz=>by
  obtain⟨_,_,_,_,_,_,_,_,_,_,_,_,_,_,_,_,_,g⟩:=F.hc;cases Value.ref.inj (eq_of_beq z);have e:pw "tuple"=pw "type":=congrArg Obj.cls (Yy (a.symm.trans (X _ _ g)));exact absurd (Value.type.inj e) (by decide)
 ca:=λX I q=>ub F X I q
end
def AQ(K:Yc):List V->Hp->VK->Prop:=λe H Q=>∃(a C:Yf) (c:V) (d:Yd) (b:Bool),e=[.ref a,c]/\(∀u,RelV c u->u=d)/\H a=Ya (xO a C)/\wA K C/\mr K (.ref C) d=Ya b/\Q (.bl b) H
theorem pb{X:Cx}{K:Yc}(d:X.K=K):cY X (.builtin "isinstance") (AQ K):=by
 subst d;intro l s σ H m n Q I r h;obtain⟨a,C,c,o,b,rfl,hc,f,F,e,q⟩:=h;obtain⟨u,v,rfl,g,i⟩:=vK r;cases g;obtain rfl:=hc v i;have j:xM s.heap a C:=(I.hok a _ f).1;exact Y9 (o7 F) I.kIn j e (λz=>nomatch z) λk=>⟨.bl b,H,I.tok k,rfl,q⟩
end L2
namespace L2
open PySem PySem.Spec PyProof.Rows
variable{x:Yg}{f:Yf}{fd:YA}{ps:List Yg}{k:Nat}{sp:Sp}{X:Cx}{t:TA}{EE:St->XK}
section
variable{P:YB}{w:YG}{K:Yc}{mg:Yg->Option Yd}{base:YF}
theorem cc.okX{c:Yg}{st:Y5}{N:List Yg}(F:cc K x c st f fd)(S:aO N ps (aq st))(len:∀vs H Q E,sp vs H Q E->vs.length=ps.length)(b:∀(a:Yd) (A:Y2) (outer:List BW) (s:Yh) (H:Hp) (vs:List V) (Q:VK) (E:XK),ck k (A.deeper (Co c (aq st) s.heap.objs.size f a))->sp vs H Q E->
   ∃t,p9 (aU (bC P w) P w K mg base N c (aq st) f a A outer s H E) (cX st) t/\t {nx:=λ_ g=>Q .non g,rt:=Q} (ic N vs) H):aP P w K mg base (bC P w) (k+ 1) f fd ps sp:=by
 obtain⟨m,n,kV,h,o,p,a,ct,i,rfl,j,d⟩:=F.ex;exact xj j d S len λA outer s H vs Q E l e=>b a A outer s H vs Q E l e
end
section
variable{e:YN}{es:List YN}{p pos:CW}
def u0(sp:Sp)(a:St->XK)(t:TA):TE:=λσ H Q=>t σ H λb c=>sp b c Q (a σ)
theorem zd{l:List (Yf×Y1)}(F:aP X.prog X.w X.K X.mg X.base (bC X.prog X.w) k f fd ps sp)(c:dA X.K X.mg x f fd ps)(n:ck k X.A)(ha:PA (X.tr l EE) (e::es) t)(o:Gl X x:=by rfl)(g:(x==("__debug__":Yg))=false:=by decide)(v:YE (e::es) X.env=(false,dk e X.env)::YE es X.env:=by rfl)(i:(BX pos (YE es X.env)).any (·.1)=false:=by rfl):
  PE (X.tr l EE) (.Call (.Name x p) (e::es) [] pos) (u0 sp EE t):=by
 intro w s σ H Q I h;refine CA (gL I o c.mg ?_ g);refine Dh (h₀:=X.base) I.ok.mod.kin c.kp (bQ (ha pos w s σ H _ I h) λd j ⟨y,m,a,r,q⟩=>⟨a.kIn,?_⟩) v i;have z:d.length=ps.length:=by rw[←r.length];exact F.len _ _ _ _ q
 have hb:=c.bd j d a.kIn (by rw[Dd];exact z);rw[Dd]at hb;refine DN (codeAny_mono (F.run X.A X.stack j m ⟨d,[]⟩ d y Q (EE σ) n a.env0 hb r q) λA s' b=>?_);cases A with
 |error e=>exact⟨σ,m,j,a.untr,b⟩
 |ok fl=>
  cases fl with
  |ret u=>exact a.after b
  |next=>exact ll b
  |brk=>exact ll b
  |cont=>exact ll b
end
section
variable{D:fU}{σ:St}{H:Hp}{Q:VK}
theorem v8(h:t σ H λvs a=>sp vs a Q (EE σ)):u0 sp EE t σ H Q:=h
theorem wk{K:Yc}{b:Yf}{i:Nat}{d:(St->XK)->TS}{e:TS}(h:d (λf g c j=>∃a C,g=.ref a/\c=Ya C/\qx K C b/\e (x8 i D) (f.set i (Ya (.ref a))) (upd j a (xO a C))) D σ H):uH K b i d e D σ H:=h
theorem cI{C:Yf}{E:XK}(h:t σ H λvs a=>vs.length<=Yp/\∀b,a b=Yb->E (.ref b) (Ya C) a):qk C E t D σ H:=h
end
section
variable{tg:YN}
end
end L2
namespace L2
open PySem PySem.Spec PyProof.Rows PySem.W
variable{prog:YB}{w:YG}{A:Y2}{E:Yd->Yh->Prop}{x C f:Yf}{name:Yg}{v:Yd}{s:Yh}{X:Cx}{H:Hp}{B Ze Zm:String}{Zt:List Yd}
section
variable{K:Yc}
end
section
variable{K:Yc}{vs:Array Yd}{sl:Array (Option Yd)}
end
section
variable{Za:List (Yf×Y1)}{σ:St}{e dx:Yf}{f:Yg}{y:V}{u:Yd}
end
section
variable{K:Yc}{fI:Yf}{h:YF}{g:Array Hm}{d:GD}{t:Nat}{os:OsState}
end
section
variable{k:Nat}{fd:YA}{ps:List Yg}{sp:Sp}
end
section
variable{env:BW}
end
section
variable{P:YB}{K:Yc}{mg:Yg->Option Yd}{base:YF}{N:List Yg}{Zb:Yg}{scope:Cg}{cd:Yd}{outer:List BW}{E:XK}
end
end L2
namespace L2
open PySem PySem.Spec PyProof.Rows
variable{f:Yf}{fd:YA}
section
variable{P:YB}{w:YG}{K:Yc}{mg:Yg->Option Yd}{base:YF}{x Zb:Yg}{st:Y5}{ds ds':List Yd}
end
section
variable{X:Cx}{k:Nat}{C:Yf}{ps:List Yg}{sp:Sp}{m:Yg}{e o:YN}{es:List YN}{ta:TE}{t:TA}{p pos Zi:CW}
end
section
variable{D:fU}{σ:St}{H:Hp}{Q:VK}
end
section
variable{me nu ha ro ma dn tk kp od tb ab v:V}
end
end L2
namespace GX
open PySem PySem.Spec PyProof.Rows
section
variable{prog:YB}{w:YG}{A:Y2}{s:Yh}{E:Yd->Yh->Prop}{it v d:Yf}{es:Array Hb}{i ep:Nat}{ok ov:Yd}
end
end GX
namespace L2
open PySem PySem.Spec PyProof.Rows
variable{X:Cx}{tg:YN}{tl:TE}{z:Yg}{σ:St}{H:Hp}
section
end
section
variable{K:Yc}
theorem w5:∀{c:List Yg} {d:List Yd},Vals (c.map V.str) d->StrsAre d c:=by
 intro c
 induction c with
 |nil=>intro d r;cases r;exact .nil
 |cons y c ih=>
  intro d r;cases r with
  |cons a b=>
   obtain⟨t,rfl⟩:=a;exact .cons _ _ (ih b)
theorem vN:∀{a:List Yg} {b:List Yd},StrsAre b a->Vals (a.map V.str) b:=by
 intro a b h
 induction h with
 |nil=>exact .nil
 |cons _ _ _ ih=>exact .cons ⟨_,rfl⟩ ih
def zJ(K:Yc):V->List V->Hp->VK->Prop:=λx c H Q=>∃(y:Yg) (a:Yf) (b:List Yg),x=.str y/\c=[.ref a]/\bw K H a (b.map V.str)/\y.length<=16/\(b.map (·.length)).sum+ b.length<=1048576/\Q (.str (FC y b)) H
theorem wO(d:X.K=K):AJ X "str.join" (zJ K):=by
 subst d;intro l s σ H x m v n Q I e f h;obtain⟨y,a,b,rfl,rfl,g,h1,h2,q⟩:=h;obtain⟨t,rfl⟩:=e;obtain⟨u,rfl,i⟩:=fy f;cases i;obtain⟨o,r,j,p⟩:=I.list g;refine join_listW j.isList (w5 r) h1 h2 λc k=>⟨.str (FC y b),H,I.tok _,⟨c,?_⟩,q⟩;show EW (HZ y b) c=_;rw[StrLaws.glued_eq_join]
def yA:V->List V->Hp->VK->Prop:=λx a H Q=>∃z y:Yg,x=.str z/\a=[.str y]/\(y.length==0)=false/\z.length+ 2<=Yp/\∀l,H l=Yb->Q (.ref l) (upd H l (.lst ((Ys z y).map V.str)))
theorem dN:AJ X "str.split" yA:=by
 intro f s σ H x m v n Q I g i h;obtain⟨z,y,rfl,rfl,d,j,q⟩:=h;obtain⟨t,rfl⟩:=g;obtain⟨u,rfl,c,rfl⟩:=fy i;have a:∀(l:List (Yg×FH)) (k:Nat),l.map (·.1)=Ys z y->EP X f σ Q (.ref s.heap.objs.size) {s with heap:=s.heap.push {cls:=.type "list",data:=.seq (strValues l).toArray},toks:=k}:=λl k e=>by
  have r:Vals ((Ys z y).map V.str) (strValues l):=by rw[←e];exact vN (strsAre_of_values l)
  have hn:((Ys z y).map V.str).length<=Yp:=by rw[Yn];exact YI (ED z y) j
  exact⟨.ref s.heap.objs.size,_,I.laid (t':=k) (λb ob q=>Yi _ q) (Yo _) (show bU X.prog X.w _ _ _ (.lst ((Ys z y).map V.str))from⟨hn,_,0,r,Yu _ rfl⟩),rfl,q _ (I.hok.fresh (Yo _))⟩
 have hn:(HA z (uc z y 0 z.length (z.length+ 1)) y.length).length<=Yp:=by
  have o:=StrLaws.occ_length_le z y 0 z.length (z.length+ 1);rw[length_partsBetween];omega
 cases h1:(decide (z.length<y.length)||decide (FO z<FO y))
 ·cases hf:(uc z y 0 z.length (z.length+ 1)).isEmpty
  ·refine EA F.slot_str_split (DO _ _ _) F.entry_str_split (F.args_str_split_2 _ _) (meets_str_split_sep z y t c h1 d hf (by omega) hn) ?_;rw[strsFrom_eq];exact a (numbered s.toks _) _ ((numbered_texts _ _).trans ((if_neg (ne_true_of_eq_false h1)).trans (if_neg (ne_true_of_eq_false hf))).symm)
  ·exact EA F.slot_str_split (DO _ _ _) F.entry_str_split (F.args_str_split_2 _ _) (meets_str_split_not_found z y t c h1 d hf) (a [(z,t)] s.toks ((if_neg (ne_true_of_eq_false h1)).trans (if_pos hf)).symm)
 ·exact EA F.slot_str_split (DO _ _ _) F.entry_str_split (F.args_str_split_2 _ _) (meets_str_split_cannot_occur z y t c h1) (a [(z,t)] s.toks (if_pos h1).symm)
def vZ:V->List V->Hp->VK->Prop:=λx a H Q=>∃z y:Yg,x=.str z/\a=[.str y]/\Q (.bl (D5 z y)) H
theorem tm:AJ X "str.startswith" vZ:=by
 intro c s σ H x d v e Q I a b h;obtain⟨z,y,rfl,rfl,q⟩:=h;obtain⟨t,rfl⟩:=a;obtain⟨u,rfl,f,rfl⟩:=fy b;exact SC.startswith ⟨.bl _,H,I,rfl,q⟩
def Bh:V->Option Int->Option Int->Hp->VK->Prop:=λx lo a H Q=>∃z:Yg,x=.str z/\z.length<=Yp/\Q (.str (YV z lo a)) H
theorem fk:AK X Bh:=by
 intro g s σ H x v p r lo e w Q I m c n f h;obtain⟨z,rfl,o,q⟩:=h;obtain⟨t,rfl⟩:=m;refine⟨"str",_,F.slot_str_getitem.lookup,DO _ _ _,?_⟩;have a:∀d k,EP X g σ Q (.str (YV z lo e) d) {s with toks:=k}:=λd k=>⟨.str _,H,I.tok _,⟨d,rfl⟩,q⟩;have b:=YI (HB z lo e) o;cases n with
 |none=>
  cases f with
  |none=>exact Cy (l:=Yb) (u:=Yb) (st:=Yb) c rfl (DS ⟨b,a⟩)
  |int j tj=>exact Cy (l:=Yb) (u:=Ya (j,tj)) (st:=Yb) c rfl (DS ⟨b,a⟩)
 |int i ti=>
  cases f with
  |none=>exact Cy (l:=Ya (i,ti)) (u:=Yb) (st:=Yb) c rfl (DS ⟨b,a⟩)
  |int j tj=>exact Cy (l:=Ya (i,ti)) (u:=Ya (j,tj)) (st:=Yb) c rfl (DS ⟨b,a⟩)
theorem gO:cY X (.type "int") (λxs H Q=>∃(z:Yg) (n:Int),xs=[.str z]/\HC z=Ya n/\z.length<=640/\Q (.int n) H):=by
 intro b s σ H xs c Q I r h;obtain⟨z,n,rfl,hn,a,q⟩:=h;obtain⟨u,rfl,t,rfl⟩:=fy r;exact PySem.W.KIN.call_text hn a ⟨.int n,H,I.tok _,⟨_,rfl⟩,q⟩
theorem q5(d:Yg):HW++d=d:=by
 cases d;show Str.mk (#[]++_)=_;rw[Array.empty_append]
end
noncomputable def w4(z:Yg):It:=⟨λi _=>i<z.cps.size,λi H x a=>a=H/\∃c,z.cps[i]?=Ya c/\x=.str ⟨#[c]⟩,λi _=>z.cps.size<=i⟩
theorem uT{P:YB}{w:YG}{K:Yc}(it:Yf)(z:Yg)(t:FH):tD P w K tg (w4 z) [it] it (λi h=>h.IsStrIter it "str_ascii_iterator" z t (min i z.cps.size)) where
 mem:=vc it
 obj:=λi h a b hb=>by
  cases YQ.mp hb;obtain⟨o,e,c,d⟩:=a;exact⟨o,e,λv y=>by rw[d]at y;cases y⟩
 keep:=λi h j a k=>by
  obtain⟨o,e,r⟩:=a;exact⟨o,k it (vc it) o e,r⟩
 item:=by
  intro X m hw n hc i C s σ H E I l a f;subst m hw n;have f:i<z.cps.size:=f;obtain⟨p,q,F,x,A,B⟩:=l it (vc it);rw[DT (De f)]at a;refine(Walks.strAscii (prog:=X.prog) (w:=X.w) (I.ok.hd hc) it z t).item i s _ _ f a λv j D G g L=>?_;obtain⟨c,u,e,rfl⟩:=G;have J:aC X C σ H {s with heap:=j,toks:=D}:=I.turned (λb o hb e=>L b o (by simpa using hb) e) p q x A B;obtain⟨o,M,co,d⟩:=id g;rw[←DT (show i+ 1<=z.cps.size from f)]at g;exact⟨_,rfl,ve (s:={s with heap:=j,toks:=D}) M co d (by decide) ⟨.str ⟨#[c]⟩,H,J,⟨u,rfl⟩,⟨rfl,c,e,rfl⟩,g,λb hb=>(l b hb).1⟩⟩
 done:=by
  intro X m hw n hc i C s σ H E I l a f;subst m hw n;obtain⟨p,q,F,x,A,B⟩:=l it (vc it);have f:z.cps.size<=i:=f;rw[Gz f]at a;exact wpAny_pyNext_ascii_end (I.ok.hd hc) a (by simp) λj N=>⟨rfl,I.turned (t':=s.toks) (λb o hb e=>N b o hb e) p q x A B⟩
 self:=λ_ _ _ _ _ a h=>wpAny_pyIter_striter_ascii a h
section
def zw(a:TE):TI:=λσ H R=>a σ H λx b=>∃z:Yg,x=.str z/\z.cps.all (·<128)=true/\R (w4 z) b
theorem uY{l:YN}(d:PE X l tl):PI X tg l (zw tl):=by
 intro f s σ H R I h;refine bQ (d f s σ H _ I h) λv a g=>?_;obtain⟨x,i,c,j,k⟩:=g;obtain⟨z,rfl,ha,q⟩:=k;obtain⟨t,rfl⟩:=j;refine wpAny_pyIter_ascii ha ?_;refine⟨a.heap.objs.size,[a.heap.objs.size],_,_,i,rfl,c.kept (t':=a.toks) λb o e=>Yi _ e,uT _ z t,?_,λb hb=>?_,q⟩
 ·rw[DT (kx _)];exact⟨_,Yu _ rfl,rfl,rfl⟩
 ·cases YQ.mp hb;exact c.fpOk (Yo _) (c.hok.fresh (Yo _))
end
theorem vy{g:TG}{h:TT}{j:TE}{D:Yf}{Qe:Hp->Prop}(b:Nat->St->Hp->Prop)(h0:b 0 σ H)(q:∀i c σ H,z.cps[i]?=Ya c->b i σ H->iX g h j D (b (i+ 1)) (.str ⟨#[c]⟩) σ H)(hd:∀σ H,b z.cps.size σ H->Qe H):
  ∃W:Nat->Nat->St->Hp->Prop,(∃m,W 0 m σ H)/\∀i m f a,W i m f a->((w4 z).stop i a/\Qe a)∨((w4 z).go i a/\∃N:St->Hp->Prop,(∀l n,N l n->∃o,o<m/\W (i+ 1) o l n)/\
   ∀x d,(w4 z).yld i a x d->iX g h j D N x f d):=by
 refine⟨λi m σ H=>m=z.cps.size-i/\i<=z.cps.size/\b i σ H,⟨z.cps.size,rfl,kx _,h0⟩,λi m σ H r=>?_⟩;obtain⟨rfl,t,p⟩:=r;rcases xq i z.cps.size with k|k
 ·refine .inr ⟨k,b (i+ 1),λf a s=>⟨z.cps.size-(i+ 1),by omega,rfl,k,s⟩,λx a y=>?_⟩;obtain⟨rfl,c,e,rfl⟩:=y;exact q i c σ _ e p
 ·have e:i=z.cps.size:=by omega
  subst e;exact .inl ⟨k,hd σ H p⟩
theorem An{K:Yc}{P:Prop}(h:P):Af K "str" (.str z) H/\P:=⟨rfl,h⟩
theorem yW{R:It->Hp->Prop}(h:tl σ H λx a=>∃z:Yg,x=.str z/\z.cps.all (·<128)=true/\R (w4 z) a):zw tl σ H R:=h
end L2
namespace L2
open PySem PySem.Spec PyProof.Rows PySem.NumText
variable{n:Int}
noncomputable abbrev nT(i:Int):Yg:=YT (toString i)
noncomputable def dg(n:Nat):List Nat:=(HD 10 n).map Char.toNat
theorem yE(n:Nat):(nT (n:Int)).cps.toList=dg n:=PySem.W.KIN.signs_num n
theorem uZ(n:Nat):AllDigits (dg n):=λc hc=>by
 obtain⟨x,a,rfl⟩:=CM.mp hc;exact HE (Nat.isDigit_of_mem_toDigits (by decide) (by decide) a)
theorem eE(x:Yg):x.length=x.cps.toList.length:=pe.symm
theorem gP{a b:Yg}(h:a.cps.toList=b.cps.toList):a=b:=by
 obtain⟨⟨a⟩⟩:=a;obtain⟨⟨b⟩⟩:=b;have h:a=b:=h;rw[h]
theorem AD(h0:0<=n)(h1:n<10^60):(nT n).length<=60:=CV h0 (by decide) h1
theorem yN(h1:-(10^60)<n)(h2:n<10^60):n.natAbs.log2<1920:=by
 rcases Dj n.natAbs with z|z
 ·rw[z];decide
 ·refine(Gp (by omega)).mpr (Yv (show n.natAbs<10^60 by omega) ?_);exact YI (show(10:Nat)^60<=2^240 by decide) (DU (by decide) (by decide))
theorem zi{n:Nat}(h:0<n):(nT (-(n:Int))).cps.toList=45::dg n:=by
 cases n with
 |zero=>cases h
 |succ k=>
  show(YT (toString (Int.negSucc k))).cps.toList=_;rw[signs_ofString];show((String.append "-" (HF (k+ 1))).toList).map Char.toNat=_;have e:(String.append "-" (HF (k+ 1))).toList='-'::HD 10 (k+ 1):=by
   show("-"++HF (k+ 1)).toList=_;rw[String.toList_append,Nat.toList_repr];rfl
  rw[e,Cd];rfl
theorem zR{i:Int}(h:0<=i):(nT i).cps.toList=dg i.toNat:=by
 obtain⟨m,rfl⟩:=ES h;exact yE m
theorem pH(i:Int):∀c∈(nT i).cps.toList,c=45∨(48<=c/\c<=57):=by
 intro c hc;rcases Int.lt_or_le i 0 with h|h
 ·have e:=zi (n:=(-i).toNat) (by omega);rw[show(-((-i).toNat:Int))=i by omega]at e;rw[e]at hc;rcases YK.mp hc with rfl|hc
  ·exact .inl rfl
  ·exact .inr (uZ _ _ hc)
 ·rw[zR h]at hc;exact .inr (uZ _ _ hc)
noncomputable def jn(c:Nat):List (List Nat)->List Nat
 |[]=>[]
 |[a]=>a
 |a::b::r=>a++c::jn c (b::r)
theorem jo(a b:Yg):(a++b).cps.toList=a.cps.toList++b.cps.toList:=by
 show(a.cps++b.cps).toList=_;exact Array.toList_append
theorem q9(c:Nat)(d:List Yg):(FC ⟨#[c]⟩ d).cps.toList=jn c (d.map λp=>p.cps.toList):=by
 induction d with
 |nil=>rfl
 |cons a r ih=>
  cases r with
  |nil=>rfl
  |cons b r=>
   show(a++⟨#[c]⟩++FC ⟨#[c]⟩ (b::r)).cps.toList=_;rw[jo,jo,ih,Ge];rfl
end L2
namespace L2
open PySem PySem.Spec PyProof.Rows
variable{P:YB}{w:YG}{X:Cx}{Za:List (Yf×Y1)}{σ:St}{H1 H2 H:Hp}{s1 s' s2 s:Yh}{h' B base:YF}{E:XK}{N' N ps:List Yg}{sc scope:Cg}{cl:List (Yg×Yf)}{C f:Yf}{fp:List Yf}{A:Y2}{Zk iter tg:YN}{Zj es:List YN}{pos p:CW}{XE:Yd->Yh->Prop}{g:TG}{tt:TT}{te:TE}{e cd:Yd}{v:BW}{l outer:List BW}{mg:Yg->Option Yd}{Zb x:Yg}{k:Nat}{fd:YA}{sp:Sp}{t:TA}
theorem rO{g:Hp}{Cb:Yf}(I:aC X Za σ H1 s1)(C:X.ex=[])(Z:X.prog=P)(hw:X.w=w)(un:Un (cP X.stack) [] H1 g s1.heap s'.heap)(hok:gS P w g s'.heap)(J:∀b o,s'.heap.get? b=Ya o->b∉cP X.stack->((∃f,X.s₀.heap.get? b=Ya f)∨∃u,g b=Ya u)->B.get? b=Ya o)(st:∀b o,b≠Cb->B.get? b=Ya o->h'.get? b=Ya o)(up:∀b o,b≠Cb->s'.heap.get? b=Ya o->(∀vs,o.data≠.fields vs)->∃l,h'.get? b=Ya {o with slots:=l})(N:X.s₀.heap.get? Cb=Yb)(O:Cb∉cP X.stack)(Q:g Cb=Yb)(p:X.stack=X.env::X.outer):
  Un (cP X.outer) [] X.H₀ g X.s₀.heap h'/\gS P w g h'/\∀b o,h'.get? b=Ya o->b∉cP X.outer->((∃f,X.s₀.heap.get? b=Ya f)∨∃u,g b=Ya u)->B.get? b=Ya o:=by
 have base:=I.base;rw[C]at base;have s:∀b,b∈cP X.stack->g b=none:=λb hb=>by
  obtain⟨_,o,R,_⟩:=I.stack.mem hb;exact un.free b o R (I.stkFree b hb) (by simp)
 have t:∀b,b∈cP X.outer->b∈cP X.stack:=λb hb=>by
  rw[p];unfold cP;rw[xf];cases X.env.frame with
  |none=>exact hb
  |some _=>exact Yw _ hb
 have lo:∀b o,X.s₀.heap.get? b=Ya o->b∉cP X.outer->b∉cP X.stack:=λb o e n z=>by
  rcases YK.mp (I.stkSub b z)with q|q
  ·rw[q]at e;exact absurd (Yq e) (EC.mpr I.ok.above)
  ·exact n q
 have h:∀b o,s'.heap.get? b=Ya o->b∈cP X.stack->∃l,h'.get? b=Ya {o with slots:=l}:=λb o e hb=>by
  obtain⟨_,k,D,S⟩:=I.stack.mem hb;obtain⟨l,d⟩:=un.slot b k D (I.stkFree b hb) hb (by simp);rw[e]at d;cases d;exact up b _ (λz=>O (z▸hb)) e S
 have x:∀b,((∃f,X.s₀.heap.get? b=Ya f)∨∃u,g b=Ya u)->b≠Cb:=λb r z=>by
  subst z;rcases r with⟨f,j⟩|⟨u,j⟩
  ·rw[N]at j;cases j
  ·rw[Q]at j;cases j
 have c:∀b o,s'.heap.get? b=Ya o->b∉cP X.stack->((∃f,X.s₀.heap.get? b=Ya f)∨∃u,g b=Ya u)->h'.get? b=Ya o:=λb o e n r=>st b o (x b r) (J b o e n r);refine⟨⟨λb o e n i _=>?_,λb o e n i _=>?_,λb o e n _=>?_,λb o e _=>?_,λb K e=>un.tups b K (base.tups b K e),λb o u e=>un.frzs b o u (base.frzs b o u e),λb T e=>?_⟩,λa u e=>?_,λb o e i r=>?_⟩
 ·have d:=base.keep b o e n i (by simp);have ns:=lo b o e i;exact c b o (un.keep b o d (base.free b o e n (by simp)) ns (by simp)) ns (.inl ⟨o,e⟩)
 ·obtain⟨l,d⟩:=base.slot b o e n i (by simp);obtain⟨U,m⟩:=un.slot b _ d (base.free b o e n (by simp)) (t b i) (by simp);obtain⟨E,F⟩:=h b _ m (t b i);exact⟨E,F⟩
 ·obtain⟨k,d⟩:=base.there b o e (by simp);exact un.free b k d (base.free b o e n (by simp)) (by simp)
 ·obtain⟨k,d⟩:=base.there b o e (by simp);obtain⟨G,m⟩:=un.there b k d (by simp);by_cases i:b∈cP X.stack
  ·obtain⟨l,F⟩:=h b G m i;exact⟨_,F⟩
  ·exact⟨G,c b G m i (.inl ⟨o,e⟩)⟩
 ·obtain⟨V,d⟩:=base.tbls b T e;obtain⟨W,m⟩:=un.tbls b _ d;exact⟨V++W,by rw[m,D9]⟩
 ·refine(hok a u e).stay (λb o hb q=>?_) (λ_ q=>q) λ_ _ q=>q;have tr:∃v,g b=Ya v:=by
   rcases hb with z|z
   ·exact⟨u,z▸e⟩
   ·exact⟨_,z⟩
  refine c b o q (λz=>?_) (.inr tr);obtain⟨v,L⟩:=tr;rw[s b z]at L;cases L
 ·have H:∃y,s'.heap.get? b=Ya y:=by
   rcases r with⟨f,j⟩|⟨u,A⟩
   ·obtain⟨k,d⟩:=base.there b f j (by simp);exact un.there b k d (by simp)
   ·exact(hok b u A).at
  obtain⟨y,Y⟩:=H;have ns:b∉cP X.stack:=λz=>by
   rcases r with⟨f,j⟩|⟨u,A⟩
   ·exact lo b f j i z
   ·rw[s b z]at A;cases A
  have M:=J b y Y ns r;rw[st b y (x b r) M]at e;cases e;exact M
noncomputable def Cx.blkE(X:Cx)(E:XK)(a:List Yg)(sc:Cg)(cl:List (Yg×Yf))(C:Yf)(b:Yh)(c:Hp)(d:List Yf):Cx:=
 {X.blk a sc cl C b c d with xe:=λe s'=>∃h σ f g,aC (X.blk a sc cl C b c d) h σ f g/\bC X.prog X.w X.stack f g E e s'}
theorem aC.unE(I:aC (X.blkE E N' sc cl C s2 H2 fp) Za σ H s):aC (X.blk N' sc cl C s2 H2 fp) Za σ H s:=
 ⟨⟨I.ok.mod,I.ok.kind,I.ok.glob,I.ok.blt,I.ok.above,I.ok.inj,I.ok.has,I.ok.cab,I.ok.hd,I.ok.frames,I.ok.stk,I.ok.exf,I.ok.bs,I.ok.bsz,I.ok.noex,I.ok.exfs,I.ok.funs,I.ok.frf⟩,I.os,I.bare,I.base,I.loc,I.cell,I.free,I.freeC,I.pin,I.hok,I.len⟩
theorem zZ:iD (bC X.prog X.w) (X.blkE E N' sc cl C s2 H2 fp) E:=λa σ H s e s' I h=>⟨a,σ,H,s,I.unE,h⟩
theorem oi{prog:YB}{R:Dv->Yh->Prop}{a:YN}{it b:Yd}{env:BW}(I:Nat->Yh->Prop)(c:∀n s,I n s->Yj (Ym prog w) A (GX.kS Zk a Zj it b env) (λmore s'=>if more=true then∃m,m<n/\I m s' else R (.ok .next) s') XE s)(d:∀e s',XE e s'->Yj (Ym prog w) A (Ed e env) (λ_ s2=>R (.error e) s2) (λe s2=>R (.error e) s2) s')(n:Nat)(h:I n s):
  lr (Ym prog w) A (.compLoop (.ListComp Zk [⟨a,iter,Zj,0⟩] scope pos) 0 it b env) R s:=by
 apply Hs rfl I _ n h;intro n s f;apply wpAny_noted;rw[GX.rk];change Yj _ A _ _ _ _;apply Ye;apply Eg;apply Ye;refine xn (c n s f) (λmore s' q=>?_) λe s' z=>d e s' z;cases more
 ·exact Yk q
 ·exact Yk ⟨rfl,q⟩
theorem qb{l:List (Option Nat)}{it:Yf}{tn:Nat->YF->Prop}{J:It}{W:Nat->Nat->St->Hp->Prop}{m0:Nat}{Qe:Hp->Prop}{RR:Yd->BW->Dv->Yh->Prop}(hc:X.calm=true)(hk:sc.kind=.function)(hB:si X.N N' l X.env.scope sc)(a:∀x c,cl.lookup x=Ya c->X.env.cells.lookup x=Ya c)(K:∀n,(n,Yz)∈sc.names->∃c,cl.lookup n=Ya c)(hg:∀cl C s2 H2 fp,N'.Nodup->PG (X.blkE E N' sc cl C s2 H2 fp) tg g)(ht:∀cl C s2 H2 fp,zt (X.blkE E N' sc cl C s2 H2 fp) Zj tt)(he:∀cl C s2 H2 fp,PE (X.blkE E N' sc cl C s2 H2 fp) Zk te)(d:aC X Za σ H2 s2)(T:tD X.prog X.w X.K tg J fp it tn)(G:tn 0 s2.heap)(f2:∀b∈fp,ly X Za H2 b)(w0:W 0 m0 (kr l σ) (upd H2 s2.heap.objs.size (.lst [])))(ab:∀i m L f,W i m L f->(J.stop i f/\Qe f)∨(J.go i f/\∃N:St->Hp->Prop,(∀σ2 H2,N σ2 H2->∃m',m'<m/\W (i+ 1) m' σ2 H2)/\
   ∀x ac,J.yld i f x ac->iX g tt te s2.heap.objs.size N x L ac)) (an:∀(v:BW) M Q R,s2.heap.objs.size<=v.locals->aC (X.blkE E N' sc cl v.locals s2 H2 fp) [] Q R M->Qe R->RR (.ref s2.heap.objs.size) v (.ok .next) M) (ao:∀(v:BW) e M,s2.heap.objs.size<=v.locals->v.frame=X.env.frame->(X.blkE E N' sc cl v.locals s2 H2 fp).xe e M->Yj (Ym X.prog X.w) X.A (Ed e v) (λ_ Y=>RR (.ref s2.heap.objs.size) v (.error e) Y) (λe Y=>RR (.ref s2.heap.objs.size) v (.error e) Y) M):
  Yj (Ym X.prog X.w) X.A (F4 []) (λad s₃=>Yj (Ym X.prog X.w) X.A (G2 sc X.env.globals cl [] X.env.qual Yb .none (Ya X.env)) (λO s₄=>
   lr (Ym X.prog X.w) X.A (.compStart (.ListComp Zk [⟨tg,iter,Zj,0⟩] sc pos) 0 (.ref it) ad {O with scope:=F5 sc X.env}) (RR ad O) s₄) X.xe s₃) X.xe s2:=by
 obtain⟨b1,b2,b3,b4,b5,b6⟩:=hB;refine BP (Fx b1 (by intro y hy;simp at hy) (λh₁ S H=>?_) hk);dsimp only at S H⊢;generalize hP:s2.heap.push {cls:=.type "list",dict:=Yb,data:=.seq ([]:List Yd).toArray}=Hl at S H⊢;have Z:Hl.objs.size=s2.heap.objs.size+ 1:=by rw[←hP,Cj]
 have ag:s2.heap.objs.size≠Hl.objs.size:=by rw[Z];exact YD (Cn _)
 have A:∀{b:Yf} {o:Y1},s2.heap.get? b=Ya o->b≠Hl.objs.size:=fun{b o} z=>by
  have:=Yq z;rw[Z];exact YD (CJ this)
 have s:∀b o,s2.heap.get? b=Ya o->h₁.get? b=Ya o:=λb o z=>H.extBut b o (A z) (Yi _ (hP▸Yi _ z));have ap:h₁.get? s2.heap.objs.size=Ya {cls:=.type "list",data:=.seq ([]:List Yd).toArray}:=H.extBut _ _ ag (Yi _ (hP▸Yu _ rfl));have fD:H2 s2.heap.objs.size=none:=d.hok.fresh (Yo _);have fC:H2 Hl.objs.size=none:=d.hok.fresh (by rw[Z];exact tB _);have ok:(X.blkE E N' sc cl Hl.objs.size s2 H2 fp).Ok:=by
  refine⟨d.ok.mod,hk,d.ok.glob,d.ok.blt,?_,λx y c h1 h2=>d.ok.inj x y c (a x c h1) (a y c h2),λx hx=>?_,λx c z=>?_,d.ok.hd,d.ok.frames,.inl rfl,λb hb=>⟨?_,λx c z=>(f2 b hb).2.2.2.2.1 x c (a x c z)⟩,
   d.bs,YI d.ok.bsz d.sz,λb o z hb=>?_,λb hb z=>?_,d.stack,d.stkFree⟩
  ·show s2.heap.objs.size<=Hl.objs.size;rw[Z];exact tB _
  ·have t:(sc.names.map fun(n,k)=>if(k==Yz&&X.env.scope.kind==.function&&X.env.kindOf n==Ya .cell)then(n,YW)else(n,k)).lookup x=Ya .cell∨
     (sc.names.map fun(n,k)=>if(k==Yz&&X.env.scope.kind==.function&&X.env.kindOf n==Ya .cell)then(n,YW)else(n,k)).lookup x=Ya .free:=hx
   rw[GX.cO]at t;cases e:sc.names.lookup x with
   |none=>
    rw[e]at t;simp at t
   |some k=>
    rw[e]at t;by_cases hf:k=.free
    ·subst hf;exact K x (Y4 e)
    ·have hb:(k==Yz)=false:=by simpa using hf
     have I:((Ya k).map λk=>if(k==Yz&&X.env.scope.kind==.function&&X.env.kindOf x==Ya .cell)then YW else k)=Ya k:=by
      show Ya (if(k==Yz&&X.env.scope.kind==.function&&X.env.kindOf x==Ya .cell)=true then YW else k)=Ya k;rw[hb,BS,BS];rfl
     rw[I]at t;rcases t with z|z
     ·exact absurd (Yy z) (b1 _ (Y4 e))
     ·exact absurd (Yy z) hf
  ·cases z
  ·obtain⟨o,z,_⟩:=T.obj 0 _ G b hb;exact A z
  ·rcases(f2 b hb).2.2.2.1 with f3|f3
   ·exact d.ok.noex b o z f3
   ·have l1:=Yq z;have l2:=d.ok.bsz;exact absurd (Yv l1 (YI l2 f3)) (xg _)
  ·rcases YK.mp (d.stkSub b z)with z|z
   ·exact(f2 b hb).2.1 z
   ·exact(f2 b hb).2.2.1 z
 have IY:aC (X.blkE E N' sc cl Hl.objs.size s2 H2 fp) [] (kr l σ) (upd H2 s2.heap.objs.size (.lst [])) {s2 with heap:=h₁,toks:=s2.toks+ ([]:List (Yg×Yd)).length}:=by
  refine⟨ok,rfl,d.bare,Un.laid s (Yo _) fD,⟨_,S,λi x v e1 I _=>?_⟩,λx c z=>?_,?_,λx c z=>?_,λp hp=>?_,d.hok.laid s (Yo _) ⟨kx _,[],0,.nil,ap⟩,?_⟩
  ·have as:N'[i]?=Ya x:=e1;unfold kr at I;rw[YX]at I;cases es:l[i]? with
   |none=>rw[es]at I;cases I
   |some o=>
    rw[es]at I;cases o with
    |none=>cases I
    |some j=>
     have e3:(σ[j]?).bind (λv=>v)=Ya v:=Yy I;have e4:σ[j]?=Ya (Ya v):=by
      cases q:σ[j]? with
      |none=>rw[q]at e3;cases e3
      |some w=>rw[q]at e3;exact congrArg Ya e3
     have hz:(x,Ya j)∈N'.zip l:=ar (i:=i) (by rw[EB];exact⟨as,es⟩);have aj:=b6 _ hz;have h:(decide (X.N[j]?=Ya x)&&decide (sc.names.lookup x=Ya .free))=true:=aj;rw[Cr]at h;have c1:X.N[j]?=Ya x:=of_decide_eq_true h.1;have c2:sc.names.lookup x=Ya .free:=of_decide_eq_true h.2;have B:=Y4 c2;have ak:=b3 _ B rfl;obtain⟨m,hn,hl⟩:=d.loc;obtain⟨u,ru,lk⟩:=hl j x v c1 e4 (.inr ak);rcases lk with⟨k1,_⟩|⟨_,c,k2,z⟩
     ·have au:X.env.scope.names.lookup x=Ya .local:=k1;rcases ak with v|v<;>(rw[au]at v;cases v)
     ·obtain⟨c',k3⟩:=K x B;have k4:=a x c' k3;rw[k2]at k4;cases k4;refine⟨u,ru,.inr ⟨?_,c,k3,z.keeps s⟩⟩;show(sc.names.map fun(n,k)=>if(k==Yz&&X.env.scope.kind==.function&&X.env.kindOf n==Ya .cell)then(n,YW)else(n,k)).lookup x=Ya .cell∨
       (sc.names.map fun(n,k)=>if(k==Yz&&X.env.scope.kind==.function&&X.env.kindOf n==Ya .cell)then(n,YW)else(n,k)).lookup x=Ya .free
      rw[GX.cO,c2];show Ya (if _ then YW else Yz)=_∨Ya (if _ then YW else Yz)=_;split
      ·exact .inl rfl
      ·exact .inr rfl
  ·obtain⟨v,q⟩:=d.cell x c (a x c z);exact⟨v,q.keeps s⟩
  ·show upd H2 s2.heap.objs.size (.lst []) Hl.objs.size=Yb;rw[aR (Ne.symm ag)];exact fC
  ·obtain⟨v,q⟩:=d.cell x c (a x c z);rw[aR (YD q.lt)];exact d.freeC x c (a x c z)
  ·exact absurd (show p∈([]:List (Yf×Y1))from hp) (by simp)
  ·show(l.map _).length=N'.length;rw[Yn];exact b5
 have D:∀{f:Hp},(∀b∈fp,f b=Yb)->∀b∈fp,ly (X.blkE E N' sc cl Hl.objs.size s2 H2 fp) [] f b:=λhn b hb=>
  ⟨hn b hb,(ok.exf b hb).1,ok.exfs b hb,.inl hb,(ok.exf b hb).2,λp hp=>absurd (show p∈([]:List (Yf×Y1))from hp) (by simp)⟩
 have P:lr (Ym X.prog X.w) X.A (.compLoop (.ListComp Zk [⟨tg,iter,Zj,0⟩] sc pos) 0 (.ref it) (.ref s2.heap.objs.size) (EL sc cl Hl.objs.size X.env))
   (RR (.ref s2.heap.objs.size) {EL sc cl Hl.objs.size X.env with scope:=sc}) {s2 with heap:=h₁,toks:=s2.toks+ ([]:List (Yg×Yd)).length}:=by
  refine oi (XE:=(X.blkE E N' sc cl Hl.objs.size s2 H2 fp).xe) (λn s'=>∃i L f,aC (X.blkE E N' sc cl Hl.objs.size s2 H2 fp) [] L f s'/\tn i s'.heap/\(∀b∈fp,f b=Yb)/\W i n L f) ?_ (λe s' z=>ao {EL sc cl Hl.objs.size X.env with scope:=sc} e s' (by show s2.heap.objs.size<=Hl.objs.size;rw[Z];exact tB _) rfl z) m0
   ⟨0,_,_,IY,T.keep 0 _ _ G (λb _ o z=>s b o z),λb hb=>?_,w0⟩
  ·rintro n s3 ⟨i,Q,R,I3,al,am,w3⟩;rcases ab i n Q R w3 with⟨stop,qn⟩|⟨go,N,hN,step⟩
   ·refine Ye (bQ (T.done (X.blkE E N' sc cl Hl.objs.size s2 H2 fp) rfl rfl rfl hc i [] s3 Q R (X.blkE E N' sc cl Hl.objs.size s2 H2 fp).xe I3 (D am) al stop) λr M F=>?_);obtain⟨hr,I4⟩:=F;subst hr;exact Yk<|an {EL sc cl Hl.objs.size X.env with scope:=sc} M Q R (by show s2.heap.objs.size<=Hl.objs.size;rw[Z];exact tB _) I4 qn
   ·refine Ye (bQ (T.item (X.blkE E N' sc cl Hl.objs.size s2 H2 fp) rfl rfl rfl hc i [] s3 Q R (X.blkE E N' sc cl Hl.objs.size s2 H2 fp).xe I3 (D am) al go) λr M F=>?_);obtain⟨u,hr,h4⟩:=F;subst hr;refine Ye (bQ h4 λ_ Y F=>?_);obtain⟨x,H5,I5,r5,y5,U,aw⟩:=F;have ax:=I5.pinned (D aw) (T.obj _ _ U);have again:∀{σ7:St} {V:Hp} {s7:Yh},aC (X.blkE E N' sc cl Hl.objs.size s2 H2 fp) ([]++jS fp Y.heap) σ7 V s7->N σ7 V->
      ∃m,m<n/\∃i L f,aC (X.blkE E N' sc cl Hl.objs.size s2 H2 fp) [] L f s7/\tn i s7.heap/\(∀b∈fp,f b=Yb)/\W i m L f:=fun{σ7 V s7} I7 n7=>by
     obtain⟨m',hm,w7⟩:=hN σ7 V n7;refine⟨m',hm,i+ 1,σ7,V,I7.unpinned,T.keep _ _ _ U λb hb o z=>(I7.pin (b,o) (YH _ (YH _ (cS hb z)))).1,λb hb=>?_,w7⟩;obtain⟨o,z,_⟩:=T.obj _ _ U b hb;exact(I7.pin (b,o) (YH _ (YH _ (cS hb z)))).2.1
    refine Ye (bQ (hg cl Hl.objs.size s2 H2 fp b4 _ Y Q H5 x u _ ax r5 (step x H5 y5)) λ_ s6 F=>?_);obtain⟨σ6,H6,I6,q6⟩:=F;refine Ye (bQ (ht cl Hl.objs.size s2 H2 fp _ s6 σ6 H6 _ I6 q6) λok s7 F=>?_);obtain⟨V,I7,q7⟩:=F;cases ok with
    |true=>
     rw[if_pos rfl]at q7⊢;refine Ye (bQ (he cl Hl.objs.size s2 H2 fp _ s7 σ6 V _ I7 q7) λyv s8 F=>?_);obtain⟨y,H8,I8,r8,ys,hD,hz,n8⟩:=F;exact Ye<|bQ (gI (X:=X.blkE E N' sc cl Hl.objs.size s2 H2 fp) _ s8 σ6 H8 (.ref s2.heap.objs.size) [y] (.ref s2.heap.objs.size) [yv] (λ_ f=>N σ6 f) I8 rfl (.cons r8 .nil) ⟨_,ys,y,rfl,rfl,hD,hz,n8⟩)
      λ_ s9 ⟨_,H9,I9,_,n9⟩=>Yk (again I9 n9)
    |false=>
     rw[if_neg Yr]at q7⊢;exact Yk (again I7 q7)
  ·obtain⟨o,z,_⟩:=T.obj 0 _ G b hb;rw[aR (YD (Yq z))];exact(f2 b hb).1
 exact E6 P (T.self X.A 0 _ _ _ (T.keep 0 _ _ G (λb _ o z=>s b o z)) P)
theorem tI{a:BW}(h:v.frame=a.frame):Ed e v=Ed e a:=by
 unfold Ed PySem.frameOf;rw[h]
theorem lT{M:GF}{e L:Yf}{c i:Yd}{Q:Unit->Yh->Prop}(R:FD base l e c i L s.heap)(k:∀h',FD base l e c i L h'->s.heap.UpToSlots h'->Q () {s with heap:=h'}):Yj M A (setFlight (.ref e) (Ya L)) Q XE s:=by
 obtain⟨p,r,t,u,d,T,v,j,m,g,hd,h1,nT,neT,h,dT,h3⟩:=R;have sz:3<j.size:=(Array.getElem?_eq_some_iff.mp h3).1;have a:∀b,b≠T->(s.heap.update T (Em (·.setIfInBounds 3 ((Ya L).elim Cz λf=>BR f)))).get? b=s.heap.get? b:=λb z=>cb _ _ (Ne.symm z);have plain:∀b o,s.heap.get? b=Ya o->(∀d,o.data≠.fields d)->b≠T:=λb o z n q=>by
  rw[q,h]at z;cases z;exact n j dT
 unfold setFlight;refine Ye (wpAny_field m hd h1 ?_);rw[if_pos (by simp)];refine Ck h dT sz (k _ ⟨λb o z=>(a b λq=>?_).trans (p b o z),r,t.of_keeps λb o z n=>⟨o,(a b (plain b o z n)).trans z,rfl⟩,?_⟩ λb o z n=>⟨o.slots,(a b (plain b o z n)).trans z⟩)
 ·rw[q,nT]at z;cases z
 ·exact⟨u,d,T,_,_,(a e (Ne.symm neT)).trans m,g,hd,h1,nT,neT,rf _ h (Obj.isFreed_of_fields (FZ dT _)),FZ dT _,by simp[sz]⟩
theorem k6{b:Yf}{o:Y1}(h:(kv B [C]).get? b=Ya o):b≠C/\B.get? b=Ya o:=by
 have a:b≠C:=λz=>by
  rw[z,Fs [C] (vc C)]at h;cases h
 exact⟨a,D8 [C] h⟩
theorem qB{h:YF}(d:∀b,b≠C->h'.get? b=h.get? b)(e:h.FunFrames B l)(c:C∉cP l):h'.FunFrames (kv B [C]) l:=by
 induction l with
 |nil=>trivial
 |cons v r ih=>
  obtain⟨k,⟨L,o,a,f,g,i⟩,j⟩:=e;have m:L≠C:=λz=>c (by
   unfold cP;rw[xf,a,z];exact YL ..)
  have n:C∉cP r:=λz=>c (by
   unfold cP at z⊢;rw[xf,a];exact Yw _ z)
  refine⟨k,⟨L,o,a,?_,(d L m).trans g,i⟩,ih j n⟩;cases q:(kv B [C]).get? L with
  |none=>rfl
  |some o1=>
   have:=(k6 q).2;rw[f]at this;cases this
section
variable{K:Yc}
theorem z7{i:List (Yf×Y1)}{σ1:St}{QV:Yd->Yh->Prop}(Q:aC (aU (bC P w) P w K mg base N Zb scope f cd A outer s H E) Za σ H2 s2)(U:s2.heap.objs.size<=v.locals)(C:v.frame=(aU (bC P w) P w K mg base N Zb scope f cd A outer s H E).env.frame)(R:∀b∈fp,ly (aU (bC P w) P w K mg base N Zb scope f cd A outer s H E) Za H2 b)(t:aC ((aU (bC P w) P w K mg base N Zb scope f cd A outer s H E).blk N' sc cl v.locals s2 H2 fp) i σ1 H1 s1)(h:bC P w (aU (bC P w) P w K mg base N Zb scope f cd A outer s H E).stack H1 s1 E e s'):
  ∀Z:Yd->Yh->Prop,Yj (Ym P w) (aU (bC P w) P w K mg base N Zb scope f cd A outer s H E).A (Ed e v) (λ_ V=>∃m,V.heap.Ns v.locals m/\∀h',rl v.locals V.heap h'->∀j,Yj (Ym P w) (aU (bC P w) P w K mg base N Zb scope f cd A outer s H E).A (F0 "comprehension.variables-let-go" e {v with scope:=j}:Fe Yd) QV (aU (bC P w) P w K mg base N Zb scope f cd A outer s H E).xe {V with heap:=h'}) Z s':=by
 intro Z;obtain⟨D,W,X,B,Hn,rfl,os,gb,un,hok,fl,hB,hn,q⟩:=h;have J:aC (aU (bC P w) P w K mg base N Zb scope f cd A outer s H E) Za σ H1 s1:=Q.call' (ch:=fp) t.os t.base t.hok t.bare λb hb=>⟨(R b hb).2.2.2.1,(R b hb).2.1,(R b hb).2.2.2.2.1,(R b hb).2.2.2.2.2⟩;obtain⟨m,⟨Y,es,ep,g,k,rC⟩,_⟩:=t.loc;have g:s1.heap.get? v.locals=Ya Y:=g;have F:H1 v.locals=none:=t.free;have l:v.locals∉cP (aU (bC P w) P w K mg base N Zb scope f cd A outer s H E).stack:=λz=>by
  obtain⟨_,o,ho,_⟩:=Q.stack.mem z;exact absurd (Yq ho) (EC.mpr U)
 have eC:s'.heap.get? v.locals=Ya Y:=un.keep _ _ g F l (by simp);have G:Hn v.locals=none:=un.free _ _ g F (by simp);rw[tI C];refine GY J.ok.frames rfl fl λh1 I up1=>?_;obtain⟨sl,L⟩:=up1 _ _ eC λvs z=>by rw[k]at z;cases z
 refine⟨m,⟨_,es,ep,L,k,rC⟩,λh' sb j=>?_⟩;have keep:∀b,b≠v.locals->h'.get? b=h1.get? b:=λb z=>sb.2 b z;obtain⟨k1,k2,k3,oe,vs,T,oT,ts,S,ab,hd,M,nT,neT,hT,dT,h3⟩:=I;have nC:∀b o ws,h1.get? b=Ya o->o.data=.fields ws->b≠v.locals:=λb o ws z d y=>by
  rw[y,L]at z;cases z;have d:Y.data=.fields ws:=d;rw[k]at d;cases d
 have a:∀b,B.get? b=Yb->(kv B [v.locals]).get? b=none:=λb z=>by
  cases y:(kv B [v.locals]).get? b with
  |none=>rfl
  |some o1=>
   have:=(k6 y).2;rw[z]at this;cases this
 have c:FD (kv B [v.locals]) (aU (bC P w) P w K mg base N Zb scope f cd A outer s H E).stack D (.ref W) X s.heap.objs.size h':=by
  refine⟨λb o z=>?_,a _ k2,qB keep k3 l,oe,vs,T,oT,ts,(keep _ (nC _ _ _ S hd)).trans S,ab,hd,M,a _ nT,neT,(keep _ (nC _ _ _ hT dT)).trans hT,dT,h3⟩;obtain⟨z1,z2⟩:=k6 z;exact(keep b z1).trans (k1 b o z2)
 have ac:=(keep _ (nC _ _ _ S hd)).trans S;unfold F0;refine Ye (wpAny_field ac hd M ?_);rw[if_neg (by simp)];have hx:∀h5,FD (kv B [v.locals]) (aU (bC P w) P w K mg base N Zb scope f cd A outer s H E).stack D (.ref W) X s.heap.objs.size h5->h'.UpToSlots h5->(aU (bC P w) P w K mg base N Zb scope f cd A outer s H E).xe (.ref D) {s' with heap:=h5}:=λh5 x O=>by
  show Yj (Ym P w) (A.deeper (Co Zb scope s.heap.objs.size f cd)) (HN (Co Zb scope s.heap.objs.size f cd) (.ref D)) _ _ _;unfold HN;refine Ye (wpAny_noteFrame_againW rfl x.2.2.2 ?_);refine Hz x λh6 ad ag=>?_;obtain⟨j1,j2,⟨_,_,j3⟩,j4⟩:=ad;obtain⟨u1,u2,u3⟩:=rO (Cb:=v.locals) (h':=h6) J rfl rfl rfl un hok (λb o e n r=>hB b o e n (r.imp (fun⟨o0,p⟩=>J.base.there b o0 p (by intro z;cases z)) id)) (λb o z e=>j1 b o (C4 [v.locals] e (by simpa using z)))
   (λb o z e nf=>by
    obtain⟨ak,e1⟩:=up1 b o e nf;obtain⟨al,e2⟩:=O b _ ((keep b z).trans e1) nf;obtain⟨aj,e3⟩:=ag b _ e2 nf;exact⟨aj,e3⟩)
   (CP (YI Q.sz U)) l G rfl
  refine⟨D,W,X,kv B [v.locals],Hn,rfl,os.trans J.os,gb,u1,u2,⟨j1,j2,j3,j4⟩,λb o e n r=>C4 [v.locals] (u3 b o e n r) ?_,hn,q⟩;intro z;rw[YQ.mp z]at r;rcases r with⟨o0,p⟩|⟨u,p⟩
  ·have z0:s.heap.get? v.locals=none:=CP (YI Q.sz U);rw[z0]at p;cases p
  ·rw[G]at p;cases p
 have fr:({v with scope:=j}:BW).frame=Ya s.heap.objs.size:=C;rw[fr]
 first
  |exact Ye (Yk (Ye (lT c λh5 x O=>wpAny_throw (hx h5 x O))))
  |exact Ye (lT c λh5 x O=>wpAny_throw (hx h5 x O))
theorem oy(h:∀x∈sc.names,x.2≠.free):F5 sc v=sc:=by
 unfold F5;have e:(sc.names.map fun(n,k)=>if(k==Yz&&v.scope.kind==.function&&v.kindOf n==Ya .cell)then(n,YW)else(n,k))=sc.names:=by
  refine(List.map_congr_left (g:=id) λx a=>?_).trans (List.map_id _);obtain⟨n,k⟩:=x;have z:(k==Yz)=false:=by
   have:=h _ a;simpa using this
  show(if(k==Yz&&v.scope.kind==.function&&v.kindOf n==Ya .cell)=true then(n,YW)else(n,k))=(n,k);rw[z,BS,BS,if_neg Yr]
 rw[e]
theorem vt{L d:CW}{y:Yg}{i:Nat}{wi:TI}(M:List Yg)(O:List (Option Nat))(hN:N.Nodup)(hy:N[i]?=Ya y)(hl:zO scope y)(hk:sc.kind=.function)(hB:decide (si N M O scope sc)=true)(t:decide (∀x∈sc.names,x.2≠.free)=true)(hi:PI (aU (bC P w) P w K mg base N Zb scope f cd A outer s H E) tg iter wi)(hg:∀cl C s2 H2 fp,M.Nodup->PG ((aU (bC P w) P w K mg base N Zb scope f cd A outer s H E).blkE E M sc cl C s2 H2 fp) tg g)(ht:∀cl C s2 H2 fp,zt ((aU (bC P w) P w K mg base N Zb scope f cd A outer s H E).blkE E M sc cl C s2 H2 fp) Zj tt)(he:∀cl C s2 H2 fp,PE ((aU (bC P w) P w K mg base N Zb scope f cd A outer s H E).blkE E M sc cl C s2 H2 fp) Zk te)(Y:EX (.ListComp Zk [⟨tg,iter,Zj,0⟩] sc pos) (Ya (.Name y L)) d.line (aU (bC P w) P w K mg base N Zb scope f cd A outer s H E).env=pure true:=by rfl)(hs:∀x,Et iter (aU (bC P w) P w K mg base N Zb scope f cd A outer s H E).env x=pure x:=by intro _;rfl):
  PS (aU (bC P w) P w K mg base N Zb scope f cd A outer s H E) (.Assign [.Name y L] (.ListComp Zk [⟨tg,iter,Zj,0⟩] sc pos) d) (uo (uM O wi g tt te) (rn i)):=by
 intro R s0 σ H0 D I h;have Bk:=of_decide_eq_true hB;have Z:=of_decide_eq_true t;have S:F5 sc (aU (bC P w) P w K mg base N Zb scope f cd A outer s H E).env=sc:=oy Z;rw[exec_Assign_Name_used _ _ _ _ Y];refine Ye (Eg (Ye ?_));show Yj _ (aU (bC P w) P w K mg base N Zb scope f cd A outer s H E).A (do let _←comprehension (.ListComp Zk [⟨tg,iter,Zj,0⟩] sc pos) sc (aU (bC P w) P w K mg base N Zb scope f cd A outer s H E).env _ (F4 []) false (dk iter (aU (bC P w) P w K mg base N Zb scope f cd A outer s H E).env) (Ya (Ff (.Name y L) (aU (bC P w) P w K mg base N Zb scope f cd A outer s H E).env))) _ _ s0;refine Ye (xn (wpAny_comprehension_use (u:=Ff (.Name y L) (aU (bC P w) P w K mg base N Zb scope f cd A outer s H E).env) (Q:=λ_ s'=>SP (aU (bC P w) P w K mg base N Zb scope f cd A outer s H E) R D .next s') rfl hs Z hk Bk.2.1
  (bQ (hi R s0 σ H0 _ I h) λv s1 h1=>bQ h1 λak s2 h2=>?_)) (λ_ s' hq=>Yk (Yk hq)) λ_ _ e=>e)
 obtain⟨it,fp,tn,J,H2,e,j,T,ab,F,q⟩:=h2;subst e;obtain⟨W,⟨m0,w0⟩,U⟩:=q s2.heap.objs.size (j.hok.fresh (Yo _));have k:=qb (X:=aU (bC P w) P w K mg base N Zb scope f cd A outer s H E) (E:=E) (cl:=[]) (pos:=pos) (iter:=iter)
  (RR:=λac v r s'=>match r with
   | .ok _=>Yj (Ym P w) (aU (bC P w) P w K mg base N Zb scope f cd A outer s H E).A (Ff (.Name y L) (aU (bC P w) P w K mg base N Zb scope f cd A outer s H E).env ac) (λ_ B=>∃m,B.heap.Ns v.locals m/\∀l,rl v.locals B.heap l->SP (aU (bC P w) P w K mg base N Zb scope f cd A outer s H E) R D .next {B with heap:=l}) (aU (bC P w) P w K mg base N Zb scope f cd A outer s H E).xe s'
   | .error x=>∃m,s'.heap.Ns v.locals m/\∀l,rl v.locals s'.heap l->Yj (Ym P w) (aU (bC P w) P w K mg base N Zb scope f cd A outer s H E).A (F0 "comprehension.variables-let-go" x {v with scope:=sc}:Fe Yd) (λ_ s'=>SP (aU (bC P w) P w K mg base N Zb scope f cd A outer s H E) R D .next s') (aU (bC P w) P w K mg base N Zb scope f cd A outer s H E).xe {s' with heap:=l})
  (Qe:=λH'=>D.nx (σ.set i (Ya (.ref s2.heap.objs.size))) H') rfl hk Bk (λ_ _ z=>nomatch z) (λn z=>absurd rfl (Z _ z)) hg ht he j T ab F w0 U ?_ ?_
 ·rw[S]at k;exact k
 ·intro v s4 σ3 H3 V G qn;have IX:aC (aU (bC P w) P w K mg base N Zb scope f cd A outer s H E) R σ H3 s4:=j.call' (ch:=fp) G.os G.base G.hok G.bare λb hb=>⟨(F b hb).2.2.2.1,(F b hb).2.1,(F b hb).2.2.2.2.1,(F b hb).2.2.2.2.2⟩;have nC:∀{b:Yf} {o:Y1},s2.heap.get? b=Ya o->v.locals≠b:=fun{b o} z=>DL (Yv (Yq z) V);have nL:v.locals≠(aU (bC P w) P w K mg base N Zb scope f cd A outer s H E).env.locals:=DL (Yv j.lt V);have nK:∀x c,(aU (bC P w) P w K mg base N Zb scope f cd A outer s H E).env.cells.lookup x=Ya c->c≠v.locals:=λx c z=>by
   obtain⟨v1,o,ho,_⟩:=j.cell x c z;exact Ne.symm (nC ho)
  obtain⟨m,hn,_⟩:=G.loc;refine F7 (mW IX hN hy hl (v:=.ref s2.heap.objs.size) rfl (λs5 I5 h5=>?_) (.inl rfl));obtain⟨a,sb,ha⟩:=h5;have na:v.locals≠a:=by
   rcases ha with z|z
   ·rw[z];exact nL
   ·exact Ne.symm (nK _ _ z)
  refine⟨m,hn.sameBut sb na,λl ad=>⟨_,H3,?_,qn⟩⟩;exact I5.turned (it:=v.locals) (t':=s5.toks) (λb o hb z=>(ad.2 b hb).trans z) G.free nL (.inr (YI j.sz V)) nK λp hp=>Ne.symm (nC (j.pin p hp).1)
 ·rintro v e s4 V ag ⟨aj,σ1,H1,s1,I1,hx⟩;exact xn (z7 j V ag F I1 hx _) (λ_ s5 ⟨m,hm,z⟩=>⟨m,hm,λl sb=>z l sb sc⟩) λ_ _ z=>z
end
section
variable{e:YN}
theorem yK(F:aP X.prog X.w X.K X.mg X.base (bC X.prog X.w) k f fd ps sp)(c:dA X.K X.mg x f fd ps)(d:ck k X.A)(ha:PA (X.blkE E N' sc cl C s2 H2 fp) (e::es) t)
  (g:Gl (X.blkE E N' sc cl C s2 H2 fp) x:=by rfl) (a:(x==("__debug__":Yg))=false:=by decide) (h:YE (e::es) (X.blkE E N' sc cl C s2 H2 fp).env=(false,dk e (X.blkE E N' sc cl C s2 H2 fp).env)::YE es (X.blkE E N' sc cl C s2 H2 fp).env:=by rfl) (b:(BX pos (YE es (X.blkE E N' sc cl C s2 H2 fp).env)).any (·.1)=false:=by rfl):
  PE (X.blkE E N' sc cl C s2 H2 fp) (.Call (.Name x p) (e::es) [] pos) (m3 sp [] E t):=nE (X:=X.blkE E N' sc cl C s2 H2 fp) F d g c.mg c.kp c.bd .nil zZ ha a h b
end
section
variable{K:Yc}{f0:Yf}{e:YN}
theorem de(F:aP P w K mg base (bC P w) k f fd ps sp)(c:dA K mg x f fd ps)(d:ck k (aU (bC P w) P w K mg base N Zb scope f0 cd A outer s H E).A)(ha:PA (aU (bC P w) P w K mg base N Zb scope f0 cd A outer s H E) (e::es) t)
  (g:Gl (aU (bC P w) P w K mg base N Zb scope f0 cd A outer s H E) x:=by rfl) (a:(x==("__debug__":Yg))=false:=by decide) (h:YE (e::es) (aU (bC P w) P w K mg base N Zb scope f0 cd A outer s H E).env=(false,dk e (aU (bC P w) P w K mg base N Zb scope f0 cd A outer s H E).env)::YE es (aU (bC P w) P w K mg base N Zb scope f0 cd A outer s H E).env:=by rfl) (b:(BX pos (YE es (aU (bC P w) P w K mg base N Zb scope f0 cd A outer s H E).env)).any (·.1)=false:=by rfl):
  PE (aU (bC P w) P w K mg base N Zb scope f0 cd A outer s H E) (.Call (.Name x p) (e::es) [] pos) (m3 sp [] E t):=nE (X:=aU (bC P w) P w K mg base N Zb scope f0 cd A outer s H E) F d g c.mg c.kp c.bd .nil AB ha a h b
end
end L2
namespace L2
open PySem PySem.Spec PyProof.Rows PySem.NumText
variable{X:Cx}{ta tb:TE}{c d:Yg}{σ:St}{H:Hp}
def zV(K:Yc):List V->Hp->VK->Prop:=λe H Q=>∃(a C b c d:Yf),e=[.ref a,.ref b]/\H a=Ya (xO a C)/\H b=Ya (.tup [.ref c,.ref d])/\wA K C/\mr K (.ref C) (.ref c)=Ya false/\mr K (.ref C) (.ref d)=Ya false/\Q (.bl false) H
theorem sY{K:Yc}(i:X.K=K):cY X (.builtin "isinstance") (zV K):=by
 subst i;intro A s σ H B D Q I r h;obtain⟨f,C,g,c,d,rfl,j,k,F,l,m,q⟩:=h;obtain⟨u,v,rfl,o,p⟩:=vK r;cases o;cases p;have t:xM s.heap f C:=(I.hok f _ j).1;obtain⟨_,E,e,w⟩:=(show bU X.prog X.w H s.heap g (.tup [.ref c,.ref d])from I.hok g _ k);obtain⟨n,x⟩:=w.obj;cases e with
 |cons a e=>
  cases e with
  |cons b e=>
   cases e;cases a;cases b;refine PySem.W.kia_tup (o7 F) I.kIn t x (b:=false) ?_ (λz=>nomatch z) λy=>⟨.bl false,H,I.tok y,rfl,q⟩;show Fp X.K (.ref C) [.ref c,.ref d]=Ya false;unfold Fp;rw[l];unfold Fp;rw[m];rfl
section
def xm(c d:Yg)(a b:TE):TE:=λσ H Q=>a σ H λx e=>∃i:Int,x=.int i/\i.natAbs.log2<1920/\(c++YT (toString i)).length<=Yp/\(c++YT (toString i)++d).length<=Yp/\b σ e λy f=>∃j:Int,y=.int j/\j.natAbs.log2<1920/\
 (c++YT (toString i)++d++YT (toString j)).length<=Yp/\Q (.str (c++YT (toString i)++d++YT (toString j))) f
theorem we{a b:YN}{j m n o p q r}(hc:c.length<=Yp)(ha:PE X a ta)(hb:PE X b tb):PE X (.JoinedStr [.Constant (.str c) j n,.FormattedValue a (-1) Yb o,.Constant (.str d) m p,.FormattedValue b (-1) Yb q] r) (xm c d ta tb):=by
 intro k s σ H Q I h;refine JoinedStr_many (D6 (Ea ⟨?_,?_⟩))
 ·rw[q5];exact hc
 rw[q5];refine D6 (FE (bQ (ha k _ σ H _ (I.tok _) h) λv J e=>?_));obtain⟨x,u,w,z,f⟩:=e;obtain⟨i,rfl,A,B,C,f⟩:=f;obtain⟨t,rfl⟩:=z;refine Fq A ⟨B,?_⟩;refine D6 (Ea ⟨C,?_⟩);refine D6 (FE (bQ (hb k _ σ u _ (w.tok _) f) λv K e=>?_));obtain⟨y,D,E,F,g⟩:=e;obtain⟨j,rfl,G,l,g⟩:=g;obtain⟨t,rfl⟩:=F;refine Fq G ⟨l,?_⟩;exact joinParts_nil ⟨.str _,D,E.tok _,⟨_,rfl⟩,g⟩ l
end
theorem xW{Q:VK}(h:ta σ H λx a=>∃i:Int,x=.int i/\i.natAbs.log2<1920/\(c++YT (toString i)).length<=Yp/\(c++YT (toString i)++d).length<=Yp/\tb σ a λy b=>∃j:Int,y=.int j/\j.natAbs.log2<1920/\
 (c++YT (toString i)++d++YT (toString j)).length<=Yp/\Q (.str (c++YT (toString i)++d++YT (toString j))) b):xm c d ta tb σ H Q:=h
theorem v5{z:Yg}{g:TG}{j:TS}{D:fU}(a:Nat->St->Hp->Prop)(h0:a 0 σ H)(n:∀i c σ H,z.cps[i]?=Ya c->a i σ H->g (.str ⟨#[c]⟩) σ H λd f=>j {D with nx:=a (i+ 1),ct:=a (i+ 1),bk:=D.nx} d f)(hd:∀σ H,a z.cps.size σ H->D.nx σ H):
  ∃W:Nat->Nat->St->Hp->Prop,(∃m,W 0 m σ H)/\∀i m σ H,W i m σ H->((w4 z).stop i H/\D.nx σ H)∨((w4 z).go i H/\∃N:St->Hp->Prop,(∀h b,N h b->∃l,l<m/\W (i+ 1) l h b)/\∀x b,(w4 z).yld i H x b->g x σ b λd f=>j {D with nx:=N,ct:=N,bk:=D.nx} d f):=by
 refine⟨λi m σ H=>m=z.cps.size-i/\i<=z.cps.size/\a i σ H,⟨z.cps.size,rfl,kx _,h0⟩,λi m σ H o=>?_⟩;obtain⟨rfl,r,p⟩:=o;rcases xq i z.cps.size with k|k
 ·refine .inr ⟨k,a (i+ 1),λh b q=>⟨z.cps.size-(i+ 1),by omega,rfl,k,q⟩,λx b y=>?_⟩;obtain⟨rfl,c,e,rfl⟩:=y;exact n i c σ _ e p
 ·have e:i=z.cps.size:=by omega
  subst e;exact .inl ⟨k,hd σ H p⟩
theorem pZ(lo d:Option Int)(l a b:Nat)(q:∀n,lo=Ya n->∃k:Nat,n=k/\a=min k l)(f:lo=Yb->a=0)(o:∀n,d=Ya n->∃k:Nat,n=k/\b=min k l)(c:d=Yb->b=l):Y0 lo d 1 l=Y0 (Ya (a:Int)) (Ya (b:Int)) 1 l:=by
 have r:¬ ((a:Int)<0):=by omega
 have h:¬ ((b:Int)<0):=by omega
 have w:a<=l:=by
  cases lo with
  |none=>rw[f rfl];exact kx _
  |some n=>obtain⟨k,_,e⟩:=q n rfl;omega
 have x:b<=l:=by
  cases d with
  |none=>rw[c rfl];exact Yo _
  |some n=>obtain⟨k,_,e⟩:=o n rfl;omega
 have i:max (0:Int) (min (a:Int) l)=a:=by omega
 have j:max (0:Int) (min (b:Int) l)=b:=by omega
 cases lo with
 |none=>
  have s:=f rfl;subst s;cases d with
  |none=>
   have g:=c rfl;subst g;simp only[Y0,h,if_false,i,j];simp;rw[show max (0:Int) (min 0 (b:Int))=0 by omega]
  |some n=>
   obtain⟨k,rfl,g⟩:=o n rfl;have p:¬ ((k:Int)<0):=by omega
   have m:max (0:Int) (min (k:Int) l)=b:=by omega
   simp only[Y0,h,p,if_false,i,j,m];simp;rw[show max (0:Int) (min 0 (l:Int))=0 by omega]
 |some n=>
  obtain⟨k,rfl,s⟩:=q n rfl;have t:¬ ((k:Int)<0):=by omega
  have m:max (0:Int) (min (k:Int) l)=a:=by omega
  cases d with
  |none=>
   have g:=c rfl;subst g;simp only[Y0,r,h,t,if_false,i,j,m];simp
  |some n=>
   obtain⟨u,rfl,g⟩:=o n rfl;have p:¬ ((u:Int)<0):=by omega
   have v:max (0:Int) (min (u:Int) l)=b:=by omega
   simp only[Y0,r,h,t,p,if_false,i,j,m,v];simp
theorem nA(x:Yg)(lo d:Option Int)(a b:Nat)(c:a<=b)(hb:b<=x.length)(e:Y0 lo d 1 x.length=Y0 (Ya (a:Int)) (Ya (b:Int)) 1 x.length):(YV x lo d).cps.toList=(x.cps.toList.drop a).take (b-a):=by
 have f:=StrLaws.sliced_plain x c hb;have p:=StrLaws.strSliceIndices_plain c hb;unfold YV;rw[e];split
 ·rename_i h;rw[p,Yn,Ce]at h;have h:b-a=x.length:=by simpa using h
  have ha:a=0:=by omega
  subst ha;rw[G8,HG,E9];rw[←eE];omega
 ·show((Y0 (Ya (a:Int)) (Ya (b:Int)) 1 x.length).filterMap _).toArray.toList=_;rw[←f]
theorem k9(x:Yg)(k:Nat):(YV x Yb (Ya (k:Int))).cps.toList=x.cps.toList.take k:=by
 have e:=nA x Yb (Ya (k:Int)) 0 (min k x.length) (kx _) (GA _ _) (pZ _ _ _ _ _ (λ_ z=>nomatch z) (λ_=>rfl) (λn z=>⟨k,(Yy z).symm,rfl⟩) (λz=>nomatch z));rw[e,G8,HG,eE];exact List.take_eq_take_min.symm
theorem iM(x:Yg)(k:Nat):(YV x (Ya (k:Int)) Yb).cps.toList=x.cps.toList.drop k:=by
 have e:=nA x (Ya (k:Int)) Yb (min k x.length) x.length (GA _ _) (Yo _) (pZ _ _ _ _ _ (λn z=>⟨k,(Yy z).symm,rfl⟩) (λz=>nomatch z) (λ_ z=>nomatch z) (λ_=>rfl));rw[e,E9 (by rw[DB,eE];exact Yo _)];rcases Nat.le_total k x.length with z|z
 ·rw[DT z]
 ·rw[Gz z,Fb (by rw[eE];exact Yo _),Fb (by rw[←eE];exact z)]
end L2
local macro_rules|`(tactic|sizeOf_list_dec)=>`(tactic|first|exact Nat.le_of_ble_eq_true rfl|exact L2.dz (by omega)|omega)
local macro_rules|`(tactic|sizeOf_list_dec)=>`(tactic|first|assumption|decide|exact ⟨by decide, by decide⟩|exact ⟨by decide, by decide, by decide⟩)
local macro_rules|`(tactic|sizeOf_list_dec)=>`(tactic|with_reducible first|exact L2.qQ|exact L2.uG|exact L2.tX)
local macro_rules|`(tactic|sizeOf_list_dec)=>`(tactic|with_reducible first|exact L2.qr|exact L2.qg|exact L2.rS|exact L2.uU)
local macro_rules|`(tactic|decreasing_trivial_pre_omega)=>`(tactic|first|assumption|(apply L2.bw.of;assumption)|(apply L2.gU.of;assumption)|(refine Or.inl ?_;assumption)|(refine Or.inl ?_;apply L2.bw.of;assumption)|(refine Or.inr ?_;apply L2.gU.of;assumption))
local macro_rules|`(tactic|bv_omega)=>`(tactic|first|assumption|exact L2.av (j := 0) rfl|exact L2.av (j := 1) rfl|exact L2.av (j := 2) rfl|exact L2.av (j := 3) rfl|exact L2.av (j := 4) rfl|exact L2.av (j := 5) rfl)
local macro_rules|`(tactic|array_get_dec)=>`(tactic|array_mem_dec)
local macro_rules|`(tactic|array_get_dec)=>`(tactic|with_reducible first|refine L2.AY ?_|refine L2.Bp ?_|refine L2.Ab ?_|refine L2.Ax ?_)
local macro_rules|`(tactic|array_get_dec)=>`(tactic|with_reducible first|refine L2.vT ?_|refine L2.Ac ?_|refine L2.Bm ?_|refine L2.yV ?_)
local macro_rules|`(tactic|array_get_dec)=>`(tactic|with_reducible first|refine L2.vD ?_|refine L2.yZ ?_|refine L2.wM ?_|refine L2.Al ?_)
local macro_rules|`(tactic|array_get_dec)=>`(tactic|with_reducible first|refine L2.z5 ?_|refine L2.zX ?_|refine L2.yn ?_|refine L2.AV ?_)
local macro_rules|`(tactic|array_get_dec)=>`(tactic|with_reducible first|refine L2.z9 ?_|refine L2.zy ?_|refine L2.zx ?_|refine L2.Ai ?_)
local macro_rules|`(tactic|array_get_dec)=>`(tactic|with_reducible first|refine L2.yR ?_|refine L2.za ?_|refine L2.Be ?_|refine L2.BH ?_)
local macro_rules|`(tactic|array_get_dec)=>`(tactic|with_reducible first|refine L2.Bo ?_|refine L2.AG ?_|refine L2.zc ?_|refine L2.ya ?_)
local macro_rules|`(tactic|array_get_dec)=>`(tactic|with_reducible first|refine L2.zP ?_|refine L2.zb ?_|refine L2.wD ?_|refine L2.zW ?_)
local macro_rules|`(tactic|array_get_dec)=>`(tactic|with_reducible first|refine L2.zg ?_|refine L2.Bc ?_|refine L2.A9 ?_|refine L2.x9 ?_)
local macro_rules|`(tactic|array_get_dec)=>`(tactic|with_reducible first|refine L2.zC ?_|refine L2.yc ?_|refine L2.xQ ?_|refine L2.As ?_)
local macro_rules|`(tactic|array_get_dec)=>`(tactic|with_reducible first|refine L2.Ah ?_|refine L2.AW ?_|refine L2.BI ?_|refine L2.Av ?_)
local macro_rules|`(tactic|array_get_dec)=>`(tactic|with_reducible first|refine L2.yY ?_|refine L2.y2 ?_|refine L2.yr ?_|refine L2.yo ?_)
local macro_rules|`(tactic|array_get_dec)=>`(tactic|(with_reducible refine L2.yF λR hR=>?_))
local macro_rules|`(tactic|array_mem_dec)=>`(tactic|((with_reducible apply L2.Ap);assumption))
local macro_rules|`(tactic|array_mem_dec)=>`(tactic|((with_reducible apply L2.zH);exact rfl))
local macro_rules|`(tactic|array_mem_dec)=>`(tactic|((with_reducible apply L2.BJ);sizeOf_list_dec))
local macro_rules|`(tactic|array_mem_dec)=>`(tactic|((with_reducible apply L2.Am);decreasing_trivial_pre_omega;bv_omega))
local macro_rules|`(tactic|array_mem_dec)=>`(tactic|((with_reducible apply L2.zL);decreasing_trivial_pre_omega;bv_omega))
local macro_rules|`(tactic|array_mem_dec)=>`(tactic|((with_reducible apply L2.zT);decreasing_trivial_pre_omega))
local macro_rules|`(tactic|array_mem_dec)=>`(tactic|((with_reducible apply L2.xS);decreasing_trivial_pre_omega))
local macro_rules|`(tactic|array_mem_dec)=>`(tactic|((with_reducible apply L2.Aq);decreasing_trivial_pre_omega))
local macro_rules|`(tactic|array_mem_dec)=>`(tactic|((with_reducible apply L2.zK);sizeOf_list_dec))
local macro_rules|`(tactic|array_mem_dec)=>`(tactic|((with_reducible apply L2.Aw);sizeOf_list_dec))
local macro_rules|`(tactic|array_mem_dec)=>`(tactic|((with_reducible apply L2.vw);assumption;sizeOf_list_dec))
local macro_rules|`(tactic|array_mem_dec)=>`(tactic|((with_reducible apply L2.wo);decreasing_trivial_pre_omega))
local macro_rules|`(tactic|array_mem_dec)=>`(tactic|with_reducible refine L2.uf ?_)
local macro_rules|`(tactic|array_mem_dec)=>`(tactic|((with_reducible apply L2.vP);decreasing_trivial_pre_omega))
local macro_rules|`(tactic|array_mem_dec)=>`(tactic|with_reducible refine L2.A1 ?_)
local macro_rules|`(tactic|array_mem_dec)=>`(tactic|with_reducible first|refine L2.Ak ?_|refine L2.x4 ?_|refine L2.vU ?_|refine L2.y3 ?_)
local macro_rules|`(tactic|array_mem_dec)=>`(tactic|with_reducible first|refine L2.AZ ?_|refine L2.Ay ?_|refine L2.yX ?_|refine L2.xV ?_)
local macro_rules|`(tactic|array_mem_dec)=>`(tactic|((with_reducible refine L2.qp ?_);(with_reducible refine L2.qp ?_);(with_reducible apply L2.qf);assumption;sizeOf_list_dec))
local macro_rules|`(tactic|array_mem_dec)=>`(tactic|((with_reducible refine L2.qp ?_);(with_reducible apply L2.qf);assumption;sizeOf_list_dec))
local macro_rules|`(tactic|array_mem_dec)=>`(tactic|((with_reducible apply L2.qf);assumption;sizeOf_list_dec))
local macro_rules|`(tactic|array_mem_dec)=>`(tactic|((with_reducible apply L2.yD);assumption;sizeOf_list_dec;sizeOf_list_dec;sizeOf_list_dec))
local macro_rules|`(tactic|array_mem_dec)=>`(tactic|((with_reducible apply L2.zE);assumption;sizeOf_list_dec;sizeOf_list_dec;sizeOf_list_dec))
local macro_rules|`(tactic|array_mem_dec)=>`(tactic|with_reducible refine L2.xU ?_)
local macro_rules|`(tactic|array_mem_dec)=>`(tactic|with_reducible refine L2.An ?_)
local macro_rules|`(tactic|array_mem_dec)=>`(tactic|with_reducible refine L2.yW ?_)
local macro_rules|`(tactic|array_mem_dec)=>`(tactic|with_reducible refine L2.xW ?_)
local macro_rules|`(tactic|cbv)=>`(tactic|repeat' (first|array_get_dec|fail))
namespace L2
open PySem PySem.Spec PyProof.Rows
variable{N:List Yg}{u:TS}{D:fU}{σ:St}{H:Hp}
theorem jG{P:List Yg}{sc:Cg}(a:sc.kind=.function:=by rfl)(b:sc.isCoroutine=false:=by rfl)(c:sc.isGenerator=false:=by rfl)(d:N.Nodup:=by decide +kernel)(e:N.take P.length=P:=by rfl)(f:∀x∈P,sc.names.lookup x=Ya .local∨sc.names.lookup x=Ya .cell:=by decide +kernel)(g:∀y∈sc.names,y.2≠.free:=by decide +kernel):aO N P sc:=⟨a,b,c,d,e,f,g⟩
def Tg(_:YB)(_:YG)(_:Yg->Option Yd)(_:YF):Prop:=True
abbrev nI(K:Yc)(x:Yg)(f:Yf):Prop:=Hy K YC x=Ya (Ya (.ref f))
def qa:List Yg->(List Yd->Prop)->Prop
 |[],p=>p []
 |_::r,p=>∀v,qa r λa=>p (v::a)
theorem xy:∀{a:List Yg} {p:List Yd->Prop},qa a p->∀us:List Yd,us.length=a.length->p us
 |[],_,h,[],_=>h
 |_::_,_,h,v::us,e=>xy (h v) us (Nat.succ.inj e)
section
variable{P:YB}{w:YG}{K:Yc}{mg:Yg->Option Yd}{base h:YF}{x Zb:Yg}{st:Y5}{f:Yf}{fd:YA}{ps:List Yg}{k:Nat}{sp:Sp}
theorem cc.oj(F:cc K x Zb st f fd)(S:aO N ps (aq st))
  (b:∀(a:Yd) (A:Y2) (outer:List BW) (s:Yh) (H:Hp) (vs:List V) (Q:VK) (E:XK),ck k (A.deeper (Co Zb (aq st) s.heap.objs.size f a))->(A.deeper (Co Zb (aq st) s.heap.objs.size f a)).units+ 64<C9->(A.deeper (Co Zb (aq st) s.heap.objs.size f a)).units<C9->(A.deeper (Co Zb (aq st) s.heap.objs.size f a)).units+ 1<C9->sp vs H Q E->
   ∃t,p9 (aU cT P w K mg base N Zb (aq st) f a A outer s H E).nox (cX st) t/\t {nx:=λ_ e=>Q .non e,rt:=Q} (ic N vs) H)
  (len:∀vs H Q E,sp vs H Q E->vs.length=ps.length:=by intro _ _ _ _ h;(repeat obtain⟨_,h⟩:=h)<;>(subst_vars;rfl)):aP P w K mg base cT (k+ 1) f fd ps sp:=F.ok S len λc A o s H vs Q E d h=>b c A o s H vs Q E d d.units d.units0 (jg d) h
theorem cc.bq(F:cc K x Zb st f fd)(h:∀(kV i k:Yd) (l:Option Yf) (j ct:Yd),qa ps λus=>Gs (Cq x Zb (ff st) (cX st) (aq st) .none kV i k l j ct) ⟨us,[]⟩=pure (ps.zip us):=by(repeat refine λ_=>?_);rfl):Binds K fd ps []:=F.binds λa b c d e g us m=>xy (h a b c d e g) us m
theorem cc.cal(F:cc K x Zb st f fd)(X:K.In h)(G:h.Ns YC mg)(a:nI K x f)(q:∀(kV b d:Yd) (e:Option Yf) (c ct:Yd),qa ps λus=>Gs (Cq x Zb (ff st) (cX st) (aq st) .none kV b d e c ct) ⟨us,[]⟩=pure (ps.zip us):=by(repeat refine λ_=>?_);rfl):dA K mg x f fd ps:=⟨PySem.W.mg_of X G a,F.kp,F.bq q⟩
end
theorem BM{α:Type}:∀{us:List α},us.length=1->∃a,us=[a]|[a],_=>⟨a,rfl⟩
theorem BN{α:Type}:∀{us:List α},us.length=3->∃a b c,us=[a,b,c]|[a,b,c],_=>⟨a,b,c,rfl⟩
theorem yF{a b c:TS}(h:∀R:TS,R=jh c u->jh a (jh b R) D σ H):jh a (jh b (jh c u)) D σ H:=h _ rfl
theorem Ap{R:TS}(e:R=u)(h:u D σ H):R D σ H:=e▸h
end L2
namespace K14
open PySem L2
set_option hygiene false in
local macro_rules|`(∅)=>`(aP P w K mg base cT)
variable{mg:Yg->Option Yd}{f u u':Yf}{fd:YA}{x y kd:Yg}{n b i k:Int}{c d m:Nat}{H H':Hp}{l ts:List Yg}{p:Int×Int}{xs:List V}{ps:List (Int×Int)}{Q:VK}
noncomputable def jF(i:Nat):Y5:=PySem.Challenge.pw_groupcall_k14_calls_read.main.body.getD i (.Pass ⟨0,0,0,0⟩)
noncomputable abbrev df:Y5:=gK (jF 14) 0
noncomputable abbrev cE:Y5:=gK (jF 15) 0
noncomputable abbrev iA:Y5:=jF 8
noncomputable abbrev jV:Y5:=jF 18
noncomputable abbrev fS:Y5:=jF 19
noncomputable abbrev dD:Y5:=gK (jF 15) 1
noncomputable abbrev cV:Y5:=gK (jF 16) 0
noncomputable abbrev dJ:Y5:=gK (jF 17) 0
noncomputable abbrev gq:Y5:=gK (jF 14) 7
section
variable{P:YB}{w:YG}{K:Yc}{base:YF}
def pK(K:Yc)(v:V):Prop:=∃a,v=.ref a/\∀H,gU K H a [.str "own",.str "heard",.str "one"]
def cQ(K:Yc):Sp:=λe H Q _=>∃(p:Yf) (n c k w b:V),e=[.ref p,n,c,k,w,b]/\∃C d,fq K C/\H p=Ya (.ins C d [])/\∀a,qw p H a->a p=Ya (.ins C d (sR n c k w b))->Q .non a
def dh(K:Yc):Sp:=λe H Q _=>∃(p:Yf) (n c k w f:V),e=[.ref p,n,c,k,w,f]/\∃C d,fq K C/\H p=Ya (.ins C d [])/\∀a t,(∀b o,H b=Ya o->b≠p->a b=Ya o)->a t=Ya (.tup [])->a p=Ya (.ins C d (sR n c k w (.ref t)))->Q .non a
abbrev lP:List Yg:=["self","number","caller","count","word","causes"]
theorem jY:aO ["self","number","caller","count","word","causes"] lP (aq df):=jG
variable(eV:Tg P w mg base)
include eV in
theorem jK(F:cc K "__init__" "Call.__init__" df f fd):∅ 1 f fd lP (cQ K):=by
 refine F.oj jY ?_;rintro _ _ _ _ _ _ _ _ _ _ _ _ ⟨p,n,c,k,w,l,rfl,h⟩;refine⟨_,(ah (jy (K:=K) rfl (pv 0) (pv 1) rfl)
   (ah (jy (K:=K) rfl (pv 0) (pv 2) rfl)
   (ah (jy (K:=K) rfl (pv 0) (pv 3) rfl)
   (ah (jy (K:=K) rfl (pv 0) (pv 4) rfl)
   (ai (jy (K:=K) rfl (pv 0) (pv 5) rfl)))))),?_⟩
 obtain⟨C,m,⟨cl,n1,n2,n3,n4,n5⟩,o,q⟩:=h;cbv;intro r d s;cbv;intro t e u;cbv;intro v g x;cbv;intro y i z;cbv;intro A j a;rw[v7]at a;exact q _ (λb h=>(j b h).trans ((i b h).trans ((g b h).trans ((e b h).trans (d b h))))) a
theorem gT:aO ["self","number","caller","count","word","causes"] lP (aq cE):=jG
variable{bR:Yf}{iB:Yf}{cR:YA}(fE:∅ 1 bR cR lP (cQ K))(bV:Binds K cR lP [])(qF:fq K iB)(oJ:mg "Call"=Ya (.ref iB))(b8:vj K iB "__init__" bR)
include eV fE bV qF oJ b8 in
theorem gR(F:cc K "__init__" "OwnCall.__init__" cE f fd):∅ 2 f fd lP (dh K):=by
 refine F.oj gT ?_;rintro _ _ _ _ _ _ _ _ i _ _ _ ⟨p,n,c,k,w,r,rfl,h⟩;refine⟨_,(ai (oQ (uS rfl oJ b8 fE bV i (aa (pv 0) (aa (pv 1) (aa (pv 2) (aa (pv 3) (aa (pv 4) (aa (cG af) af))))))))),?_⟩;obtain⟨C,j,T,d,q⟩:=h;cbv;intro t s u a l;cbv;refine⟨p,n,c,k,w,_,rfl,C,j,T,a _ _ d,λv g m=>?_⟩;cbv;exact q _ t (λb o e hb=>g.at hb (a _ _ e)) (g.of (a _ _ d) l (by intro z;cases z)) m
def kE(K:Yc):Sp:=λa H Q _=>∃(i:Int),a=[.int i]/\Q (.bl true) H
theorem o5:aO ["value"] ["value"] (aq iA):=jG
variable(vx:mg "bool"=Yb)(kF:mg "int"=Yb)(br:mg "isinstance"=Yb)
include eV vx kF br in
theorem pO(F:cc K "is_whole" "is_whole" iA f fd):∅ 1 f fd ["value"] (kE K):=by
 refine F.oj o5 ?_;rintro _ _ _ _ _ _ _ _ _ _ _ _ ⟨i,rfl,h⟩;refine⟨_,(ai (aH (oM (aV (jQ (K:=K) rfl) (by rfl) br ir (aa (pv 0) (aa (kR kF Ca) af))) (ou (y9 (aV (jQ (K:=K) rfl) (by rfl) br ir (aa (pv 0) (aa (kR vx HL) af)))))))),?_⟩;cbv;refine⟨_,_,_,true,rfl,.int _,(by kernel_rfl),?_⟩;cbv;refine⟨_,_,_,false,rfl,.int _,(by kernel_rfl),?_⟩;cbv;exact h
def lz(K:Yc):Sp:=λa H Q _=>∃(i:Int),a=[.int i]/\-(10^60)<i/\i<10^60/\Q (.bl true) H
theorem qm:aO ["word"] ["word"] (aq jV):=jG
variable{k8:Yf}{ko:YA}(kY:∅ 1 k8 ko ["value"] (kE K))(lZ:dA K mg "is_whole" k8 ko ["value"])(xK:mg "abs"=Yb)
include eV kY lZ xK in
theorem qS(F:cc K "is_word" "is_word" jV f fd):∅ 2 f fd ["word"] (lz K):=by
 refine F.oj qm ?_;rintro _ _ _ _ _ _ _ _ a _ _ _ ⟨i,rfl,h⟩;refine⟨_,(ai (aH (oM (a5 kY lZ a (aa (pv 0) af)) (ou (fi j5 (aV vr (by rfl) xK HS (aa (pv 0) af)) (ay fM ae ae) (aF _)))))),?_⟩;obtain⟨h1,h2,q⟩:=h;cbv;refine⟨_,rfl,?_⟩;cbv;refine⟨_,rfl,?_⟩;cbv;have e:decide ((if i<0 then-i else i)<10^(60:Int).toNat)=true:=by
  refine decide_eq_true ?_;show(if i<0 then-i else i)<10^60;split<;>omega
 rw[e];exact q
def xF(kd:Yg):Prop:=kd="own"∨kd="heard"∨kd="one"
def BB(mg:Yg->Option Yd)(kd:Yg)(C:Yf):Prop:=(kd="own"/\mg "OwnCall"=Ya (.ref C))∨(kd="heard"/\mg "HeardCall"=Ya (.ref C))∨(kd="one"/\mg "OneCall"=Ya (.ref C))
def i7(K:Yc)(mg:Yg->Option Yd):Sp:=λf H Q _=>∃(n c k:Int) (a:Yg) (w:Int) (t:Yf),f=[.int n,.int c,.int k,.str a,.int w,.ref t]/\∃d,H t=Ya (.tup d)/\-(10^60)<w/\w<10^60/\xF a/\
 (∀b p C g e,aX H b->H p=Yb->BB mg a C->fq K C->b p=Ya (.ins C g (sR (.int n) (.int c) (.int k) (.int w) (.ref e)))->b e=Ya (.tup (if a="own"then[]else d))->Q (.ref p) b)
abbrev va:List Yg:=["number","caller","count","kind","word","causes"]
theorem n6:aO ["number","caller","count","kind","word","causes"] va (aq fS):=jG
variable{dB:Yf}{mP:Yf}{bh:Yf}{bH:Yf}{bL:Yf}{di:YA}{lR:YA}{pA:V}{pz:Yd}(cH:∅ 2 bR cR lP (cQ K))(dY:∅ 2 dB di lP (dh K))(dP:Binds K di lP [])(m7:∅ 3 mP lR ["word"] (lz K))(mV:dA K mg "is_word" mP lR ["word"])(bg:fq K bh)(bD:fq K bH)(bE:fq K bL)(bc:mg "HeardCall"=Ya (.ref bh))(bJ:mg "OneCall"=Ya (.ref bH))(bM:mg "OwnCall"=Ya (.ref bL))(ek:Mk K bh bR)(gH:Mk K bH bR)(gM:Mk K bL dB)(dO:mg "KINDS"=Ya pz)(dU:RelV pA pz)(dQ:pK K pA)
include eV cH bV dY dP m7 mV bg bD bE bc bJ bM ek gH gM dO dU dQ in
theorem nO(F:cc K "make_call" "make_call" fS f fd):∅ 4 f fd va (i7 K mg):=by
 refine F.oj n6 ?_;rintro _ _ _ _ H _ _ _ s g _ _ ⟨n,c,k,I,w,t,rfl,h⟩;refine⟨_,(ah (aY (az (nQ (K:=K) rfl g) (pv 3) (cW rfl dO dU) (by rfl)) (ai pT) aG)
   (ah (aY (f7 (cM K rfl (a5 m7 mV s (aa (pv 4) af)))) (ai pT) aG)
   (ah (aY (az dE (pv 3) aA (aF _)) (ai (aH (nD gM dY s rfl bM dP .nil mR (aa (pv 0) (aa (pv 1) (aa (pv 2) (aa (pv 4) (aa (pv 5) af)))))))) aG)
   (ah (aY (az dE (pv 3) aA (aF _)) (ai (aH (nD ek cH s rfl bc bV .nil mR (aa (pv 0) (aa (pv 1) (aa (pv 2) (aa (pv 4) (aa (pv 5) af)))))))) aG)
   (ai (aH (nD gH cH s rfl bJ bV .nil mR (aa (pv 0) (aa (pv 1) (aa (pv 2) (aa (pv 4) (aa (pv 5) af)))))))))))),?_⟩
 obtain⟨J,y,A,B,i,q⟩:=h;obtain⟨L,rfl,C⟩:=dQ;have v:=C H;cbv;refine wF i v ?_;cbv;refine⟨_,rfl,A,B,?_⟩;cbv;rcases i with rfl|rfl|rfl
 ·rw[AF];cbv;intro p a z d j l;refine⟨p,_,_,_,_,_,rfl,_,a,bE,l,λu D E m G=>⟨rfl,?_⟩⟩;refine q _ p _ a D (λb o e=>E _ _ (j _ _ e) (aW e d)) d (.inl ⟨rfl,bM⟩) bE G ?_;rw[if_pos rfl];exact m
 ·rw[z3];cbv;rw[Ag];cbv;intro p a z d j l;refine⟨p,_,_,_,_,_,rfl,_,a,bg,l,λu x m=>⟨rfl,?_⟩⟩;have r:aX H u:=λb o e=>x.at (aW e d) (j _ _ e);refine q _ p _ a t r d (.inr (.inl ⟨rfl,bc⟩)) bg m ?_;rw[if_neg (by decide +kernel)];exact r _ _ y
 ·rw[Ae];cbv;rw[zS];cbv;intro p a z d j l;refine⟨p,_,_,_,_,_,rfl,_,a,bD,l,λu x m=>⟨rfl,?_⟩⟩;have r:aX H u:=λb o e=>x.at (aW e d) (j _ _ e);refine q _ p _ a t r d (.inr (.inr ⟨rfl,bJ⟩)) bD m ?_;rw[if_neg (by decide +kernel)];exact r _ _ y
def fu(K:Yc):Sp:=λa H Q _=>∃(p:Yf),a=[.ref p]/\Q (.str "own") H
def d3(K:Yc):Sp:=λa H Q _=>∃(p:Yf),a=[.ref p]/\Q (.str "heard") H
def fJ(K:Yc):Sp:=λa H Q _=>∃(p:Yf),a=[.ref p]/\Q (.str "one") H
abbrev eW:List Yg:=["self"]
theorem kH:aO ["self"] eW (aq dD):=jG
include eV in
theorem kO(F:cc K "kind" "OwnCall.kind" dD f fd):∅ 1 f fd eW (fu K):=by
 refine F.oj kH ?_;rintro _ _ _ _ _ _ _ _ _ _ _ _ ⟨p,rfl,h⟩;refine⟨_,(ai (aH aA)),?_⟩;cbv;exact h
theorem iU:aO ["self"] eW (aq cV):=jG
include eV in
theorem jl(F:cc K "kind" "HeardCall.kind" cV f fd):∅ 1 f fd eW (d3 K):=by
 refine F.oj iU ?_;rintro _ _ _ _ _ _ _ _ _ _ _ _ ⟨p,rfl,h⟩;refine⟨_,(ai (aH aA)),?_⟩;cbv;exact h
theorem kP:aO ["self"] eW (aq dJ):=jG
include eV in
theorem kM(F:cc K "kind" "OneCall.kind" dJ f fd):∅ 1 f fd eW (fJ K):=by
 refine F.oj kP ?_;rintro _ _ _ _ _ _ _ _ _ _ _ _ ⟨p,rfl,h⟩;refine⟨_,(ai (aH aA)),?_⟩;cbv;exact h
structure CO(K:Yc)(mg:Yg->Option Yd)(H:Hp)(p:Yf)(kd:Yg)(n c k w:Int)(t:Yf):Prop where
 ob:∃C dx,BB mg kd C/\fq K C/\H p=Ya (.ins C dx (sR (.int n) (.int c) (.int k) (.int w) (.ref t)))
def iT(K:Yc)(mg:Yg->Option Yd):Sp:=λd H Q _=>∃(p:Yf),d=[.ref p]/\∃b n c k w t,CO K mg H p b n c k w t/\∀a u,aX H a->H u=Yb->a u=Ya (.tup [.int n,.int c,.int k,.str b,.int w,.ref t])->Q (.ref u) a
theorem og:aO ["self"] eW (aq gq):=jG
variable{f9:Yf}{eO:Yf}{fN:Yf}{fz:YA}{ee:YA}{fH:YA}(gd:∅ 1 f9 fz eW (fu K))(gu:Binds K fz eW [])(eU:∅ 1 eO ee eW (d3 K))(eY:Binds K ee eW [])(gw:∅ 1 fN fH eW (fJ K))(gi:Binds K fH eW [])(bX:iE K bh "kind" eO)(cz:iE K bH "kind" fN)(cA:iE K bL "kind" f9)
include eV gd gu eU eY gw gi bg bD bE bc bJ bM bX cz cA in
theorem oK(F:cc K "told" "Call.told" gq f fd):∅ 2 f fd eW (iT K mg):=by
 refine F.oj og ?_;rintro _ _ _ _ _ _ _ _ j _ _ _ ⟨p,rfl,h⟩;refine⟨_,(ai (aH (cG (aa (jA (K:=K) rfl (pv 0) rfl) (aa (jA (K:=K) rfl (pv 0) rfl) (aa (jA (K:=K) rfl (pv 0) rfl) (aa (nq (qW.cons bE.cl cA gd gu (qW.cons bg.cl bX eU eY (qW.cons bD.cl cz gw gi qW.nil))) (pv 0) j) (aa (jA (K:=K) rfl (pv 0) rfl) (aa (jA (K:=K) rfl (pv 0) rfl) af))))))))),?_⟩;obtain⟨o,n,c,k,q,t,⟨C,r,l,m,s⟩,i⟩:=h;obtain⟨cl,n1,n2,n3,n4,n5⟩:=id m;rcases l with⟨rfl,e⟩|⟨rfl,e⟩|⟨rfl,e⟩
 ·rw[bM]at e;cases e;cbv;refine⟨p,rfl,?_⟩;cbv;intro u b a d g;exact i b u d a g
 ·rw[bc]at e;cases e;cbv;refine⟨p,rfl,?_⟩;cbv;intro u b a d g;exact i b u d a g
 ·rw[bJ]at e;cases e;cbv;refine⟨p,rfl,?_⟩;cbv;intro u b a d g;exact i b u d a g
noncomputable abbrev eF:Y5:=jF 20
def m6(K:Yc)(v:V):Prop:=v=.str "0123456789"
def fv(K:Yc)(v:V):Prop:=v=.int 60
def js(K:Yc)(v:V):Prop:=v=.int 62
structure fK(x:Yg):Prop where
 lo:∀c∈x.cps.toList,c<128
 le:x.length<=1000
theorem fK.all(h:fK x):x.cps.all (·<128)=true:=by
 rw[←GC,DE];intro c hc;exact decide_eq_true (h.lo c hc)
theorem fK.lay(h:fK x):(FF x).canLay0=true:=by
 show x.cps.all (·<0x110000)=true;rw[←GC,DE];intro c hc;have:=h.lo c hc;exact decide_eq_true (by omega)
theorem aB{n:Nat}(h:n<=5000):n<=Yp:=YI h (by decide +kernel)
noncomputable def pM(c:Nat):Bool:=decide (48<=c)&&decide (c<=57)
theorem wQ:∀c:Fin 128,(!(uc ("0123456789":Yg) ⟨#[c.1]⟩ 0 ("0123456789":Yg).length 1).isEmpty)=pM c.1:=by decide +kernel
theorem u7(h:c<128):(!(uc ("0123456789":Yg) ⟨#[c]⟩ 0 ("0123456789":Yg).length 1).isEmpty)=pM c:=wQ ⟨c,h⟩
noncomputable def p8(x:Yg):Bool:=!decide (x="")&&x.cps.toList.all pM&&decide (x.length<=60)&& !(decide (x.cps.toList.head?=Ya 48)&& !decide (x="0"))
noncomputable def gQ(x:Yg):Option Int:=if p8 x=true then Ya ((xa x.cps.toList:Nat):Int)else Yb
theorem yp(b:List Nat)(h:∀c∈b,pM c=true):∀a,b.foldl (λf c=>f*10+ (c-48)) a<(a+ 1)*10^b.length:=by
 induction b with
 |nil=>intro a;simp
 |cons c b ih=>
  intro a;have hc:=h c (YL ..);unfold pM at hc;rw[Cr,decide_eq_true_eq,decide_eq_true_eq]at hc;have:=ih (λd hd=>h d (Yw _ hd)) (a*10+ (c-48));rw[List.foldl_cons,YJ,Nat.pow_succ];refine Yv this ?_;have e:(a+ 1)*(10^b.length*10)=((a+ 1)*10)*10^b.length:=by rw[Nat.mul_comm (10^b.length) 10,Nat.mul_assoc]
  rw[e];exact Nat.mul_le_mul_right _ (by omega)
theorem lA(h:p8 x=true):x≠""/\(∀c∈x.cps.toList,pM c=true)/\x.length<=60/\(x.cps.toList.head?=Ya 48->x="0"):=by
 unfold p8 at h;simp only[Cr,Bool.not_eq_true',decide_eq_false_iff_not,decide_eq_true_eq,Bool.and_eq_false_iff]at h;obtain⟨⟨⟨h1,h2⟩,h3⟩,h4⟩:=h;refine⟨h1,DE.mp h2,h3,λz=>?_⟩;rcases h4 with w|w
 ·exact absurd z w
 ·simpa using w
theorem ud(h:gQ x=Ya n):p8 x=true/\n=((xa x.cps.toList:Nat):Int):=by
 unfold gQ at h;split at h
 ·rename_i z;exact⟨z,(Yy h).symm⟩
 ·cases h
theorem iJ(h:gQ x=Ya n):0<=n/\n<10^60:=by
 obtain⟨p,rfl⟩:=ud h;obtain⟨_,h2,h3,_⟩:=lA p;have:=yp x.cps.toList h2 0;have l:(0+ 1)*10^x.cps.toList.length<=10^60:=by
  rw[Nat.zero_add,Nat.one_mul];exact DU (by decide) (by rw[←eE];exact h3)
 have k:xa x.cps.toList<10^60:=Yv this l;omega
theorem qY(h:gQ x=Ya n):HC x=Ya n:=by
 obtain⟨p,rfl⟩:=ud h;obtain⟨h1,h2,h3,_⟩:=lA p;refine PySem.intText_digits (λc hc=>?_) (λz=>h1 (gP z)) (by omega);have:=h2 c hc;unfold pM at this;rw[Cr,decide_eq_true_eq,decide_eq_true_eq]at this;exact this
def Rz(mg:Yg->Option Yd)(H:Hp)(E:XK):Prop:=∀(a:Hp) (C b:Yf),aX H a->mg "NoCall"=Ya (.ref C)->a b=Yb->E (.ref b) (Ya C) a
theorem Rz.up{a:Hp}{E:XK}(h:Rz mg H E)(s:aX H a):Rz mg a E:=λb C c s'=>h b C c (s.trans s')
def dF(K:Yc)(mg:Yg->Option Yd):Sp:=λb H Q E=>∃(x:Yg),b=[.str x]/\fK x/\(∀n,gQ x=Ya n->∀a,aX H a->Q (.int n) a)/\(gQ x=Yb->Rz mg H E)
abbrev bY:List Yg:=["text"]
theorem gx:aO ["text","plain"] bY (aq eF):=jG
variable{ao:Yf}{mX:V}{m8:Yd}{fA:V}{fw:Yd}(xI:mg "all"=Yb)(cq:mg "len"=Yb)(gN:mg "DIGITS"=Ya m8)(gz:RelV mX m8)(gF:m6 K mX)(cx:mg "MOST_FIGURES"=Ya fw)(cy:RelV fA fw)(cC:fv K fA)(au:mg "NoCall"=Ya (.ref ao))(aE:yh K ao [.type "ValueError",.type "Exception",.type "BaseException",.type "object"] "ValueError.__new__")
include eV xI kF cq gN gz gF cx cy cC au aE in
theorem kZ(F:cc K "read_number" "read_number" eF f fd):aP P w K mg base (bC P w) 1 f fd bY (dF K mg):=by
 refine F.okX gx (λS H Q E h=>?_) (λT A outer s H S Q E g h=>?_)
 ·obtain⟨x,rfl,_⟩:=h;rfl
 obtain⟨x,rfl,h⟩:=h;have N:=g.units;have U:=g.units0;have hu:=jg g;refine⟨_,(ah (aL (i:=1) gx.nd rfl (Or.inl rfl) (oM (fi lJ (pv 0) aA (aF _)) (ou (aV (vp rfl) (by rfl) xI HU (aa (rp ["sign"] [Yb] rfl rfl (by kernel_rfl) (uY (pv 0)) (λ_ _ _ _ _ nd=>fg (i:=0) nd rfl (Or.inl rfl)) (λ_ _ _ _ _=>oG) (λ_ _ _ _ _=>(fi sF (pv 0) (cW rfl gN gz) (by rfl)))) af)))))
   (ah (aY (PW.pt (fF (f7 (uh (K:=K) rfl (pv 1))) (fF (az mZ (aV fh (by rfl) cq jJ (aa (pv 0) af)) (cW rfl cx cy) (aF _)) (jT (PW.pt (iy (az dE (a4 qH (pv 0) ae (λ_ _=>rfl)) aA (aF _)) (gJ (az lJ (pv 0) aA (aF _))))))))) (ai (bZ YM (by decide +kernel) aE (by rfl) au (aa aA af))) aG)
   (ai (aH (a7 gO (by rfl) kF Ca (aa (pv 0) af)))))),?_⟩
 obtain⟨C,q,e⟩:=h;obtain rfl:=gF;obtain rfl:=cC;have le:=C.le;have no:∀(r:Hp),aX H r->p8 x=false->∀D σ,qk ao E (eT (tC (.str "a number is no plain one of at most sixty figures")) pL) D σ r:=λr W t D σ=>by
  refine cI ?_;cbv;exact⟨by show 1<=Yp;decide +kernel,λX G=>e (by unfold gQ;rw[t];rfl) r ao X W au G⟩
 have k:∀(σ:St) (B:Hp),aX H B->p8 x=true->σ[0]?=Ya (Ya (.str x))->vf (AN (λY H Q=>∃(z:Yg) (n:Int),Y=[V.str z]/\HC z=Ya n/\z.length<=640/\Q (V.int n) H) (eT (jH 0) pL)) {nx:=λx Z=>Q V.non Z,rt:=Q} σ B:=λσ B a t e=>by
  have g:gQ x=Ya ((xa x.cps.toList:Nat):Int):=by unfold gQ;rw[t];rfl
  exact⟨_,e,_,_,rfl,qY g,by have:=(lA t).2.2.1;omega,q _ g _ a⟩
 refine bN ?_;cbv;by_cases l:x=""
 ·rw[decide_eq_true l];refine a6 (λh=>absurd h (by decide)) λ_=>?_;cbv;refine bN ?_;cbv;exact no _ (.refl _) (by unfold p8;rw[decide_eq_true l];rfl) _ _
 rw[decide_eq_false l];refine a6 (λ_=>?_) λh=>absurd rfl h;cbv;refine⟨_,rfl,C.all,λD O=>?_⟩;refine vy (z:=x) (λi σ B=>∃v,σ=[v]/\aX H B/\B D=Ya (.lst (((x.cps.toList.take i).map pM).map V.bl))) ⟨Yb,rfl,aZ O,aI⟩ ?_ ?_
 ·rintro i c σ B I ⟨v1,rfl,a,u⟩;have d:x.cps.toList[i]?=Ya c:=by rw[gs];exact I
  have hi:=(YY.mp d).1;have o:=C.lo c (ar d);rw[←eE]at hi;cbv;refine⟨_,_,rfl,rfl,?_⟩;rw[u7 o];refine⟨_,u,dz (by rw[Yn,Yn,Cp];omega),_,rfl,λb o e=>?_,?_⟩
  ·rw[aR (aW e O)];exact a b o e
  ·rw[aI,eR d,xw,xw];rfl
 rintro σ B ⟨v1,rfl,a,u⟩;rw[show x.cps.size=x.cps.toList.length from pe.symm,Cu]at u;cbv;refine⟨D,_,rfl,bw.of u,?_⟩;have m:((x.cps.toList.map pM).all λb=>b)=x.cps.toList.all pM:=by
  rw[Ht];rfl
 rw[m];cases hall:x.cps.toList.all pM with
 |false=>
  cbv;refine bN ?_;cbv;exact no _ a (by unfold p8;rw[hall];simp) _ _
 |true=>
  cbv;refine bN ?_;cbv;refine⟨_,rfl,aB (by omega),?_⟩;cbv;refine a6 (λh=>?_) λh60=>?_
  ·have h:=of_decide_eq_true h;rw[if_pos rfl];exact no _ a (by unfold p8;rw[decide_eq_false (show ¬ x.length<=60 by omega)];simp) _ _
  have h60:x.length<=60:=by
   rcases xq 60 x.length with z|z
   ·exact absurd (decide_eq_true (by omega)) h60
   ·exact z
  cbv;have nx:x.cps.toList≠[]:=λz=>l (gP z);obtain⟨y,r0,R⟩:=Eo nx;refine⟨_,_,y,rfl,rfl,aB (by omega),?_,?_⟩
  ·rw[R];exact av (j:=0) rfl
  have J:x.cps.toList.head?=Ya y:=by rw[R];rfl
  have L:decide ((⟨#[y]⟩:Yg)="0")=decide (x.cps.toList.head?=Ya 48):=by
   rw[J,decide_eq_decide];constructor
   ·intro z;have M:(⟨#[y]⟩:Yg)=⟨#[48]⟩:=z.trans (by decide +kernel);injection M with M;rw[(Ep (Array.mk.inj M)).1]
   ·intro z;rw[Yy z];decide +kernel
  cbv;rw[L];have pv:p8 x=!(decide (x.cps.toList.head?=Ya 48)&& !decide (x="0")):=by
   unfold p8;rw[hall,decide_eq_false l,decide_eq_true h60];rfl
  refine a6 (λh=>?_) λh=>?_
  ·cbv;refine a6 (λp=>?_) λp=>?_
   ·exact no _ a (by rw[pv,h,p];rfl) _ _
   ·have p:(!decide (x="0"))=false:=by simpa using p
    exact k _ _ a (by rw[pv,h,p];rfl) rfl
  ·have h:decide (x.cps.toList.head?=Ya 48)=false:=by simpa using h
   exact k _ _ a (by rw[pv,h];rfl) rfl
noncomputable abbrev gp:Y5:=jF 21
noncomputable abbrev fe:Y5:=jF 22
noncomputable abbrev fT:Y5:=jF 23
noncomputable abbrev fY:Y5:=jF 24
noncomputable abbrev fb:Y5:=jF 25
noncomputable def oR(x:Yg):Option Int:=(gQ x).bind λn=>if 62<n then Yb else Ya n
noncomputable def oA(x:Yg):Option Int:=(gQ x).bind λn=>if n=0 then Yb else Ya n
noncomputable def mE(x:Yg):Option Int:=if D5 x "-"=true then(gQ (YV x (Ya 1) Yb)).bind λn=>if n=0 then Yb else Ya (-n)else gQ x
def iY(K:Yc)(mg:Yg->Option Yd):Sp:=λb H Q E=>∃(x:Yg),b=[.str x]/\fK x/\(∀n,oR x=Ya n->∀a,aX H a->Q (.int n) a)/\(oR x=Yb->Rz mg H E)
def ig(K:Yc)(mg:Yg->Option Yd):Sp:=λb H Q E=>∃(x:Yg),b=[.str x]/\fK x/\(∀n,oA x=Ya n->∀a,aX H a->Q (.int n) a)/\(oA x=Yb->Rz mg H E)
def i6(K:Yc)(mg:Yg->Option Yd):Sp:=λb H Q E=>∃(x:Yg),b=[.str x]/\fK x/\(∀n,mE x=Ya n->∀a,aX H a->Q (.int n) a)/\(mE x=Yb->Rz mg H E)
theorem lg(h1:-(10^60)<n)(h2:n<10^60):n.natAbs.log2<1920:=yN h1 h2
theorem ji(a b:Yg):(a++b).length=a.length+ b.length:=Str.length_append a b
theorem jq:aO ["text","hand"] bY (aq gp):=jG
variable{eN:Yf}{dH:YA}{jx:V}{jC:Yd}(bB:aP P w K mg base (bC P w) 1 eN dH bY (dF K mg))(a8:dA K mg "read_number" eN dH bY)(cK:mg "LAST_HAND"=Ya jC)(cJ:RelV jx jC)(dy:js K jx)
include eV bB a8 cK cJ dy au aE in
theorem oO(F:cc K "read_hand" "read_hand" gp f fd):aP P w K mg base (bC P w) 2 f fd bY (iY K mg):=by
 refine F.okX jq (λj H Q E h=>?_) (λk A outer s H j Q E a h=>?_)
 ·obtain⟨x,rfl,_⟩:=h;rfl
 obtain⟨x,rfl,h⟩:=h;have d:=a.units;have l:=a.units0;have r:=jg a;refine⟨_,(ah (aL (i:=1) jq.nd rfl (Or.inl rfl) (de bB a8 a (aa (pv 0) af)))
   (ah (aY (az mZ (pv 1) (cW rfl cK cJ) (aF _)) (ai (bZ YM (by decide +kernel) aE (by rfl) au (aa (we (Nat.le_of_ble_eq_true rfl) (pv 1) (cW rfl cK cJ)) af))) aG)
   (ai (aH (pv 1))))),?_⟩
 obtain⟨m,q,e⟩:=h;obtain rfl:=dy;cbv;refine⟨x,rfl,m,λn hn o g=>?_,λhn=>e (by unfold oR;rw[hn];rfl)⟩;have b:=iJ hn;cbv;refine bN ?_;cbv;refine a6 (λh=>?_) λh=>?_
 ·have h:62<n:=of_decide_eq_true h;refine cI ?_;have t:(YT (toString n)).length<=60:=AD b.1 b.2;have u:("the hand ":Yg).length<=100:=by decide +kernel
  have v:(" is beyond ":Yg).length<=100:=by decide +kernel
  have y:(YT (toString (62:Int))).length<=100:=by decide +kernel
  cbv;refine⟨lg (by omega) b.2,aB (by simp only[ji];omega),aB (by simp only[ji];omega),?_⟩;cbv;refine⟨by decide +kernel,aB (by simp only[ji];omega),?_⟩;cbv;exact⟨by show 1<=Yp;decide +kernel,λp c=>e (by unfold oR;rw[hn];exact if_pos h) o ao p g au c⟩
 ·have h:¬ 62<n:=λz=>h (decide_eq_true z);cbv;exact q n (by unfold oR;rw[hn];exact if_neg h) _ g
theorem ib:aO ["text","count"] bY (aq fe):=jG
include eV bB a8 au aE in
theorem mq(F:cc K "read_count" "read_count" fe f fd):aP P w K mg base (bC P w) 2 f fd bY (ig K mg):=by
 refine F.okX ib (λg H Q E h=>?_) (λj A outer s H g Q E a h=>?_)
 ·obtain⟨x,rfl,_⟩:=h;rfl
 obtain⟨x,rfl,h⟩:=h;have c:=a.units;have k:=a.units0;have p:=jg a;refine⟨_,(ah (aL (i:=1) ib.nd rfl (Or.inl rfl) (de bB a8 a (aa (pv 0) af)))
   (ah (aY (az dE (pv 1) ae (aF _)) (ai (bZ YM (by decide +kernel) aE (by rfl) au (aa aA af))) aG)
   (ai (aH (pv 1))))),?_⟩
 obtain⟨l,q,e⟩:=h;cbv;refine⟨x,rfl,l,λn hn m d=>?_,λhn=>e (by unfold oA;rw[hn];rfl)⟩;cbv;refine bN ?_;cbv;refine a6 (λh=>?_) λh=>?_
 ·have h:n=0:=of_decide_eq_true h;refine cI ?_;cbv;exact⟨by show 1<=Yp;decide +kernel,λo b=>e (by unfold oA;rw[hn];exact if_pos h) m ao o d au b⟩
 ·have h:¬ n=0:=λz=>h (decide_eq_true z);cbv;exact q n (by unfold oA;rw[hn];exact if_neg h) _ d
theorem fK.of_sub(h:fK x)(s:∀c∈y.cps.toList,c∈x.cps.toList)(l:y.length<=x.length):fK y:=⟨λc hc=>h.lo c (s c hc),YI l h.le⟩
theorem fK.from(h:fK x)(k:Nat):fK (YV x (Ya (k:Int)) Yb):=h.of_sub (λc hc=>by rw[iM]at hc;exact DV hc) (HB x _ _)
theorem i4:aO ["text","size"] bY (aq fT):=jG
include eV bB a8 au aE in
theorem oN(F:cc K "read_word" "read_word" fT f fd):aP P w K mg base (bC P w) 2 f fd bY (i6 K mg):=by
 refine F.okX i4 (λl H Q E h=>?_) (λm A outer s H l Q E b h=>?_)
 ·obtain⟨x,rfl,_⟩:=h;rfl
 obtain⟨x,rfl,h⟩:=h;have j:=b.units;have o:=b.units0;have r:=jg b;refine⟨_,(ah (aY (f7 (cM K rfl (fx Y6 PySem.F.slot_str_startswith PySem.F.type_str_startswith tm (pv 0) (aa aA af)))) (ai (aH (de bB a8 b (aa (pv 0) af)))) aG)
   (ah (aL (i:=1) i4.nd rfl (Or.inl rfl) (de bB a8 b (aa (bS fk (pv 0) (cg ae) cN) af)))
   (ah (aY (az dE (pv 1) ae (aF _)) (ai (bZ YM (by decide +kernel) aE (by rfl) au (aa aA af))) aG)
   (ai (aH (xC ur (pv 1))))))),?_⟩
 obtain⟨d,q,e⟩:=h;have le:=d.le;refine bN ?_;cbv;refine⟨_,_,rfl,rfl,?_⟩;cases hs:D5 x "-"with
 |false=>
  have a:mE x=gQ x:=by unfold mE;rw[hs];rfl
  cbv;exact⟨x,rfl,d,λn hn k c=>q n (a.trans hn) _ c,λhn=>e (a.trans hn)⟩
 |true=>
  have a:mE x=(gQ (YV x (Ya 1) Yb)).bind λn=>if n=0 then Yb else Ya (-n):=by unfold mE;rw[hs];rfl
  cbv;refine⟨_,rfl,aB (by omega),?_⟩;refine⟨_,rfl,d.from 1,λn hn k c=>?_,λhn=>e (by
   have hn:gQ (YV x (Ya 1) Yb)=none:=hn;rw[a,hn];rfl)⟩
  have hn:gQ (YV x (Ya 1) Yb)=Ya n:=hn;have a:mE x=if n=0 then Yb else Ya (-n):=by
   rw[a,hn];rfl
  cbv;refine bN ?_;cbv;refine a6 (λh=>?_) λh=>?_
  ·have h:n=0:=of_decide_eq_true h;refine cI ?_;cbv;exact⟨by show 1<=Yp;decide +kernel,λp g=>e (a.trans (if_pos h)) k ao p c au g⟩
  ·have h:¬ n=0:=λz=>h (decide_eq_true z);cbv;exact q _ (a.trans (if_neg h)) _ c
theorem y6:∀{ps:List (List Nat)} {p:List Nat},p∈ps->d∈p->d∈jn c ps:=by
 intro ps
 induction ps with
 |nil=>intro p e;cases e
 |cons a r ih=>
  intro p e hd;cases r with
  |nil=>
   cases YQ.mp e;exact hd
  |cons b r=>
   show d∈a++c::jn c (b::r);rcases YK.mp e with rfl|e
   ·exact CQ _ hd
   ·exact YH _ (Yw _ (ih e hd))
theorem fK.part{p:Yg}(h:fK x)(a:p∈Ys x ⟨#[c]⟩):fK p:=by
 refine h.of_sub (λd hd=>?_) (HJ a);have e:=q9 c (Ys x ⟨#[c]⟩);rw[StrLaws.join_split]at e;rw[e];exact y6 (List.mem_map_of_mem a) hd
theorem xG:(⟨#[46]⟩:Yg)=".":=by decide +kernel
theorem qZ:(⟨#[32]⟩:Yg)=" ":=by decide +kernel
theorem xA:(⟨#[58]⟩:Yg)=":":=by decide +kernel
noncomputable def zv:List Yg->Option (Int×Int×Int)
 |[a,b,c]=>(gQ a).bind λn=>(oR b).bind λh=>(oA c).bind λk=>Ya (n,h,k)
 |_=>Yb
noncomputable def gf(x:Yg):Option (Int×Int×Int):=zv (Ys x ".")
noncomputable def zj:List Yg->Option (Int×Int)
 |[a,b]=>(oR a).bind λh=>(oA b).bind λk=>Ya (h,k)
 |_=>Yb
noncomputable def cU(x:Yg):Option (Int×Int):=zj (Ys x ":")
theorem ua(h:¬ l.length=3):zv l=none:=by
 unfold zv;split
 ·exact absurd rfl h
 ·rfl
theorem tR(h:¬ l.length=2):zj l=none:=by
 unfold zj;split
 ·exact absurd rfl h
 ·rfl
def i9(K:Yc)(mg:Yg->Option Yd):Sp:=λb H Q E=>∃(x:Yg),b=[.str x]/\fK x/\(∀n c k,gf x=Ya (n,c,k)->∀a t,aX H a->a t=Ya (.tup [.int n,.int c,.int k])->Q (.ref t) a)/\(gf x=Yb->Rz mg H E)
theorem iV:aO ["text","parts"] bY (aq fY):=jG
variable{kA:Yf}{jw:Yf}{iP:YA}{hZ:YA}(eQ:aP P w K mg base (bC P w) 2 eN dH bY (dF K mg))(d4:aP P w K mg base (bC P w) 2 kA iP bY (iY K mg))(ef:dA K mg "read_hand" kA iP bY)(dr:aP P w K mg base (bC P w) 2 jw hZ bY (ig K mg))(dj:dA K mg "read_count" jw hZ bY)
include eV eQ a8 d4 ef dr dj cq au aE in
theorem nY(F:cc K "read_name" "read_name" fY f fd):aP P w K mg base (bC P w) 3 f fd bY (i9 K mg):=by
 refine F.okX iV (λJ H Q E h=>?_) (λL A outer s H J Q E u h=>?_)
 ·obtain⟨x,rfl,_⟩:=h;rfl
 obtain⟨x,rfl,h⟩:=h;have G:=u.units;have M:=u.units0;have Z:=jg u;refine⟨_,(ah (aL (i:=1) iV.nd rfl (Or.inl rfl) (fx Y6 ni oh dN (pv 0) (aa aA af)))
   (ah (aY (az lJ (aV (b9 (K:=K) rfl) (by rfl) cq jJ (aa (pv 1) af)) ae (aF _)) (ai (bZ YM (by decide +kernel) aE (by rfl) au (aa aA af))) aG)
   (ai (aH (cG (aa (de eQ a8 u (aa (a4 (aJ (K:=K) rfl) (pv 1) ae (λ_ _=>rfl)) af)) (aa (de d4 ef u (aa (a4 (aJ (K:=K) rfl) (pv 1) ae (λ_ _=>rfl)) af)) (aa (de dr dj u (aa (a4 (aJ (K:=K) rfl) (pv 1) ae (λ_ _=>rfl)) af)) af)))))))),?_⟩
 obtain⟨I,q,e⟩:=h;have le:=I.le;cbv;refine⟨_,_,rfl,rfl,by decide +kernel,aB (by omega),λl N=>?_⟩;have v:∀p∈Ys x ".",fK p:=λp v=>I.part (c:=46) (by rw[xG];exact v);have d:gf x=zv (Ys x "."):=rfl;have r:=aZ (o:=.lst ((Ys x ".").map V.str)) N;have g:upd H l (.lst ((Ys x ".").map V.str)) l=Ya (.lst ((Ys x ".").map V.str)):=aI;generalize Ys x "."=ps at d v r g⊢;generalize upd H l (.lst (ps.map V.str))=H1 at g r⊢;have O:=bw.of (K:=K) g;refine bN ?_;cbv;refine a6 (λh=>?_) λh=>?_
 ·have h:¬ ps.length=3:=λz=>by
   rw[Yn,z]at h;exact absurd h (by decide)
  refine cI ?_;cbv;exact⟨by show 1<=Yp;decide +kernel,λR B=>e (d.trans (ua h)) H1 ao R r au B⟩
 have S:ps.length=3:=by
  rcases F1 ps.length 3 with z|z
  ·rw[Yn,decide_eq_false (by omega)]at h;exact absurd rfl h
  ·exact z
 obtain⟨a,b,c,rfl⟩:∃a b c,ps=[a,b,c]:=by
  match ps,S with
  |[a,b,c],_=>exact⟨a,b,c,rfl⟩
 have ha:=v a (by simp);have hb:=v b (by simp);have hc:=v c (by simp);have g:H1 l=Ya (.lst [.str a,.str b,.str c]):=g;have O:=bw.of (K:=K) g;have a0:dC [V.str a,V.str b,V.str c] 0=Ya (.str a):=av (j:=0) rfl;have a1:dC [V.str a,V.str b,V.str c] 1=Ya (.str b):=av (j:=1) rfl;have a2:dC [V.str a,V.str b,V.str c] 2=Ya (.str c):=av (j:=2) rfl;have d:gf x=(gQ a).bind λn=>(oR b).bind λh=>(oA c).bind λk=>Ya (n,h,k):=d;cbv;refine⟨a,rfl,ha,λn hn H2 y=>?_,λhn=>(e (by rw[d,hn];rfl)).up r⟩;have T:=bw.of (K:=K) (y _ _ g);cbv;refine⟨b,rfl,hb,λm hm H3 C=>?_,λhm=>(e (by rw[d,hn,Yl,hm];rfl)).up (r.trans y)⟩;have U:=bw.of (K:=K) (C _ _ (y _ _ g));cbv;refine⟨c,rfl,hc,λk D H4 W=>?_,λD=>(e (by rw[d,hn,Yl,hm,Yl,D];rfl)).up (r.trans (y.trans C))⟩;cbv;intro t H5 ht X Y;exact q n m k (by rw[d,hn,Yl,hm,Yl,D];rfl) _ t (r.trans (y.trans (C.trans (W.trans X)))) Y
def ij(K:Yc)(mg:Yg->Option Yd):Sp:=λb H Q E=>∃(x:Yg),b=[.str x]/\fK x/\(∀p,cU x=Ya p->∀a t,aX H a->a t=Ya (.tup [.int p.1,.int p.2])->Q (.ref t) a)/\(cU x=Yb->Rz mg H E)
theorem iu:aO ["text","parts"] bY (aq fb):=jG
include eV d4 ef dr dj cq au aE in
theorem mw(F:cc K "read_cause" "read_cause" fb f fd):aP P w K mg base (bC P w) 3 f fd bY (ij K mg):=by
 refine F.okX iu (λG H Q E h=>?_) (λI A outer s H G Q E u h=>?_)
 ·obtain⟨x,rfl,_⟩:=h;rfl
 obtain⟨x,rfl,h⟩:=h;have C:=u.units;have J:=u.units0;have W:=jg u;refine⟨_,(ah (aL (i:=1) iu.nd rfl (Or.inl rfl) (fx Y6 ni oh dN (pv 0) (aa aA af)))
   (ah (aY (az lJ (aV (b9 (K:=K) rfl) (by rfl) cq jJ (aa (pv 1) af)) ae (aF _)) (ai (bZ YM (by decide +kernel) aE (by rfl) au (aa aA af))) aG)
   (ai (aH (cG (aa (de d4 ef u (aa (a4 (aJ (K:=K) rfl) (pv 1) ae (λ_ _=>rfl)) af)) (aa (de dr dj u (aa (a4 (aJ (K:=K) rfl) (pv 1) ae (λ_ _=>rfl)) af)) af))))))),?_⟩
 obtain⟨D,q,e⟩:=h;have le:=D.le;cbv;refine⟨_,_,rfl,rfl,by decide +kernel,aB (by omega),λl L=>?_⟩;have v:∀p∈Ys x ":",fK p:=λp v=>D.part (c:=58) (by rw[xA];exact v);have d:cU x=zj (Ys x ":"):=rfl;have r:=aZ (o:=.lst ((Ys x ":").map V.str)) L;have g:upd H l (.lst ((Ys x ":").map V.str)) l=Ya (.lst ((Ys x ":").map V.str)):=aI;generalize Ys x ":"=ps at d v r g⊢;generalize upd H l (.lst (ps.map V.str))=H1 at g r⊢;have M:=bw.of (K:=K) g;refine bN ?_;cbv;refine a6 (λh=>?_) λh=>?_
 ·have h:¬ ps.length=2:=λz=>by
   rw[Yn,z]at h;exact absurd h (by decide)
  refine cI ?_;cbv;exact⟨by show 1<=Yp;decide +kernel,λN y=>e (d.trans (tR h)) H1 ao N r au y⟩
 have O:ps.length=2:=by
  rcases F1 ps.length 2 with z|z
  ·rw[Yn,decide_eq_false (by omega)]at h;exact absurd rfl h
  ·exact z
 obtain⟨a,b,rfl⟩:∃a b,ps=[a,b]:=by
  match ps,O with
  |[a,b],_=>exact⟨a,b,rfl⟩
 have ha:=v a (by simp);have hb:=v b (by simp);have g:H1 l=Ya (.lst [.str a,.str b]):=g;have M:=bw.of (K:=K) g;have X:dC [V.str a,V.str b] 0=Ya (.str a):=av (j:=0) rfl;have Y:dC [V.str a,V.str b] 1=Ya (.str b):=av (j:=1) rfl;have d:cU x=(oR a).bind λh=>(oA b).bind λk=>Ya (h,k):=d;cbv;refine⟨a,rfl,ha,λn hn Z B=>?_,λhn=>(e (by rw[d,hn];rfl)).up r⟩;have R:=bw.of (K:=K) (B _ _ g);cbv;refine⟨b,rfl,hb,λm hm H3 S=>?_,λhm=>(e (by rw[d,hn,Yl,hm];rfl)).up (r.trans B)⟩;cbv;intro t H5 ht T U;exact q (n,m) (by rw[d,hn,Yl,hm];rfl) _ t (r.trans (B.trans (S.trans T))) U
noncomputable abbrev qE:Y5:=jF 9
noncomputable abbrev eK:Y5:=jF 26
theorem vm{K:Yc}(ns:List Int):rG K H (ns.map V.int) (ns.map Y3):=by
 induction ns with
 |nil=>exact .nil
 |cons n ns ih=>exact .cons (.int _) ih
theorem vg(ns:List Int):Cf (ns.map Y3)=true:=by
 induction ns with
 |nil=>rfl
 |cons n ns ih=>
  have e:Cf ((n::ns).map Y3)=((Y3 n).canLay0&&Cf (ns.map Y3)):=rfl;rw[e,ih];rfl
theorem uX(ns:List Int):xt (ns.map Y3)<=0:=by
 induction ns with
 |nil=>exact Yo _
 |cons n ns ih=>
  have e:xt ((n::ns).map Y3)=max (Y3 n).depth (xt (ns.map Y3)):=rfl;rw[e];exact Nat.max_le.mpr ⟨Yo _,ih⟩
theorem zu(ns:List Int):∀a:List Int,FL (ns.map Y3) (a.map Y3)=decide (ns=a):=by
 induction ns with
 |nil=>
  intro a;cases a with
  |nil=>rfl
  |cons m a=>rfl
 |cons n ns ih=>
  intro a;cases a with
  |nil=>rfl
  |cons m a=>
   show((n==m)&&FL (ns.map Y3) (a.map Y3))=_;rw[ih a,xo];simp
def q0(K:Yc):Sp:=λc H Q _=>∃(a:Yf) (ns:List Int),c=[.ref a]/\H a=Ya (.lst (ns.map V.int))/\(∀n∈ns,0<=n/\n<=62)/\ns.length<=1000/\∀b,aX H b->Q (.bl (decide (ns.Pairwise (·<·)))) b
theorem wU:aO ["hands"] ["hands"] (aq qE):=jG
variable(xE:mg "set"=Yb)(pN:mg "sorted"=Yb)
include eV xE pN in
theorem vS(F:cc K "rise" "rise" qE f fd):∅ 1 f fd ["hands"] (q0 K):=by
 refine F.oj wU ?_;rintro _ _ _ _ _ _ _ _ _ c _ _ ⟨a,ns,rfl,h⟩;refine⟨_,(ai (aH (fi (oP (K:=K) rfl c) (pv 0) (aV (oI rfl) (by rfl) pN HH (aa (a7 (sV rfl) (by rfl) xE (show Cm "set"=Ya (.type "set") by decide +kernel) (aa (pv 0) af)) af)) (aF _)))),?_⟩;obtain⟨ha,r,s,q⟩:=h;cbv;refine⟨a,ns,rfl,bw.of ha,s,λg d t n1 mem=>?_⟩;refine⟨g,d,rfl,aI,n1,yd n1 (λk u=>by have:=r k ((mem k).mp u);omega),λl S v i j=>?_⟩;have n:=(aZ (o:=ug P w g d) t).trans (aZ (o:=.lst (S.map V.int)) v);have p:∀m:List Int,(Gq (m.map Y3)).depth=xt (m.map Y3)+ 1:=λ_=>rfl;refine⟨.list (ns.map Y3),.list (S.map Y3),.inr ⟨_,_,_,rfl,rfl,bw.of (n _ _ ha),vm _⟩,.inr ⟨_,_,_,rfl,rfl,bw.of aI,vm _⟩,by rw[DZ];exact vg _,by rw[DZ];exact vg _,?_,?_⟩
 ·rw[p,p];have:=uX ns;have:=uX S;omega
 ·have e:PyData.eqv (.list (ns.map Y3)) (.list (S.map Y3))=decide (ns.Pairwise (·<·)):=by
   show FL (ns.map Y3) (S.map Y3)=_;rw[zu,decide_eq_decide];have A:S.Nodup:=i.nodup_iff.mpr n1;constructor
   ·intro z;subst z;exact HY (λa b (h1:a<=b) (h2:a≠b)=>by omega) j A
   ·intro up;have nd:ns.Nodup:=up.imp λh=>Int.ne_of_lt h;have B:d.Perm ns:=(List.perm_ext_iff_of_nodup n1 nd).mpr mem;exact(List.Perm.eq_of_pairwise (le:=λa b:Int=>a<=b) (λa b _ _ x y=>Int.le_antisymm x y) j (up.imp λh=>Int.le_of_lt h) (i.trans B)).symm
  rw[e];exact q _ n
noncomputable def k7:List Yg->Option (List (Int×Int))
 |[]=>Ya []
 |x::r=>(cU x).bind λp=>(k7 r).bind λq=>Ya (p::q)
noncomputable def eZ(xs:List Yg):Option (List (Int×Int)):=(k7 xs).bind λa=>if(a.map (·.1)).Pairwise (·<·)then Ya a else Yb
theorem lF(a:List Yg)(x:Yg):k7 (a++[x])=(k7 a).bind λp=>(cU x).bind λq=>Ya (p++[q]):=by
 induction a with
 |nil=>
  show(cU x).bind (λp=>(Ya []).bind λq=>Ya (p::q))=_;cases cU x<;>rfl
 |cons y a ih=>
  show(cU y).bind (λp=>(k7 (a++[x])).bind λq=>Ya (p::q))=((cU y).bind λp=>(k7 a).bind λq=>Ya (p::q)).bind _;rw[ih];cases cU y with
  |none=>rfl
  |some p=>
   cases k7 a with
   |none=>rfl
   |some q=>cases cU x<;>rfl
theorem pf{xs:List Yg}(h:x∈xs)(e:cU x=Yb):k7 xs=none:=by
 induction xs with
 |nil=>cases h
 |cons y r ih=>
  show(cU y).bind (λp=>(k7 r).bind λq=>Ya (p::q))=Yb;rcases YK.mp h with rfl|h
  ·rw[e];rfl
  ·rw[ih h];cases cU y<;>rfl
theorem xR(h:oR x=Ya n):0<=n/\n<=62:=by
 unfold oR at h;cases e:gQ x with
 |none=>rw[e]at h;cases h
 |some m=>
  rw[e]at h;have h:(if 62<m then Yb else Ya m)=Ya n:=h;have:=(iJ e).1;split at h
  ·cases h
  ·cases h;omega
theorem vW(h:cU x=Ya p):0<=p.1/\p.1<=62:=by
 unfold cU zj at h;split at h
 ·rename_i a b _;cases e:oR a with
  |none=>rw[e]at h;cases h
  |some n=>
   rw[e,Yl]at h;cases e2:oA b with
   |none=>rw[e2]at h;cases h
   |some k=>
    rw[e2,Yl]at h;cases h;exact xR e
 ·cases h
def fX(K:Yc)(mg:Yg->Option Yd):Sp:=λf H Q E=>∃(a:Yf) (b:List Yg),f=[.ref a]/\H a=Ya (.lst (b.map V.str))/\(∀x∈b,fK x)/\b.length<=1000/\(∀d,eZ b=Ya d->∀c t e,aX H c->c t=Ya (.tup e)->kK c e d->Q (.ref t) c)/\(eZ b=Yb->Rz mg H E)
theorem bT(s:aX H H')(r:kK H xs ps):kK H' xs ps:=r.mono λa xs e=>s a _ e
theorem fR:aO ["texts","causes"] ["texts"] (aq eK):=jG
variable{je:Yf}{uz:Yf}{gW:YA}{q8:YA}(i8:aP P w K mg base (bC P w) 3 je gW bY (ij K mg))(iO:dA K mg "read_cause" je gW bY)(vF:∅ 3 uz q8 ["hands"] (q0 K))(tU:dA K mg "rise" uz q8 ["hands"])(kT:mg "tuple"=Yb)
include eV i8 iO vF tU kT au aE in
theorem lB(F:cc K "read_causes" "read_causes" eK f fd):aP P w K mg base (bC P w) 4 f fd ["texts"] (fX K mg):=by
 refine F.okX fR (λvs H Q E h=>?_) (λab A outer s H vs Q E l h=>?_)
 ·obtain⟨a,R,rfl,_⟩:=h;rfl
 obtain⟨a,R,rfl,h⟩:=h;have Z:=l.units;have ac:=l.units0;have hu:=jg l;refine⟨_,(ah (vt (i:=1) ["text"] [Yb] fR.nd rfl (Or.inl rfl) rfl (by kernel_rfl) (by kernel_rfl) (jb (K:=K) rfl (pv 0)) (λ_ _ _ _ _ nd=>fg (i:=0) nd rfl (Or.inl rfl)) (λ_ _ _ _ _=>oG) (λ_ _ _ _ _=>(yK i8 iO l (aa (pv 0) af))))
   (ah (aY (f7 (cM K rfl (a5 vF tU l (aa (rp ["cause"] [Yb] rfl rfl (by kernel_rfl) (jb (K:=K) rfl (pv 1)) (λ_ _ _ _ _ nd=>fg (i:=0) nd rfl (Or.inl rfl)) (λ_ _ _ _ _=>oG) (λ_ _ _ _ _=>(a4 (ju (K:=K) rfl) (pv 0) ae (λ_ _=>rfl)))) af)))) (ai (bZ YM (by decide +kernel) aE (by rfl) au (aa aA af))) aG)
   (ai (aH (a7 (j8 (K:=K) rfl) (by rfl) kT EU (aa (pv 1) af)))))),?_⟩
 obtain⟨ha,asc,ln,q,e⟩:=h;have sl:=bw.of (K:=K) ha;refine bN ?_;cbv;intro D hD;refine nk (K:=K) (a:=a) (xs:=R.map V.str) (λi σ B=>∃v g c,σ=[v]/\aX H B/\B D=Ya (.lst g)/\kK B g c/\k7 (R.take i)=Ya c/\(∀p∈c,0<=p.1/\p.1<=62)/\c.length<=i) ⟨Yb,[],[],rfl,aZ hD,aI,.nil,rfl,(λ_ z=>nomatch z),Yo _⟩ ?_ ?_ ?_
 ·rintro i σ B _ ⟨_,_,_,_,z,_⟩;exact bw.of (z _ _ ha)
 ·rintro i x σ B L ⟨S,g,c,rfl,J,M,u,G,T,U⟩;rw[YX]at L;obtain⟨y,W,rfl⟩:=Dw.mp L;have hm:=ar W;have hi:=(YY.mp W).1;have lx:=u.len;cbv;refine⟨y,rfl,asc y hm,λp k N t m g1=>?_,λk=>(e (by unfold eZ;rw[pf hm k];rfl)).up J⟩;have d:=m _ _ M;refine⟨_,d,dz (by omega),_,g++[.ref t],c++[p],rfl,λb o e=>?_,aI,?_,?_,λr l=>?_,by rw[BY];exact EJ U⟩
  ·rw[aR (aW e hD)];exact m _ _ (J b o e)
  ·have kp:∀b X,N b=Ya (.tup X)->upd N D (.lst (g++[.ref t])) b=Ya (.tup X):=λb X e=>by
    rw[aR (xP e d (by intro z;cases z))];exact e
   exact kK.snoc ((bT m u).mono kp) ⟨t,rfl,kp _ _ g1⟩
  ·rw[eR W,lF,G,Yl,k];rfl
  ·rcases B0.mp l with z|z
   ·exact T r z
   ·cases YQ.mp z;exact vW k
 rintro σ B ⟨S,g,c,rfl,J,M,u,G,T,U⟩;rw[Yn]at G U;rw[Cu]at G;have lx:=u.len;cbv;refine bN ?_;cbv;intro E1 hE;refine nk (K:=K) (a:=D) (xs:=g) (λi σ C=>∃v,σ=[v]/\aX B C/\C E1=Ya (.lst (((c.take i).map (·.1)).map V.int))) ⟨Yb,rfl,aZ hE,aI⟩ ?_ ?_ ?_
 ·rintro i σ C _ ⟨_,_,z,_⟩;exact bw.of (z _ _ M)
 ·rintro i x σ C L ⟨S,rfl,I,O⟩;obtain⟨p,k,b,rfl,hb⟩:=u.get L;have ad:gU K C b [.int p.1,.int p.2]:=gU.of (I _ _ hb);have a0:dC [V.int p.1,V.int p.2] 0=Ya (.int p.1):=av (j:=0) rfl;cbv;refine⟨_,O,dz (by rw[Yn,Yn,Cp];omega),_,rfl,λb o e=>?_,?_⟩
  ·rw[aR (aW e hE)];exact I b o e
  ·rw[aI,eR k,xw,xw];rfl
 rintro σ C ⟨S,rfl,I,O⟩;rw[lx,Cu]at O;cbv;refine⟨E1,c.map (·.1),rfl,O,(λn hn=>?_),by rw[Yn];omega,λN m=>?_⟩
 ·obtain⟨p,k,rfl⟩:=CM.mp hn;exact T p k
 have d:=m _ _ (I _ _ M);have sD:=bw.of (K:=K) d;cbv;by_cases up:(c.map (·.1)).Pairwise (·<·)
 ·rw[decide_eq_true up];cbv;intro t H2 ht s2 g2;have sA:aX B H2:=I.trans (m.trans s2);exact q c (by unfold eZ;rw[G];exact if_pos up) _ t g (J.trans sA) g2 (bT sA u)
 ·rw[decide_eq_false up];cbv;refine cI ?_;cbv;exact⟨by show 1<=Yp;decide +kernel,λea Y=>e (by unfold eZ;rw[G];exact if_neg up) N ao ea (J.trans (I.trans m)) au Y⟩
noncomputable abbrev fO:Y5:=jF 27
noncomputable def rD(kd:Yg):Bool:=decide (kd="own")||decide (kd="heard")||decide (kd="one")
theorem ph(h:rD kd=true):xF kd:=by
 unfold rD at h;simp only[GZ,decide_eq_true_eq]at h;rcases h with(h|h)|h
 ·exact .inl h
 ·exact .inr (.inl h)
 ·exact .inr (.inr h)
theorem zf(kd:Yg):(([.str "own",.str "heard",.str "one"]:List Ct).any λz=>z.eqv (.str kd))=rD kd:=by
 show((("own":Yg)==kd)||((("heard":Yg)==kd)||((("one":Yg)==kd)||false)))=_;unfold rD;rw[xo];simp only[GZ,beq_iff_eq,decide_eq_true_eq,Di,or_false,or_assoc];constructor
 ·rintro(h|h|h)
  ·exact .inl h.symm
  ·exact .inr (.inl h.symm)
  ·exact .inr (.inr h.symm)
 ·rintro(h|h|h)
  ·exact .inl h.symm
  ·exact .inr (.inl h.symm)
  ·exact .inr (.inr h.symm)
theorem pJ{K:Yc}{a:Yf}(b:fK kd)(ha:bw K H a [.str "own",.str "heard",.str "one"]∨gU K H a [.str "own",.str "heard",.str "one"])(q:Q (.bl (!rD kd)) H):qj K true (.str kd) (.ref a) H Q:=by
 refine⟨a,_,_,_,rfl,ha,.cons (.str _) (.cons (.str _) (.cons (.str _) .nil)),.str kd,by kernel_rfl,b.lay,by show 0<=60;decide,?_⟩;show Q (.bl (!_)) H;rw[zf];exact q
noncomputable def z4:List Yg->Option (Int×Int×Int×Yg×Int×List (Int×Int))
 |nm::kd::wd::cs=>if rD kd=true/\¬ (kd="own"/\cs≠[])then(gf nm).bind λn=>(mE wd).bind λw=>(eZ cs).bind λa=>Ya (n.1,n.2.1,n.2.2,kd,w,a)else Yb
 |_=>Yb
noncomputable def rT(x:Yg):Option (Int×Int×Int×Yg×Int×List (Int×Int)):=z4 (Ys x " ")
theorem vq(h:l.length<3):z4 l=none:=by
 unfold z4;split
 ·simp only[YJ]at h;omega
 ·rfl
theorem ux(h:mE x=Ya n):-(10^60)<n/\n<10^60:=by
 unfold mE at h;split at h
 ·cases e:gQ (YV x (Ya 1) Yb)with
  |none=>rw[e]at h;cases h
  |some m=>
   rw[e,Yl]at h;have b:=iJ e;split at h
   ·cases h
   ·cases h;omega
 ·have b:=iJ h;omega
theorem rJ:eZ []=Ya []:=by
 unfold eZ;show(Ya []).bind _=_;rw[Yl,if_pos (by exact Ex)]
theorem jN(a b c:V)(r:List V):mG (a::b::c::r) (Ya 3) Yb=r:=by
 unfold mG;have d:HT.pD (a::b::c::r).length 0 (Ya 3)=3:=by
  show(if(3:Int)<0 then((3:Int)+ ((a::b::c::r).length:Nat)).toNat else min (3:Int).toNat (a::b::c::r).length)=3;rw[if_neg (by decide)];show min 3 (r.length+ 3)=3;omega
 have e:HT.pD (a::b::c::r).length (a::b::c::r).length Yb=r.length+ 3:=rfl;rw[d,e];show r.take (r.length+ 3-3)=r;rw[Nat.add_sub_cancel,Cu]
theorem lW{α:Type}{d:List α}(h:3<=d.length):∃a b c r,d=a::b::c::r:=by
 cases d with
 |nil=>exact absurd h (by show ¬ 3<=0;decide)
 |cons a d=>
  cases d with
  |nil=>exact absurd h (by show ¬ 3<=1;decide)
  |cons b d=>
   cases d with
   |nil=>exact absurd h (by show ¬ 3<=2;decide)
   |cons c d=>exact⟨a,b,c,d,rfl⟩
def AX(K:Yc)(H:Hp)(v:V):Prop:=∃t,iG K H v t/\mr K t (.type "str")=Ya false
def BF(K:Yc)(mg:Yg->Option Yd)(H:Hp)(Q:VK)(E:XK)(v:V):Prop:=(AX K H v/\Rz mg H E)∨∃x:Yg,v=.str x/\fK x/\
 (∀n c k b w d,rT x=Ya (n,c,k,b,w,d)->∀a p t e,aX H a->xF b->CO K mg a p b n c k w t->a t=Ya (.tup e)->kK a e d->Q (.ref p) a)/\(rT x=Yb->Rz mg H E)
def jz(K:Yc)(mg:Yg->Option Yd):Sp:=λa H Q E=>∃(v:V),a=[v]/\BF K mg H Q E v
theorem dt:aO ["text","parts","kind","name"] bY (aq fO):=jG
variable{kh:Yf}{kj:Yf}{j0:Yf}{gZ:Yf}{iS:YA}{iQ:YA}{iN:YA}{fZ:YA}(ku:∅ 4 kh iS va (i7 K mg))(j9:dA K mg "make_call" kh iS va)(ke:aP P w K mg base (bC P w) 4 kj iQ bY (i6 K mg))(kg:dA K mg "read_word" kj iQ bY)(kl:aP P w K mg base (bC P w) 4 j0 iN bY (i9 K mg))(kf:dA K mg "read_name" j0 iN bY)(hX:aP P w K mg base (bC P w) 4 gZ fZ ["texts"] (fX K mg))(ia:dA K mg "read_causes" gZ fZ ["texts"])(fP:mg "str"=Yb)
include eV ku j9 ke kg kl kf hX ia br cq fP dO dU dQ au aE in
theorem oH(F:cc K "read_call" "read_call" fO f fd):aP P w K mg base (bC P w) 5 f fd bY (jz K mg):=by
 refine F.okX dt (λvs H Q E h=>?_) (λal A outer s H vs Q E J h=>?_)
 ·obtain⟨v,rfl,_⟩:=h;rfl
 obtain⟨v,rfl,h⟩:=h;have U:=J.units;have am:=J.units0;have hu:=jg J;refine⟨_,(ah (aY (f7 (cM K rfl (aV (jQ (K:=K) rfl) (by rfl) br ir (aa (pv 0) (aa (kR fP Y7) af))))) (ai (bZ YM (by decide +kernel) aE (by rfl) au (aa aA af))) aG)
   (ah (aL (i:=1) dt.nd rfl (Or.inl rfl) (fx Y6 ni oh dN (pv 0) (aa aA af)))
   (ah (aY (az j5 (aV (b9 (K:=K) rfl) (by rfl) cq jJ (aa (pv 1) af)) ae (aF _)) (ai (bZ YM (by decide +kernel) aE (by rfl) au (aa aA af))) aG)
   (ah (aL (i:=2) dt.nd rfl (Or.inl rfl) (a4 (aJ (K:=K) rfl) (pv 1) ae (λ_ _=>rfl)))
   (ah (aY (az (nQ (K:=K) rfl U) (pv 2) (cW rfl dO dU) (by rfl)) (ai (bZ YM (by decide +kernel) aE (by rfl) au (aa aA af))) aG)
   (ah (aY (PW.pt (iy (az dE (pv 2) aA (aF _)) (gJ (az mZ (aV (b9 (K:=K) rfl) (by rfl) cq jJ (aa (pv 1) af)) ae (aF _))))) (ai (bZ YM (by decide +kernel) aE (by rfl) au (aa aA af))) aG)
   (ah (aL (i:=3) dt.nd rfl (Or.inl rfl) (de kl kf J (aa (a4 (aJ (K:=K) rfl) (pv 1) ae (λ_ _=>rfl)) af)))
   (ai (aH (a5 ku j9 J (aa (a4 (ju (K:=K) rfl) (pv 3) ae (λ_ _=>rfl)) (aa (a4 (ju (K:=K) rfl) (pv 3) ae (λ_ _=>rfl)) (aa (a4 (ju (K:=K) rfl) (pv 3) ae (λ_ _=>rfl)) (aa (pv 2) (aa (de ke kg J (aa (a4 (aJ (K:=K) rfl) (pv 1) ae (λ_ _=>rfl)) af)) (aa (de hX ia J (aa (bS (lU (K:=K) rfl) (pv 1) (cg ae) cN) af)) af)))))))))))))))),?_⟩
 refine bN ?_;cbv;rcases h with⟨⟨t,ty,ki⟩,e⟩|⟨x,rfl,ac,q,e⟩
 ·refine⟨_,_,_,false,rfl,ty,ki,?_⟩;cbv;refine cI ?_;cbv;exact⟨by show 1<=Yp;decide +kernel,λM d=>e H ao M (.refl _) au d⟩
 obtain⟨aK,rfl,hK⟩:=dQ;have le:=ac.le;refine⟨_,_,_,true,rfl,.str _,(by kernel_rfl),?_⟩;cbv;refine⟨_,_,rfl,rfl,by decide +kernel,aB (by omega),λl hl=>?_⟩;have B:∀p∈Ys x " ",fK p:=λp B=>ac.part (c:=32) (by rw[qZ];exact B);have lp:(Ys x " ").length<=1002:=YI (ED x " ") (by omega);have N:rT x=z4 (Ys x " "):=rfl;have T:=aZ (o:=.lst ((Ys x " ").map V.str)) hl;have r:upd H l (.lst ((Ys x " ").map V.str)) l=Ya (.lst ((Ys x " ").map V.str)):=aI;generalize Ys x " "=ps at N B lp T r⊢;generalize upd H l (.lst (ps.map V.str))=H1 at r T⊢;have sl:=bw.of (K:=K) r;refine bN ?_;cbv;refine a6 (λh=>?_) λh=>?_
 ·have h:=of_decide_eq_true h;rw[Yn]at h;refine cI ?_;cbv;exact⟨by show 1<=Yp;decide +kernel,λM d=>e (N.trans (vq (by omega))) H1 ao M T au d⟩
 have l3:3<=ps.length:=by
  rcases xq ps.length 3 with z|z
  ·rw[Yn]at h;exact absurd (decide_eq_true (by omega)) h
  ·exact z
 obtain⟨G,a,I,g,rfl⟩:=lW l3;have an:=B G (by simp);have ak:=B a (by simp);have aw:=B I (by simp);have W:∀y∈g,fK y:=λy hy=>B y (by simp[hy]);have X:g.length<=1000:=by simp only[YJ]at lp;omega
 have N:rT x=if rD a=true/\¬ (a="own"/\g≠[])then(gf G).bind λn=>(mE I).bind λw=>(eZ g).bind λps=>Ya (n.1,n.2.1,n.2.2,a,w,ps)else none:=N
 have r:H1 l=Ya (.lst (.str G::.str a::.str I::g.map V.str)):=r;generalize hL:(V.str G::V.str a::V.str I::g.map V.str)=L at r;have lL:L.length=g.length+ 3:=by
  rw[←hL];simp only[YJ,Yn]
 have a0:dC L 0=Ya (.str G):=by rw[←hL];exact av (j:=0) rfl
 have a1:dC L 1=Ya (.str a):=by rw[←hL];exact av (j:=1) rfl
 have a2:dC L 2=Ya (.str I):=by rw[←hL];exact av (j:=2) rfl
 have sl:=bw.of (K:=K) r;have no:(rD a=true/\¬ (a="own"/\g≠[])->(gf G).bind (λn=>(mE I).bind λw=>(eZ g).bind λps=>Ya (n.1,n.2.1,n.2.2,a,w,ps))=Yb)->Rz mg H1 E:=λz=>(e (by
  rw[N];split
  ·rename_i h;exact z h
  ·rfl)).up T
 cbv;refine bN ?_;cbv;refine pJ ak (.inr (hK H1)) ?_;cases hk:rD a with
 |false=>
  cbv;refine cI ?_;cbv;exact⟨by show 1<=Yp;decide +kernel,λM d=>no (λz=>by rw[hk]at z;cases z.1) H1 ao M (.refl _) au d⟩
 |true=>
  cbv;refine bN ?_;cbv;refine a6 (λh=>?_) λh=>?_
  ·have ho:a="own":=of_decide_eq_true h;cbv;refine a6 (λh=>?_) λh=>?_
   ·have h:=of_decide_eq_true h;refine cI ?_;cbv;exact⟨by show 1<=Yp;decide +kernel,λM d=>no (λz=>absurd ⟨ho,λz=>by rw[z]at lL;rw[lL]at h;exact absurd h (by decide)⟩ z.2) H1 ao M (.refl _) au d⟩
   have c0:g=[]:=by
    rcases Dj g.length with z|z
    ·exact cw z
    ·exact absurd (decide_eq_true (by omega)) h
   have Y:a="own"->g=[]:=λ_=>c0;cbv;refine⟨G,rfl,an,λn c k hn H2 t2 u g2=>?_,λhn=>no λ_=>by rw[hn];rfl⟩;have ab:=gU.of (K:=K) g2;have ad:=bw.of (K:=K) (u _ _ r);have b0:dC [V.int n,V.int c,V.int k] 0=Ya (.int n):=av (j:=0) rfl;have b1:dC [V.int n,V.int c,V.int k] 1=Ya (.int c):=av (j:=1) rfl;have b2:dC [V.int n,V.int c,V.int k] 2=Ya (.int k):=av (j:=2) rfl;cbv;refine⟨I,rfl,aw,λm hm H3 O=>?_,λhm=>(no λ_=>by rw[hn,Yl,hm];rfl).up u⟩;have ag:=bw.of (K:=K) (O _ _ (u _ _ r));have Z:=ux hm;cbv;intro l4 H4 aj s4 g4;rw[←hL,jN]at g4;cbv;refine⟨l4,g,rfl,g4,W,X,λps b H5 t D s5 g5 p5=>?_,λb=>(no λ_=>by rw[hn,Yl,hm,Yl,b];rfl).up (u.trans (O.trans s4))⟩;cbv;refine⟨n,c,k,a,m,t,rfl,D,g5,Z.1,Z.2,ph hk,λH6 p C dx t' s6 B R hT g6 g7=>?_⟩;have sA:aX H H6:=T.trans (u.trans (O.trans (s4.trans (s5.trans s6))));have ex:(if a="own"then[]else D)=D:=by
    by_cases S:a="own"
    ·rw[if_pos S];have e2:=Y S;rw[e2,rJ]at b;cases b;cases p5;rfl
    ·rw[if_neg S]
   rw[ex]at g7;exact q n c k a m ps (by rw[N,if_pos ⟨hk,λz=>z.2 (Y z.1)⟩,hn,Yl,hm,Yl,b];rfl) _ p t' D sA (ph hk) ⟨C,dx,R,hT,g6⟩ g7 (bT s6 p5)
  have ho:¬ a="own":=λz=>h (decide_eq_true z);have Y:a="own"->g=[]:=λz=>absurd z ho;rw[if_neg Yr];cbv;refine⟨G,rfl,an,λn c k hn H2 t2 u g2=>?_,λhn=>no λ_=>by rw[hn];rfl⟩;have ab:=gU.of (K:=K) g2;have ad:=bw.of (K:=K) (u _ _ r);have b0:dC [V.int n,V.int c,V.int k] 0=Ya (.int n):=av (j:=0) rfl;have b1:dC [V.int n,V.int c,V.int k] 1=Ya (.int c):=av (j:=1) rfl;have b2:dC [V.int n,V.int c,V.int k] 2=Ya (.int k):=av (j:=2) rfl;cbv;refine⟨I,rfl,aw,λm hm H3 O=>?_,λhm=>(no λ_=>by rw[hn,Yl,hm];rfl).up u⟩;have ag:=bw.of (K:=K) (O _ _ (u _ _ r));have Z:=ux hm;cbv;intro l4 H4 aj s4 g4;rw[←hL,jN]at g4;cbv;refine⟨l4,g,rfl,g4,W,X,λps b H5 t D s5 g5 p5=>?_,λb=>(no λ_=>by rw[hn,Yl,hm,Yl,b];rfl).up (u.trans (O.trans s4))⟩;cbv;refine⟨n,c,k,a,m,t,rfl,D,g5,Z.1,Z.2,ph hk,λH6 p C dx t' s6 B R hT g6 g7=>?_⟩;have sA:aX H H6:=T.trans (u.trans (O.trans (s4.trans (s5.trans s6))));have ex:(if a="own"then[]else D)=D:=by
   by_cases S:a="own"
   ·rw[if_pos S];have e2:=Y S;rw[e2,rJ]at b;cases b;cases p5;rfl
   ·rw[if_neg S]
  rw[ex]at g7;exact q n c k a m ps (by rw[N,if_pos ⟨hk,λz=>z.2 (Y z.1)⟩,hn,Yl,hm,Yl,b];rfl) _ p t' D sA (ph hk) ⟨C,dx,R,hT,g6⟩ g7 (bT s6 p5)
noncomputable abbrev dW:Y5:=jF 29
noncomputable abbrev fW:Y5:=jF 30
noncomputable abbrev fj:Y5:=jF 31
def cZ(K:Yc):Sp:=λb H Q _=>∃(a:Yf) (k:Int),b=[.ref a,.int k]/\∃ns:List Int,bw K H a (ns.map V.int)/\0<=k/\∀c:Int,Q (.int c) H
abbrev sq:List Yg:=["_law_script","_law_k"]
theorem kJ:aO ["_law_script","_law_k"] sq (aq dW):=jG
include eV cq in
theorem kQ(F:cc K "_law_cell_at" "_law_cell_at" dW f fd):∅ 1 f fd sq (cZ K):=by
 refine F.oj kJ ?_;rintro _ _ _ _ _ _ _ _ _ _ _ _ ⟨a,k,rfl,h⟩;refine⟨_,(ah (aY (az j5 (pv 1) (aV (b9 (K:=K) rfl) (by rfl) cq jJ (aa (pv 0) af)) (aF _)) (ai (aH (a4 (aJ (K:=K) rfl) (pv 0) (pv 1) (λ_ _=>rfl)))) aG)
   (ai (aH ae))),?_⟩
 obtain⟨ns,d,h0,q⟩:=h;cbv;refine a6 (λh1=>?_) λh1=>?_
 ·have h1:k<((ns.map V.int).length:Nat):=of_decide_eq_true h1;rw[Yn]at h1;have b:k.toNat<ns.length:=by omega
  have c:dC (ns.map V.int) k=Ya (V.int ns[k.toNat]):=qV h0 (by rw[YX,YS b];rfl);cbv;exact q _
 ·cbv;exact q _
theorem md{a:Int}(h:0<b):0<=a%b/\a%b<b:=⟨GW a (by omega),FX a h⟩
structure Tx(n:Nat)(x:Yg):Prop where
 lo:∀c∈x.cps.toList,c<128
 le:x.length<=n
theorem Tx.asc{n:Nat}(h:Tx n x)(l:n<=1000):fK x:=⟨h.lo,YI h.le l⟩
theorem Tx.mono{n:Nat}(h:Tx n x)(l:n<=m):Tx m x:=⟨h.lo,YI h.le l⟩
theorem Tx.app{n:Nat}(h:Tx n x)(k:Tx m y):Tx (n+ m) (x++y):=by
 refine⟨λc hc=>?_,by rw[ji];have:=h.le;have:=k.le;omega⟩;rw[jo]at hc;exact(B0.mp hc).elim (h.lo c) (k.lo c)
theorem jM(h0:0<=i)(h1:i<10^62):Tx 62 (YT (toString i)):=by
 refine⟨λc hc=>?_,CV h0 (by decide) h1⟩;have:=pH i c hc;omega
theorem pQ(h0:0<=n)(h1:n<10^62):n.natAbs.log2<1920:=by
 rcases Dj n.natAbs with z|z
 ·rw[z];decide
 ·refine(Gp (by omega)).mpr (Yv (show n.natAbs<10^62 by omega) ?_);exact YI (show(10:Nat)^62<=2^248 by decide) (DU (by decide) (by decide))
theorem oX(h0:0<=i)(h1:i<10^3):Tx 3 (YT (toString i)):=by
 refine⟨λc hc=>?_,CV h0 (by decide) h1⟩;have:=pH i c hc;omega
theorem jU:Tx 1 ".":=⟨by decide +kernel,by decide +kernel⟩
theorem jR:Tx 1 " ":=⟨by decide +kernel,by decide +kernel⟩
theorem tW:Tx 1 ":":=⟨by decide +kernel,by decide +kernel⟩
theorem xN(h:xF kd):Tx 5 kd:=by
 rcases h with rfl|rfl|rfl
 ·exact⟨by decide +kernel,by decide +kernel⟩
 ·exact⟨by decide +kernel,by decide +kernel⟩
 ·exact⟨by decide +kernel,by decide +kernel⟩
def i3(K:Yc):Sp:=λa H Q _=>∃(c:Int),a=[.int c]/\∀n:Int,0<=n->n<10^62->Q (.int n) H
abbrev uK:List Yg:=["_law_cell"]
theorem nM:aO ["_law_cell"] uK (aq fW):=jG
include eV in
theorem oz(F:cc K "_law_some" "_law_some" fW f fd):∅ 1 f fd uK (i3 K):=by
 refine F.oj nM ?_;rintro _ _ _ _ _ _ _ _ _ _ _ _ ⟨c,rfl,h⟩;refine⟨_,(ah (aY (az dE (ay bp (pv 0) ae) ae (aF _)) (ai (aH (ay bp (ay bP (pv 0) ae) ae))) aG)
   (ah (aY (az dE (ay bp (pv 0) ae) ae (aF _)) (ai (aH (ay gy (ay uI (ay fM ae ae) ae) (ay bp (ay bP (pv 0) ae) ae)))) aG)
   (ai (aH (ay bp (ay bP (pv 0) ae) (ay fM ae ae)))))),?_⟩
 cbv;refine a6 (λ_=>?_) λ_=>?_
 ·cbv;have:=md (a:=c / 3) (b:=4) (by decide);exact h _ (by omega) (by omega)
 ·cbv;refine a6 (λ_=>?_) λ_=>?_
  ·cbv;have:=md (a:=c / 3) (b:=3) (by decide);exact h _ (show 0<=10^60-2+ c / 3%3 by omega) (show 10^60-2+ c / 3%3<10^62 by omega)
  ·have p:(0:Int)<10^Ee 62:=by decide
   cbv;have:=md (a:=c / 3) (b:=10^62) (by decide);exact h _ this.1 this.2
theorem A4(x y:Yg)(c:Int):∃v:Yg,dC [V.str x,V.str y] (c%2)=Ya (.str v)/\(v=x∨v=y):=by
 have r:=md (a:=c) (b:=2) (by decide);generalize c%2=t at*;rcases(show t=0∨t=1 by omega)with w|w<;>subst w
 ·exact⟨x,av (j:=0) rfl,.inl rfl⟩
 ·exact⟨y,av (j:=1) rfl,.inr rfl⟩
theorem Br(x y:Int)(c:Int):∃v:Int,dC [V.int x,V.int y] (c%2)=Ya (.int v)/\(v=x∨v=y):=by
 have r:=md (a:=c) (b:=2) (by decide);generalize c%2=t at*;rcases(show t=0∨t=1 by omega)with w|w<;>subst w
 ·exact⟨x,av (j:=0) rfl,.inl rfl⟩
 ·exact⟨y,av (j:=1) rfl,.inr rfl⟩
def hG(K:Yc):Sp:=λc H Q _=>∃(a:Yf) (ns:List Int),c=[.ref a]/\bw K H a (ns.map V.int)/\∀x b,Tx 500 x->aX H b->Q (.str x) b
abbrev pF:List Yg:=["_law_script"]
theorem aQ:aO ["_law_script","_law_cell","_law_text","_law_count","_law_word","_law_hand","_law_k"] pF (aq fj):=jG
variable{dM:Yf}{kD:Yf}{da:YA}{iZ:YA}(aM:∅ 1 dM da sq (cZ K))(aD:dA K mg "_law_cell_at" dM da sq)(d7:∅ 1 kD iZ uK (i3 K))(d8:dA K mg "_law_some" kD iZ uK)(qU:mg "range"=Yb)
include eV aM aD d7 d8 qU fP in
theorem mJ(F:cc K "_law_first" "_law_first" fj f fd):∅ 2 f fd pF (hG K):=by
 refine F.oj aQ ?_;rintro _ A _ _ H _ _ _ c _ _ _ ⟨a,ns,rfl,h⟩;refine⟨_,(ah (aL (i:=1) aQ.nd rfl (Or.inl rfl) (a5 aM aD c (aa (pv 0) (aa ae af))))
   (ah (aL (i:=2) aQ.nd rfl (Or.inl rfl) (ay aN (ay aN (a7 bz (by rfl) fP Y7 (aa (a5 d7 d8 c (aa (pv 1) af)) af)) aA) (a7 bz (by rfl) fP Y7 (aa (ay bp (a5 aM aD c (aa (pv 0) (aa ae af))) ae) af))))
   (ah (aY (az mZ (ay bp (ay bP (a5 aM aD c (aa (pv 0) (aa ae af))) ae) ae) ae (aF _)) (ai (aL (i:=2) aQ.nd rfl (Or.inl rfl) (ay aN (ay aN (a7 bz (by rfl) fP Y7 (aa (ay bp (pv 1) ae) af)) aA) (a7 bz (by rfl) fP Y7 (aa (ay bp (a5 aM aD c (aa (pv 0) (aa ae af))) ae) af))))) aG)
   (ah (aL (i:=3) aQ.nd rfl (Or.inl rfl) (ay gy ae (ay bp (ay bP (a5 aM aD c (aa (pv 0) (aa ae af))) ae) ae)))
   (ah (aY (az dE (ay bp (a5 aM aD c (aa (pv 0) (aa ae af))) ae) ae (aF _)) (ai (aL (i:=3) aQ.nd rfl (Or.inl rfl) (a5 d7 d8 c (aa (ay bP (a5 aM aD c (aa (pv 0) (aa ae af))) ae) af)))) aG)
   (ah (aL (i:=2) aQ.nd rfl (Or.inl rfl) (ay aN (ay aN (ay aN (ay aN (pv 2) aA) (a7 bz (by rfl) fP Y7 (aa (pv 3) af))) aA) (a4 (aJ (K:=K) rfl) (fm (aa aA (aa aA (aa aA af)))) (ay bp (a5 aM aD c (aa (pv 0) (aa ae af))) ae) (λ_ _=>rfl))))
   (ah (aL (i:=4) aQ.nd rfl (Or.inl rfl) (a5 aM aD c (aa (pv 0) (aa ae af))))
   (ah (aL (i:=2) aQ.nd rfl (Or.inl rfl) (ay aN (ay aN (ay aN (pv 2) aA) (a4 (aJ (K:=K) rfl) (fm (aa aA (aa aA af))) (ay bp (pv 4) ae) (λ_ _=>rfl))) (a7 bz (by rfl) fP Y7 (aa (a4 (aJ (K:=K) rfl) (fm (aa (ay bp (ay bP (pv 4) ae) ae) (aa (a5 d7 d8 c (aa (ay bP (pv 4) ae) af)) af))) (ay bp (ay bP (pv 4) ae) ae) (λ_ _=>rfl)) af))))
   (ah (aL (i:=5) aQ.nd rfl (Or.inl rfl) (ay bp (a5 aM aD c (aa (pv 0) (aa ae af))) ae))
   (ah (nN DW rfl (sf rfl qU (aa (ay bp (ay bP (a5 aM aD c (aa (pv 0) (aa ae af))) ae) ae) af)) (fg (i:=6) aQ.nd rfl (Or.inl rfl))
   (ah (aL (i:=2) aQ.nd rfl (Or.inl rfl) (ay aN (ay aN (ay aN (ay aN (pv 2) aA) (a7 bz (by rfl) fP Y7 (aa (pv 5) af))) aA) (a7 bz (by rfl) fP Y7 (aa (ay bp (ay oU (a5 aM aD c (aa (pv 0) (aa ae af))) (ay gy ae (pv 6))) ae) af))))
   (ai (aL (i:=5) aQ.nd rfl (Or.inl rfl) (ay gy (pv 5) (ay bp (ay oU (a5 aM aD c (aa (pv 0) (aa ae af))) (ay gy (ay xY ae (pv 6)) ae)) ae))))))
   (ai (aH (pv 2))))))))))))),?_⟩
 obtain⟨g,q⟩:=h;cbv;refine⟨a,_,rfl,ns,g,by decide,λG=>?_⟩;cbv;refine⟨_,rfl,λm V W=>?_⟩;cbv;refine⟨_,rfl,pQ V W,?_⟩;have X:=jM V W;cbv;refine⟨_,_,rfl,rfl,aB (by have:=X.le;have:=jU.le;omega),?_⟩;have Y:=X.app jU;cbv;refine⟨a,_,rfl,ns,g,by decide,λc1=>?_⟩;have l:=md (a:=c1) (b:=71) (by decide);cbv;refine⟨_,rfl,pQ l.1 (by omega),?_⟩;have Z:=jM l.1 (by omega);cbv;refine⟨_,_,rfl,rfl,aB (by have:=Y.le;have:=Z.le;omega),?_⟩;have t4:=(Y.app Z).mono (show 62+ 1+ 62<=130 by decide);cbv;refine lK (λσ B=>∃x,σ=[Ya (.ref a),Ya (.int G),Ya (.str x),Yb,Yb,Yb,Yb]/\B=H/\Tx 130 x) ?_ λN n=>?_
 rotate_left
 ·cbv;refine⟨a,_,rfl,ns,g,by decide,λc2=>?_⟩;cbv;refine a6 (λ_=>?_) λ_=>?_
  ·have r1:=md (a:=G) (b:=1000) (by decide);cbv;refine⟨_,rfl,pQ r1.1 (by omega),?_⟩;have o:=jM r1.1 (by omega);cbv;refine⟨_,_,rfl,rfl,aB (by have:=o.le;have:=jU.le;omega),?_⟩;have p:=o.app jU;cbv;refine⟨a,_,rfl,ns,g,by decide,λc3=>?_⟩;have r2:=md (a:=c3) (b:=63) (by decide);cbv;refine⟨_,rfl,pQ r2.1 (by omega),?_⟩;have r:=jM r2.1 (by omega);cbv;refine⟨_,_,rfl,rfl,aB (by have:=p.le;have:=r.le;omega),?_⟩;cbv;exact n _ _ ⟨_,rfl,rfl,(p.app r).mono (by decide)⟩
  ·cbv;exact n _ _ ⟨_,rfl,rfl,t4⟩
 rintro σ B ⟨x,rfl,rfl,tx⟩;cbv;refine⟨a,_,rfl,ns,g,by decide,λc4=>?_⟩;have r9:=md (a:=c4 / 4) (b:=9) (by decide);cbv;refine lK (λσ A=>∃k:Int,σ=[Ya (.ref a),Ya (.int G),Ya (.str x),Ya (.int k),Yb,Yb,Yb]/\A=B/\0<=k/\k<10^62) ?_ λN n=>?_
 rotate_left
 ·cbv;refine⟨a,_,rfl,ns,g,by decide,λc5=>?_⟩;cbv;refine a6 (λ_=>?_) λ_=>?_
  ·cbv;refine⟨a,_,rfl,ns,g,by decide,λc6=>?_⟩;cbv;refine⟨_,rfl,λk I J=>?_⟩;cbv;exact n _ _ ⟨k,rfl,rfl,I,J⟩
  ·cbv;exact n _ _ ⟨_,rfl,rfl,by omega,by omega⟩
 rintro σ A ⟨k,rfl,rfl,I,J⟩;cbv;refine⟨_,_,rfl,rfl,aB (by have:=tx.le;have:=jU.le;omega),?_⟩;have t5:=tx.app jU;cbv;refine⟨_,rfl,pQ I J,?_⟩;have t6:=jM I J;cbv;refine⟨_,_,rfl,rfl,aB (by have:=t5.le;have:=t6.le;omega),?_⟩;have t7:=t5.app t6;cbv;refine⟨_,_,rfl,rfl,aB (by have:=t7.le;have:=jR.le;omega),?_⟩;have t8:=t7.app jR;cbv;intro l1 H1 ab s1 g1;have ac:=bw.of (K:=K) g1;have j:=s1.seq g;cbv;refine⟨a,_,rfl,ns,j,by decide,λc7=>?_⟩;obtain⟨kd,e7,s⟩:=AR "own" "heard" "one" c7;cbv;refine⟨_,_,rfl,rfl,aB (by have:=t8.le;have:=(xN s).le;omega),?_⟩;have t9:=t8.app (xN s);cbv;refine⟨a,_,rfl,ns,j,by decide,λt=>?_⟩;cbv;refine⟨_,_,rfl,rfl,aB (by have:=t9.le;have:=jR.le;omega),?_⟩;have u:=t9.app jR;cbv;intro l2 H2 ad s2 g2;have ag:=bw.of (K:=K) g2;have M:=s2.seq j;obtain⟨sg,e8,O⟩:=A4 "" "-" t;have y:Tx 1 sg:=by
  rcases O with rfl|rfl
  ·exact⟨by decide +kernel,by decide +kernel⟩
  ·exact⟨by decide +kernel,by decide +kernel⟩
 cbv;refine⟨_,_,rfl,rfl,aB (by have:=u.le;have:=y.le;omega),?_⟩;have C:=u.app y;have aj:=md (a:=t / 4) (b:=1000) (by decide);cbv;refine⟨_,rfl,λm2 ak al=>?_⟩;cbv;intro l3 H3 am s3 g3;have an:=bw.of (K:=K) g3;have d:=s3.seq M;obtain⟨wv,e9,Q⟩:=Br (t / 4%1000) m2 (t / 2);have e:0<=wv/\wv<10^62:=by rcases Q with rfl|rfl<;>constructor<;>omega
 cbv;refine⟨_,rfl,pQ e.1 e.2,?_⟩;have D:=jM e.1 e.2;cbv;refine⟨_,_,rfl,rfl,aB (by have:=C.le;have:=D.le;omega),?_⟩;have R:=(C.app D).mono (show 130+ 1+ 62+ 1+ 5+ 1+ 1+ 62<=270 by decide);cbv;refine⟨a,_,rfl,ns,d,by decide,λc9=>?_⟩;have ao:=md (a:=c9) (b:=20) (by decide);cbv;refine⟨a,_,rfl,ns,d,by decide,λS=>?_⟩;have r5:=md (a:=S / 3) (b:=5) (by decide);cbv;refine⟨_,rfl,by omega,by omega,?_⟩;let T:Nat->St->Hp->Prop:=λi σ B=>∃z hd v,σ=[Ya (.ref a),Ya (.int G),Ya (.str z),Ya (.int k),Ya (.int t),Ya (.int hd),v]/\B=H3/\Tx (270+ 50*i) z/\0<=hd/\hd<=20+ 12*(i:Int);refine rP T ⟨_,_,Yb,rfl,rfl,R,by omega,by omega⟩ ?_ ?_
 ·rintro i σ B hi ⟨z,hd,v,rfl,rfl,L,U,d1⟩;have i5:(i:Int)<5:=by omega
  have ap:rq c9 (20+ (0+ (i:Int))):=⟨by omega,by omega⟩;cbv;refine⟨_,_,rfl,rfl,aB (by have:=L.le;have:=jR.le;omega),?_⟩;have o:=L.app jR;cbv;refine⟨_,rfl,pQ U (by omega),?_⟩;have p:=oX U (by omega);cbv;refine⟨_,_,rfl,rfl,aB (by have:=o.le;have:=p.le;omega),?_⟩;have r:=o.app p;cbv;refine⟨_,_,rfl,rfl,aB (by have:=r.le;have:=tW.le;omega),?_⟩;have u4:=r.app tW;cbv;refine⟨a,_,rfl,ns,d,by decide,λe1=>?_⟩;have f1:rq e1 (20+ (0+ (i:Int))):=⟨by omega,by omega⟩;have E:=md (a:=e1 / (20+ (0+ (i:Int)))) (b:=40) (by decide);cbv;refine⟨_,rfl,pQ E.1 (by omega),?_⟩;have u5:=oX E.1 (by omega);cbv;refine⟨_,_,rfl,rfl,aB (by have:=u4.le;have:=u5.le;omega),?_⟩;have u6:=u4.app u5;cbv;refine⟨a,_,rfl,ns,d,by decide,λe2=>?_⟩;have f2:rq e2 (3*(0+ (i:Int))+ 1):=⟨by omega,by omega⟩;have f3:vR 3 (0+ (i:Int)):=.inl ⟨by omega,by omega⟩;have as:=md (a:=e2 / (3*(0+ (i:Int))+ 1)) (b:=12) (by decide);cbv;exact⟨_,_,_,rfl,rfl,u6.mono (by omega),by omega,by push_cast;omega⟩
 rintro σ B ⟨z,hd,v,rfl,rfl,L,U,d1⟩;cbv;exact q z _ (L.mono (by omega)) (s1.trans (s2.trans s3))
noncomputable abbrev dX:Y5:=jF 32
theorem Aj:∀k:Fin 24,∃c,("0123456789 .:-+anorwhed_":Yg).cps.toList[k.1]?=Ya c/\c<128:=by decide +kernel
theorem A0(c:Int):∃v,dC ("0123456789 .:-+anorwhed_":Yg).cps.toList (c%24)=Ya v/\v<128:=by
 have r:=md (a:=c) (b:=24) (by decide);obtain⟨v,e,h⟩:=Aj ⟨(c%24).toNat,by omega⟩;exact⟨v,qV r.1 e,h⟩
theorem Tx.one(h:c<128):Tx 1 ⟨#[c]⟩:=⟨λd hd=>by
 have e:d∈[c]:=hd;rw[YQ.mp e];exact h,Yo 1⟩
theorem Tx.to{n:Nat}(h:Tx n x)(k:Nat)(hk:k<=x.length):Tx k (YV x Yb (Ya (k:Int))):=by
 refine⟨λc hc=>?_,?_⟩
 ·rw[k9]at hc;exact h.lo c (FG hc)
 ·rw[eE,k9,Cp];omega
theorem Tx.from{n:Nat}(h:Tx n x)(k:Nat):Tx (x.length-k) (YV x (Ya (k:Int)) Yb):=by
 refine⟨λc hc=>?_,?_⟩
 ·rw[iM]at hc;exact h.lo c (DV hc)
 ·rw[eE,iM,DB,←eE];exact Yo _
theorem yb:∀{ps:List (List Nat)},d∈jn c ps->d=c∨∃p∈ps,d∈p:=by
 intro ps
 induction ps with
 |nil=>intro h;cases h
 |cons a r ih=>
  intro h;cases r with
  |nil=>exact .inr ⟨a,YL ..,h⟩
  |cons b r=>
   have h:d∈a++c::jn c (b::r):=h;rcases B0.mp h with z|z
   ·exact .inr ⟨a,YL ..,z⟩
   ·rcases YK.mp z with z|z
    ·exact .inl z
    ·rcases ih z with y|⟨p,e,y⟩
     ·exact .inl y
     ·exact .inr ⟨p,Yw _ e,y⟩
theorem wC{n:Nat}{a:List Yg}(h:∀p∈a,∀c∈p.cps.toList,c<128)(l:(a.map (·.length)).sum+ a.length<=n):Tx n (FC " " a):=by
 refine⟨λc hc=>?_,?_⟩
 ·rw[←qZ,q9]at hc;rcases yb hc with z|⟨q,d,z⟩
  ·omega
  ·obtain⟨p,f,rfl⟩:=CM.mp d;exact h p f c z
 ·have b:=StrLaws.join_length_le " " a;have e:(" ":Yg).length=1:=by decide +kernel
  rw[e]at b;omega
theorem uu{a b:List Yg}(h:a.Perm b):(a.map (·.length)).sum=(b.map (·.length)).sum:=(h.map _).sum_nat
theorem y8:∀(ps:List Yg) (j:Nat),(ps.map V.str).eraseIdx j=(ps.eraseIdx j).map V.str:=by
 intro ps
 induction ps with
 |nil=>intro j;rfl
 |cons a r ih=>
  intro j;cases j with
  |zero=>rfl
  |succ j=>
   show V.str a::(r.map V.str).eraseIdx j=V.str a::(r.eraseIdx j).map V.str;rw[ih j]
theorem wI:∀{ps:List Yg} {j:Nat} (h:j<ps.length),(ps[j]::ps.eraseIdx j).Perm ps:=by
 intro ps
 induction ps with
 |nil=>intro j h;cases h
 |cons a r ih=>
  intro j h;cases j with
  |zero=>exact .refl _
  |succ j=>exact(List.Perm.swap a _ _).trans ((ih (BV h)).cons a)
theorem rh:∀{ps:List Yg} {j:Nat} (h:j<ps.length),((ps.set j y).map (·.length)).sum+ (ps[j]).length=(ps.map (·.length)).sum+ y.length:=by
 intro ps
 induction ps with
 |nil=>intro j h;cases h
 |cons a r ih=>
  intro j h;cases j with
  |zero=>
   show(y.length+ (r.map (·.length)).sum)+ a.length=(a.length+ (r.map (·.length)).sum)+ y.length;omega
  |succ j=>
   have:=ih (j:=j) (BV h);show(a.length+ ((r.set j y).map (·.length)).sum)+ (r[j]'(BV h)).length=(a.length+ (r.map (·.length)).sum)+ y.length;omega
def fB(K:Yc):Sp:=λb H Q _=>∃(x:Yg) (c:Int),b=[.str x,.int c]/\∃n,Tx n x/\n<=900/\∀y a,Tx (n+ 2) y->aX H a->Q (.str y) a
abbrev tV:List Yg:=["_law_text","_law_cell"]
theorem bx:aO ["_law_text","_law_cell","_law_at","_law_sign","_law_way","_law_words"] tV (aq dX):=jG
include eV cq in
theorem kN(F:cc K "_law_spoiled" "_law_spoiled" dX f fd):∅ 1 f fd tV (fB K):=by
 refine F.oj bx ?_;rintro _ _ _ _ H _ _ _ _ _ _ _ ⟨x,c,rfl,h⟩;refine⟨_,(ah (aL (i:=2) bx.nd rfl (Or.inl rfl) (ay bp (ay bP (pv 1) ae) (ay gy (aV fh (by rfl) cq jJ (aa (pv 0) af)) ae)))
   (ah (aL (i:=3) bx.nd rfl (Or.inl rfl) (a4 qH aA (ay bp (ay bP (pv 1) ae) ae) (λ_ _=>rfl)))
   (ah (aL (i:=4) bx.nd rfl (Or.inl rfl) (ay bp (pv 1) ae))
   (ah (aY (az j5 (pv 4) ae (aF _)) (ai (aH (ay aN (ay aN (bS fk (pv 0) cN (cg (pv 2))) (pv 3)) (bS fk (pv 0) (cg (pv 2)) cN)))) aG)
   (ah (aY (az j5 (pv 4) ae (aF _)) (ai (aH (ay aN (bS fk (pv 0) cN (cg (pv 2))) (bS fk (pv 0) (cg (ay gy (pv 2) ae)) cN)))) aG)
   (ah (aY (az j5 (pv 4) ae (aF _)) (ai (aH (ay aN (ay aN (bS fk (pv 0) cN (cg (pv 2))) (pv 3)) (bS fk (pv 0) (cg (ay gy (pv 2) ae)) cN)))) aG)
   (ah (aL (i:=5) bx.nd rfl (Or.inl rfl) (fx Y6 ni oh dN (pv 0) (aa aA af)))
   (ah (aL (i:=2) bx.nd rfl (Or.inl rfl) (ay bp (ay bP (pv 1) ae) (aV (b9 (K:=K) rfl) (by rfl) cq jJ (aa (pv 5) af))))
   (ah (aY (az dE (pv 4) ae (aF _)) (ai (oQ (lN (K:=K) rfl (fx Ds EN EO gI (pv 5) (aa (w8 (K:=K) rfl (fx Ds PySem.F.slot_list_pop PySem.F.type_list_pop vh (pv 5) (aa (pv 2) af))) af))))) (ai (yB (ay aN aA (a4 (aJ (K:=K) rfl) (pv 5) (pv 2) (λ_ _=>rfl))) (zh (pv 5) (pv 2) ue))))
   (ai (aH (fx Y6 PySem.F.slot_str_join PySem.F.type_str_join (wO (K:=K) rfl) aA (aa (pv 5) af))))))))))))),?_⟩
 obtain⟨n,g,ln,q⟩:=h;have le:=g.le;cbv;refine⟨_,rfl,aB (by omega),?_⟩;have pl:(0:Int)<(x.length:Int)+ 1:=by omega
 have rA:=md (a:=c / 8) (b:=(x.length:Int)+ 1) pl;obtain⟨k,hk⟩:∃k:Nat,c / 8%((x.length:Int)+ 1)=k:=⟨(c / 8%((x.length:Int)+ 1)).toNat,by omega⟩;have s:k<=x.length:=by omega
 cbv;rw[hk];cbv;obtain⟨U,I,J⟩:=A0 (c / 500);refine⟨_,_,U,rfl,rfl,by decide +kernel,I,?_⟩;have E:=Tx.one J;cbv;refine a6 (λ_=>?_) λ_=>?_
 ·skip
  cbv;refine⟨_,rfl,aB (by omega),?_⟩;have t:=g.to k s;cbv;refine⟨_,_,rfl,rfl,aB (by have:=t.le;have:=E.le;omega),?_⟩;have m:=t.app E;cbv;refine⟨_,rfl,aB (by omega),?_⟩;have r:=g.from k;cbv;refine⟨_,_,rfl,rfl,aB (by have:=m.le;have:=r.le;omega),?_⟩;exact q _ _ ((m.app r).mono (by omega)) (.refl _)
 cbv;refine a6 (λ_=>?_) λ_=>?_
 ·skip
  cbv;refine⟨_,rfl,aB (by omega),?_⟩;have t:=g.to k s;cbv;have m:=t;refine⟨_,rfl,aB (by omega),?_⟩;have r:Tx (x.length-(k+ 1)) (YV x (Ya ((k:Int)+ 1)) Yb):=by
   have u:=g.from (k+ 1)
   push_cast at u
   exact u
  cbv;refine⟨_,_,rfl,rfl,aB (by have:=m.le;have:=r.le;omega),?_⟩;exact q _ _ ((m.app r).mono (by omega)) (.refl _)
 cbv;refine a6 (λ_=>?_) λ_=>?_
 ·skip
  cbv;refine⟨_,rfl,aB (by omega),?_⟩;have t:=g.to k s;cbv;refine⟨_,_,rfl,rfl,aB (by have:=t.le;have:=E.le;omega),?_⟩;have m:=t.app E;cbv;refine⟨_,rfl,aB (by omega),?_⟩;have r:Tx (x.length-(k+ 1)) (YV x (Ya ((k:Int)+ 1)) Yb):=by
   have u:=g.from (k+ 1)
   push_cast at u
   exact u
  cbv;refine⟨_,_,rfl,rfl,aB (by have:=m.le;have:=r.le;omega),?_⟩;exact q _ _ ((m.app r).mono (by omega)) (.refl _)
 cbv;refine⟨_,_,rfl,rfl,by decide +kernel,aB (by omega),λl L=>?_⟩;have v:∀p∈Ys x " ",∀c∈p.cps.toList,c<128:=λp v=>((g.asc (by omega)).part (c:=32) (by rw[qZ];exact v)).lo;have W:=Hk x " " (by decide +kernel);have M:=Fc x " ";have G:=aZ (o:=.lst ((Ys x " ").map V.str)) L;have C:upd H l (.lst ((Ys x " ").map V.str)) l=Ya (.lst ((Ys x " ").map V.str)):=aI;generalize Ys x " "=ps at v W M G C⊢;generalize upd H l (.lst (ps.map V.str))=H1 at C G⊢;have sl:=bw.of (K:=K) C;cbv;have lm:((ps.map V.str).length:Int)=(ps.length:Int):=by rw[Yn]
 rw[lm];have pP:(0:Int)<(ps.length:Int):=by omega
 have rB:=md (a:=c / 8) (b:=(ps.length:Int)) pP;obtain⟨j,hj⟩:∃j:Nat,c / 8%(ps.length:Int)=j:=⟨(c / 8%(ps.length:Int)).toNat,by omega⟩;have e:j<ps.length:=by omega
 have D:tM (ps.map V.str).length (j:Int)=Ya j:=by
  rw[Yn];unfold tM;rw[if_pos (by omega),if_pos (by omega)];rfl
 have O:=(nV D).1;have X:(ps.map V.str)[j]?=Ya (.str ps[j]):=by rw[YX,YS e];rfl
 have Q:ps.length<=1001:=by have:=W;omega
 cbv;rw[hj];refine lK (λσ B=>∃A:List Yg,σ=[Ya (.str x),Ya (.int c),Ya (.int j),Ya (.str ⟨#[U]⟩),Ya (.int (c%8)),Ya (.ref l)]/\aX H B/\B l=Ya (.lst (A.map V.str))/\(∀p∈A,∀c∈p.cps.toList,c<128)/\(A.map (·.length)).sum+ A.length<=x.length+ 2) ?_ λN Y=>?_
 ·rintro σ B ⟨A,rfl,sB,gB,hq,lq⟩;cbv;exact⟨_,l,A,rfl,rfl,bw.of gB,by decide +kernel,by omega,q _ _ (wC hq (by omega)) sB⟩
 cbv;refine a6 (λ_=>?_) λ_=>?_
 ·cbv;refine⟨l,_,(j:Int),j,_,rfl,rfl,C,by omega,by omega,O,X,?_⟩;have g2:upd H1 l (.lst ((ps.map V.str).eraseIdx j)) l=Ya (.lst ((ps.map V.str).eraseIdx j)):=aI;have Z:qw l H1 (upd H1 l (.lst ((ps.map V.str).eraseIdx j))):=.upd;generalize upd H1 l (.lst ((ps.map V.str).eraseIdx j))=H2 at g2 Z⊢;have l2:((ps.map V.str).eraseIdx j).length<Yp:=CD (List.length_eraseIdx_le _ _) (by rw[Yn];exact CD Q (by decide +kernel));cbv;intro H3 R S;have T:(ps.eraseIdx j++[ps[j]]).Perm ps:=(List.perm_append_singleton _ _).trans (wI e);refine Y _ _ ⟨ps.eraseIdx j++[ps[j]],rfl,(show qw l H1 H3 from λb h=>(R b h).trans (Z b h)).same G L,?_,λp h=>v p (T.mem_iff.mp h),?_⟩
  ·rw[S,xw,y8];rfl
  ·rw[uu T,T.length_eq];omega
 ·have aj:dC (ps.map V.str) (j:Int)=Ya (.str ps[j]):=av X;have pj:ps[j].length<=x.length:=by
   have:=rh (y:="") e;have e0:("":Yg).length=0:=by decide +kernel
   omega
  have I:("0":Yg).length=1:=by decide +kernel
  cbv;refine⟨_,_,rfl,rfl,aB (by omega),?_⟩;cbv;refine xT C D λH3 R S=>?_;cbv;refine Y _ _ ⟨ps.set j ("0"++ps[j]),rfl,R.same G L,?_,λp h=>?_,?_⟩
  ·rw[S,List.map_set]
  ·rcases List.mem_or_eq_of_mem_set h with z|z
   ·exact v p z
   ·subst z;intro d hd;rw[jo]at hd;rcases B0.mp hd with y|y
    ·have t0:∀d∈("0":Yg).cps.toList,d<128:=by decide +kernel
     exact t0 d y
    ·exact v _ (DC e) d y
  ·have:=rh (y:="0"++ps[j]) e;rw[ji,I]at this;rw[E2];omega
noncomputable abbrev eL:Y5:=jF 33
noncomputable def oV:Option Int->V
 |none=>.non
 |some n=>.int n
noncomputable def ng(x:Yg)(lo a:Int):Option Int:=(gQ x).bind λn=>if n<lo∨a<n then Yb else Ya n
def dZ(K:Yc):Sp:=λb H Q _=>∃(x:Yg) (lo a:Int),b=[.str x,.int lo,.int a]/\fK x/\Q (oV (ng x lo a)) H
abbrev rX:List Yg:=["_law_text","_law_low","_law_high"]
theorem gc:aO ["_law_text","_law_low","_law_high","_law_sign"] rX (aq eL):=jG
include eV kF cq in
theorem lX(F:cc K "_law_number" "_law_number" eL f fd):∅ 1 f fd rX (dZ K):=by
 refine F.oj gc ?_;rintro _ A _ _ H _ Q _ m _ _ _ ⟨x,lo,d,rfl,h⟩;refine⟨_,(ah (aY (PW.pt (fF (az dE (pv 0) aA (aF _)) (fF (az mZ (aV fh (by rfl) cq jJ (aa (pv 0) af)) ae (aF _)) (jT (PW.pt (iy (az dE (a4 qH (pv 0) ae (λ_ _=>rfl)) aA (aF _)) (gJ (az lJ (pv 0) aA (aF _))))))))) (ai (aH cm)) aG)
   (ah (nN DW rfl (uY (pv 0)) (fg (i:=3) gc.nd rfl (Or.inl rfl))
   (ai (aY (az nG (pv 3) aA (by rfl)) (ai (aH cm)) aG)))
   (ah (aY (PW.pt (fF (az j5 (a7 gO (by rfl) kF Ca (aa (pv 0) af)) (pv 1) (aF _)) (jT (az mZ (a7 gO (by rfl) kF Ca (aa (pv 0) af)) (pv 2) (aF _))))) (ai (aH cm)) aG)
   (ai (aH (a7 gO (by rfl) kF Ca (aa (pv 0) af))))))),?_⟩
 obtain⟨s,q⟩:=h;have le:=s.le;have no:p8 x=false->Q .non H:=λt=>by
  have e:ng x lo d=none:=by
   unfold ng gQ;rw[t];rfl
  rw[e]at q;exact q
 have g:p8 x=(!decide (x="")&&x.cps.toList.all pM&&decide (x.length<=60)&& !(decide (x.cps.toList.head?=Ya 48)&& !decide (x="0"))):=rfl;refine lK (λσ B=>σ=[Ya (.str x),Ya (.int lo),Ya (.int d),Yb]/\B=H/\x≠""/\p8 x=x.cps.toList.all pM/\x.length<=60) ?_ λN G=>?_
 rotate_left
 ·cbv;by_cases b:x=""
  ·rw[decide_eq_true b];refine a6 (λ_=>?_) λh=>absurd rfl h;cbv;exact no (by rw[g,decide_eq_true b];rfl)
  rw[decide_eq_false b];refine a6 (λh=>absurd h (by decide)) λ_=>?_;cbv;refine⟨_,rfl,aB (by omega),?_⟩;cbv;refine a6 (λh=>?_) λh60=>?_
  ·have h:=of_decide_eq_true h;rw[if_pos rfl];cbv;exact no (by rw[g,decide_eq_false (show ¬ x.length<=60 by omega)];simp)
  have h60:x.length<=60:=by
   rcases xq 60 x.length with z|z
   ·exact absurd (decide_eq_true (by omega)) h60
   ·exact z
  have nx:x.cps.toList≠[]:=λz=>b (gP z);obtain⟨p,L,I⟩:=Eo nx;have u:x.cps.toList.head?=Ya p:=by rw[I];rfl
  have y:decide ((⟨#[p]⟩:Yg)="0")=decide (x.cps.toList.head?=Ya 48):=by
   rw[u,decide_eq_decide];constructor
   ·intro z;have C:(⟨#[p]⟩:Yg)=⟨#[48]⟩:=z.trans (by decide +kernel);injection C with C;rw[(Ep (Array.mk.inj C)).1]
   ·intro z;rw[Yy z];decide +kernel
  have pv:p8 x=(x.cps.toList.all pM&& !(decide (x.cps.toList.head?=Ya 48)&& !decide (x="0"))):=by
   rw[g,decide_eq_false b,decide_eq_true h60];cases x.cps.toList.all pM<;>rfl
  cbv;refine⟨_,_,p,rfl,rfl,aB (by omega),by rw[I];exact av (j:=0) rfl,?_⟩;cbv;rw[y];refine a6 (λh=>?_) λh=>?_
  ·cbv;refine a6 (λl=>?_) λl=>?_
   ·cbv;exact no (by rw[pv,h,l];simp)
   ·have l:(!decide (x="0"))=false:=by simpa using l
    cbv;exact G _ _ ⟨rfl,rfl,b,by rw[pv,h,l];simp,h60⟩
  ·have h:decide (x.cps.toList.head?=Ya 48)=false:=by simpa using h
   rw[if_neg Yr];cbv;exact G _ _ ⟨rfl,rfl,b,by rw[pv,h];simp,h60⟩
 rintro σ B ⟨rfl,rfl,b,pv,h60⟩;cbv;refine⟨_,rfl,s.all,?_⟩;refine v5 (z:=x) (λi σ A=>∃v,σ=[Ya (.str x),Ya (.int lo),Ya (.int d),v]/\A=B/\(x.cps.toList.take i).all pM=true) ⟨Yb,rfl,rfl,rfl⟩ ?_ ?_
 ·rintro i c σ A D ⟨J,rfl,rfl,r⟩;have k:x.cps.toList[i]?=Ya c:=by rw[gs];exact D
  have o:=s.lo c (ar k);cbv;refine⟨_,_,rfl,rfl,?_⟩;rw[u7 o];cases hd:pM c with
  |false=>
   cbv;refine no ?_;rw[pv,Gi];intro z;have:=DE.mp z c (ar k);rw[hd]at this;cases this
  |true=>
   cbv;exact⟨_,rfl,rfl,by rw[eR k,List.all_append,r];simp[hd]⟩
 rintro σ A ⟨J,rfl,rfl,r⟩;rw[show x.cps.size=x.cps.toList.length from pe.symm,Cu]at r;have t:p8 x=true:=pv.trans r;have m:gQ x=Ya ((xa x.cps.toList:Nat):Int):=by unfold gQ;rw[t];rfl
 have a:=qY m;generalize ((xa x.cps.toList:Nat):Int)=n at m a;have E:ng x lo d=if n<lo∨d<n then Yb else Ya n:=by unfold ng;rw[m];rfl
 refine bN ?_;cbv;refine⟨_,n,rfl,a,by omega,?_⟩;cbv;refine a6 (λh=>?_) λh1=>?_
 ·have h:n<lo:=of_decide_eq_true h;rw[if_pos rfl];cbv;rw[E,if_pos (.inl h)]at q;exact q
 have h1:¬ n<lo:=λz=>h1 (decide_eq_true z);cbv;refine⟨_,n,rfl,a,by omega,?_⟩;cbv;refine a6 (λh=>?_) λh2=>?_
 ·have h:d<n:=of_decide_eq_true h;cbv;rw[E,if_pos (.inr h)]at q;exact q
 have h2:¬ d<n:=λz=>h2 (decide_eq_true z);cbv;refine⟨_,n,rfl,a,by omega,?_⟩;rw[E,if_neg (by omega)]at q;exact q
theorem qX:ng x 0 (10^60)=gQ x:=by
 unfold ng;cases e:gQ x with
 |none=>rfl
 |some n=>
  have b:=iJ e;show(if n<0∨10^60<n then Yb else Ya n)=Ya n;rw[if_neg (by omega)]
theorem o3:ng x 0 62=oR x:=by
 unfold ng oR;cases e:gQ x with
 |none=>rfl
 |some n=>
  have b:=iJ e;show(if n<0∨62<n then Yb else Ya n)=if 62<n then Yb else Ya n
  by_cases h:62<n
  ·rw[if_pos h,if_pos (.inr h)]
  ·rw[if_neg h,if_neg (by omega)]
theorem jX:ng x 1 (10^60)=oA x:=by
 unfold ng oA;cases e:gQ x with
 |none=>rfl
 |some n=>
  have b:=iJ e;show(if n<1∨10^60<n then Yb else Ya n)=if n=0 then Yb else Ya n
  by_cases h:n=0
  ·rw[if_pos h,if_pos (.inl (by omega))]
  ·rw[if_neg h,if_neg (by omega)]
theorem wG:∀{a:List (Int×Int)},k7 ts=Ya a->∀i,k7 (ts.take i)=Ya (a.take i):=by
 induction ts with
 |nil=>
  intro a h i;cases (show Ya []=Ya a from h);rw[Hh,Hh];rfl
 |cons y r ih=>
  intro a h i;have h:(cU y).bind (λp=>(k7 r).bind λq=>Ya (p::q))=Ya a:=h;cases e:cU y with
  |none=>rw[e]at h;cases h
  |some p=>
   rw[e,Yl]at h;cases e2:k7 r with
   |none=>rw[e2]at h;cases h
   |some q=>
    rw[e2,Yl]at h;cases h;cases i with
    |zero=>rfl
    |succ i=>
     show(cU y).bind (λp=>(k7 (r.take i)).bind λq=>Ya (p::q))=Ya (p::q.take i);rw[e,Yl,ih e2 i];rfl
theorem wu{i:Nat}(h1:k7 (ts.take i)=Ya ps)(h2:ts[i]?=Ya y)(h3:cU y=Ya p)(h4:¬ ((ps++[p]).map (·.1)).Pairwise (·<·)):eZ ts=none:=by
 unfold eZ;cases e:k7 ts with
 |none=>rfl
 |some full=>
  have a:=wG e (i+ 1);rw[eR h2,lF,h1,Yl,h3]at a;have a:ps++[p]=full.take (i+ 1):=Yy a;show(if(full.map (·.1)).Pairwise (·<·)then Ya full else Yb)=Yb;rw[if_neg];intro z;rw[a,List.map_take]at h4;exact h4 (z.sublist (Ew ..))
theorem jZ(h:y∈ts)(e:cU y=Yb):eZ ts=none:=by
 unfold eZ;rw[pf h e];rfl
theorem wY{l:List Int}(h:l.Pairwise (·<·))(k:∀a c,l=c++[a]->a<b):(l++[b]).Pairwise (·<·):=by
 refine CT.mpr ⟨h,EV _ _,λx d y e=>?_⟩;cases YQ.mp e;rcases DI l with rfl|⟨c,a,rfl⟩
 ·cases d
 ·rw[DJ]at*;have f:=k a c rfl;rcases B0.mp d with z|z
  ·have:=(CT.mp h).2.2 x z a (vc a);omega
  ·cases YQ.mp z;exact f
noncomputable abbrev eJ:Y5:=jF 34
theorem uR{α:Type}(xs:List α)(x:α):dC (xs++[x]) (-1)=Ya x:=by
 have e:tM (xs++[x]).length (-1)=Ya xs.length:=by
  unfold tM;rw[BY,Fi,if_neg (by omega),if_pos (by omega)];congr 1;omega
 unfold dC;rw[e];simp
theorem uW(r:kK H xs ps)(h:ps≠[]):∃a b c p,xs=a++[.ref b]/\ps=c++[p]/\H b=Ya (.tup [.int p.1,.int p.2]):=by
 rcases DI ps with rfl|⟨c,p,rfl⟩
 ·exact absurd rfl h
 rw[DJ]at*;have f:=r.len;rcases DI xs with rfl|⟨a,x,rfl⟩
 ·rw[BY]at f;cases f
 rw[DJ]at*;obtain⟨q,d,b,rfl,hb⟩:=r.get (i:=a.length) (x:=x) (by simp);have d:p=q:=by
  have e:a.length=c.length:=by simpa using r.len
  rw[e]at d;simpa using d
 subst d;exact⟨a,b,c,p,rfl,rfl,hb⟩
def fV(K:Yc):Sp:=λf H Q _=>∃(a:Yf) (c:List Yg),f=[.ref a]/\H a=Ya (.lst (c.map V.str))/\(∀x∈c,fK x)/\c.length<=1000/\(eZ c=Yb->∀b,aX H b->Q .non b)/\(∀d,eZ c=Ya d->∀b t e,aX H b->b t=Ya (.tup e)->kK b e d->Q (.ref t) b)
abbrev uw:List Yg:=["_law_words"]
theorem bG:aO ["_law_words","_law_found","_law_word","_law_pair","_law_hand","_law_much"] uw (aq eJ):=jG
variable{eG:Yf}{dR:YA}(eI:∅ 1 eG dR rX (dZ K))(a9:dA K mg "_law_number" eG dR rX)
include eV eI a9 cq kT in
theorem lj(F:cc K "_law_causes" "_law_causes" eJ f fd):∅ 2 f fd uw (fV K):=by
 refine F.oj bG ?_;rintro _ _ _ _ H _ Q _ hr E _ _ ⟨a,Y,rfl,h⟩;refine⟨_,(ah (aL (i:=1) bG.nd rfl (Or.inl rfl) (fm af))
   (ah (nN DW rfl (jb (K:=K) rfl (pv 0)) (fg (i:=2) bG.nd rfl (Or.inl rfl))
   (ah (aL (i:=3) bG.nd rfl (Or.inl rfl) (fx Y6 ni oh dN (pv 2) (aa aA af)))
   (ah (aY (az lJ (aV (b9 (K:=K) rfl) (by rfl) cq jJ (aa (pv 3) af)) ae (aF _)) (ai (aH cm)) aG)
   (ah (aL (i:=4) bG.nd rfl (Or.inl rfl) (a5 eI a9 hr (aa (a4 (aJ (K:=K) rfl) (pv 3) ae (λ_ _=>rfl)) (aa ae (aa ae af)))))
   (ah (aL (i:=5) bG.nd rfl (Or.inl rfl) (a5 eI a9 hr (aa (a4 (aJ (K:=K) rfl) (pv 3) ae (λ_ _=>rfl)) (aa ae (aa (ay fM ae ae) af)))))
   (ah (aY (PW.pt (fF (az lE (pv 4) cm (aF _)) (fF (az lE (pv 5) cm (aF _)) (jT (PW.pt (iy (az (vk (K:=K) rfl E) (pv 1) (fm af) (aF _)) (gJ (az zM (a4 (ju (K:=K) rfl) (a4 (aJ (K:=K) rfl) (pv 1) (xC ur ae) (λ_ _=>rfl)) ae (λ_ _=>rfl)) (pv 4) (aF _))))))))) (ai (aH cm)) aG)
   (ai (oQ (lN (K:=K) rfl (fx Ds EN EO gI (pv 1) (aa (cG (aa (pv 4) (aa (pv 5) af))) af)))))))))))
   (ai (aH (a7 (j8 (K:=K) rfl) (by rfl) kT EU (aa (pv 1) af)))))),?_⟩
 obtain⟨ha,asc,ln,no,q⟩:=h;cbv;intro l H0 hl s0 g0;have Z:=s0 _ _ ha;have as:=bw.of (K:=K) Z;cbv;let ab:Nat->St->Hp->Prop:=λi σ B=>∃G I J L g d,σ=[Ya (.ref a),Ya (.ref l),G,I,J,L]/\aX H B/\B l=Ya (.lst g)/\kK B g d/\k7 (Y.take i)=Ya d/\(d.map (·.1)).Pairwise (·<·)/\d.length<=i;refine pE (K:=K) (a:=a) (xs:=Y.map V.str) ab ⟨Yb,Yb,Yb,Yb,[],[],rfl,s0,g0,.nil,rfl,.nil,Yo _⟩ ?_ ?_ ?_
 ·rintro i σ B _ ⟨_,_,_,_,_,_,_,z,_⟩;exact bw.of (z _ _ ha)
 ·rintro i x σ B hx ⟨G,I,J,L,g,d,rfl,r,gl,U,M,up,lp⟩;rw[YX]at hx;obtain⟨y,W,rfl⟩:=Dw.mp hx;have hm:=ar W;have hi:=(YY.mp W).1;have ac:=asc y hm;have le:=ac.le;have lx:=U.len;cbv;refine⟨_,_,rfl,rfl,by decide +kernel,aB (by omega),λN ad=>?_⟩;have O:∀p∈Ys y ":",fK p:=λp O=>ac.part (c:=58) (by rw[xA];exact O);have s:cU y=zj (Ys y ":"):=rfl;have m:=aZ (o:=.lst ((Ys y ":").map V.str)) ad;have D:upd B N (.lst ((Ys y ":").map V.str)) N=Ya (.lst ((Ys y ":").map V.str)):=aI;generalize Ys y ":"=ws at s O m D⊢;generalize upd B N (.lst (ws.map V.str))=B1 at D m⊢;have ag:=bw.of (K:=K) D;refine bN ?_;cbv;refine a6 (λh=>?_) λh=>?_
  ·have h:¬ ws.length=2:=λz=>by
    rw[Yn,z]at h;exact absurd h (by decide)
   cbv;exact no (jZ hm (s.trans (tR h))) _ (r.trans m)
  have l2:ws.length=2:=by
   rcases F1 ws.length 2 with z|z
   ·rw[Yn,decide_eq_false (by omega)]at h;exact absurd rfl h
   ·exact z
  obtain⟨u,v,rfl⟩:∃u v,ws=[u,v]:=by
   match ws,l2 with
   |[u,v],_=>exact⟨u,v,rfl⟩
  have aj:=O u (by simp);have ak:=O v (by simp);have D:B1 N=Ya (.lst [.str u,.str v]):=D;have ag:=bw.of (K:=K) D;have a0:dC [V.str u,V.str v] 0=Ya (.str u):=av (j:=0) rfl;have a1:dC [V.str u,V.str v] 1=Ya (.str v):=av (j:=1) rfl;have s:cU y=(oR u).bind λh=>(oA v).bind λk=>Ya (h,k):=s;cbv;refine⟨u,_,_,rfl,aj,?_⟩;rw[o3];cbv;refine⟨v,_,_,rfl,ak,?_⟩;rw[show ng v 1 (10^Ee 60)=oA v from jX];refine bN ?_;cbv;cases eu:oR u with
  |none=>
   refine a6 (λ_=>?_) λh=>absurd rfl h;cbv;exact no (jZ hm (by rw[s,eu];rfl)) _ (r.trans m)
  |some hd=>
   rw[show oV (Ya hd)=V.int hd from rfl,show decide (V.int hd=V.non)=false from decide_eq_false (λz=>nomatch z)];refine a6 (λh=>absurd h (by decide)) λ_=>?_;cbv;cases ev:oA v with
   |none=>
    refine a6 (λ_=>?_) λh=>absurd rfl h;cbv;exact no (jZ hm (by rw[s,eu,Yl,ev];rfl)) _ (r.trans m)
   |some mu=>
    rw[show oV (Ya mu)=V.int mu from rfl,show decide (V.int mu=V.non)=false from decide_eq_false (λz=>nomatch z)];refine a6 (λh=>absurd h (by decide)) λ_=>?_;have ep:cU y=Ya (hd,mu):=by rw[s,eu,Yl,ev];rfl
    have R:=m _ _ gl;have au:=bw.of (K:=K) R;cbv;intro l3 B3 aw X g3;have A:=bT (m.trans X) U;have n:=X _ _ R;have S:(((d++[(hd,mu)]).map (·.1)).Pairwise (·<·))->tS (yC K "list" jD (jH 1) (eT (wR (eT (jH 4) (eT (jH 5) pL))) pL)) {nx:=λσ B=>∃G I J L g d,σ=[Ya (.ref a),Ya (.ref l),G,I,J,L]/\aX H B/\B l=Ya (.lst g)/\kK B g d/\k7 (Y.take (i+ 1))=Ya d/\(d.map (·.1)).Pairwise (·<·)/\d.length<=i+ 1,rt:=Q} [Ya (.ref a),Ya (.ref l),Ya (.str y),Ya (.ref N),Ya (.int hd),Ya (.int mu)] B3:=λam=>by
     have ls:g.length<Yp:=CD (show g.length<=1000 by omega) (by decide +kernel);have an:=bw.of (K:=K) n;cbv;intro t B4 ht s4 g4;have T:=s4 _ _ n;cbv;intro B5 b5 g5;have sH:uC B3 B5:=(uC.same s4).trans (uC.but b5 T (by intro _ z;cases z));refine⟨_,_,_,_,g++[.ref t],d++[(hd,mu)],rfl,b5.same (r.trans (m.trans (X.trans s4))) hl,g5,kK.snoc (A.mono sH) ⟨t,rfl,b5.of T g4 (by intro z;cases z)⟩,?_,am,by rw[BY];exact EJ lp⟩;rw[eR W,lF,M,Yl,ep];rfl
    refine wz (bw.of n) A.dps (kW d) (bw.of g3) ?_;by_cases C:d=[]
    ·subst C;refine⟨_,rfl,?_⟩;refine a6 (λh=>absurd h (by decide)) λ_=>?_;rw[if_neg Yr];exact S (by exact EV _ _)
    ·have ao:decide (d.map rY=[])=false:=decide_eq_false λz=>C (List.map_eq_nil_iff.mp z);rw[ao];refine⟨_,rfl,?_⟩;refine a6 (λ_=>?_) λh=>absurd rfl h;obtain⟨ap,b,ax,p,rfl,rfl,hb⟩:=uW A C;have an:=bw.of (K:=K) n;have al:=uR ap (V.ref b);have sb:=gU.of (K:=K) hb;have b0:dC [V.int p.1,V.int p.2] 0=Ya (.int p.1):=av (j:=0) rfl;cbv;refine a6 (λh=>?_) λh=>?_
     ·have h:hd<=p.1:=of_decide_eq_true h;cbv;refine no (wu M W ep λz=>?_) _ (r.trans (m.trans X));rw[xw]at z;have:=(CT.mp z).2.2 p.1 (by simp) hd (by simp);omega
     ·have h:¬ hd<=p.1:=λz=>h (decide_eq_true z);refine S ?_;rw[xw];refine wY up λa' l' e=>?_;rw[xw]at e;have e2:=(List.append_inj' e rfl).2;have e3:p.1=a':=(Ep e2).1;show a'<hd;omega
 rintro σ B ⟨G,I,J,L,g,d,rfl,r,gl,U,M,up,lp⟩;rw[Yn,Cu]at M;have sl:=bw.of (K:=K) gl;cbv;intro t H2 ht s2 g2;exact q d (by unfold eZ;rw[M];exact if_pos up) _ t g (r.trans s2) g2 (bT s2 U)
def Tq(H:Hp)(u:Yf)(n c k:Int)(kd:Yg)(w:Int)(b:List (Int×Int)):Prop:=∃t a,H u=Ya (.tup [.int n,.int c,.int k,.str kd,.int w,.ref t])/\H t=Ya (.tup a)/\kK H a b
theorem Tq.same{c w:Int}(h:Tq H u n c k kd w ps)(s:aX H H'):Tq H' u n c k kd w ps:=by
 obtain⟨t,a,b,d,e⟩:=h;exact⟨t,a,s _ _ b,s _ _ d,bT s e⟩
theorem sI(x:Yg):D5 x "-"=decide (YV x Yb (Ya 1)="-"):=by
 have a:=k9 x 1;have a:(YV x Yb (Ya 1)).cps.toList=x.cps.toList.take 1:=a;cases hx:x.cps.toList with
 |nil=>
  have z:x="":=gP (by rw[hx];rfl);subst z;decide +kernel
 |cons c r=>
  have z:x=⟨#[c]⟩++⟨r.toArray⟩:=by
   refine gP ?_;rw[hx,jo];rfl
  have b:YV x Yb (Ya 1)=⟨#[c]⟩:=by
   refine gP ?_;rw[a,hx];rfl
  rw[b,z,PySem.W.KAf.starts_left (show("-":Yg).length<=1 by decide +kernel)];have d:("-":Yg)=⟨#[45]⟩:=by decide +kernel
  rw[d];show(decide (0+ 1<=1)&&(#[c].extract 0 (0+ 1)==#[45]))=decide ((⟨#[c]⟩:Yg)=⟨#[45]⟩);rw[xo];simp
noncomputable def BC(x:Yg):Option Int:=if YV x Yb (Ya 1)="-"then(ng (YV x (Ya 1) Yb) 1 (10^60)).map λn=>0-n else ng x 0 (10^60)
theorem xX(x:Yg):BC x=mE x:=by
 unfold BC mE;rw[sI];by_cases h:YV x Yb (Ya 1)="-"
 ·rw[if_pos h,if_pos (decide_eq_true h),jX];unfold oA;cases gQ (YV x (Ya 1) Yb)with
  |none=>rfl
  |some n=>
   show(if n=0 then Yb else Ya n).map (λn=>0-n)=if n=0 then Yb else Ya (-n)
   by_cases z:n=0
   ·rw[if_pos z,if_pos z];rfl
   ·rw[if_neg z,if_neg z];show Ya (0-n)=Ya (-n);rw[Int.zero_sub]
 ·rw[if_neg h,if_neg (by rw[decide_eq_false h];exact Yr),qX]
noncomputable abbrev iK:Y5:=jF 35
noncomputable def oD:Option Int->Ct
 |none=>.none
 |some n=>.int n
theorem vI{K:Yc}(o:Option Int):Dp K H (oV o) (oD o):=by
 cases o with
 |none=>exact .none
 |some n=>exact .int n
theorem qI(o:Option Int):(oD o).canLay0=true:=by cases o<;>rfl
theorem vd(o:Option Int):(oD o).eqv .none=o.isNone:=by cases o<;>rfl
theorem xv{K:Yc}{l:Yf}{a b c:Option Int}(h:H l=Ya (.lst [oV a,oV b,oV c]))(q:Q (.bl (a.isNone||(b.isNone||c.isNone))) H):qj K false .non (.ref l) H Q:=by
 refine⟨l,_,_,_,rfl,.inl (bw.of h),.cons (vI a) (.cons (vI b) (.cons (vI c) .nil)),.none,?_,rfl,by show 0<=60;decide,?_⟩
 ·rw[YU,YU,YU,qI,qI,qI];rfl
 ·show Q (.bl ((oD a).eqv .none||((oD b).eqv .none||((oD c).eqv .none||false)))) H;rw[vd,vd,vd,Ek];exact q
theorem wL:∀{ps:List (Int×Int)},k7 ts=Ya ps->ps.length=ts.length:=by
 induction ts with
 |nil=>
  intro ps h;cases (show Ya []=Ya ps from h);rfl
 |cons y r ih=>
  intro ps h;have h:(cU y).bind (λp=>(k7 r).bind λq=>Ya (p::q))=Ya ps:=h;cases e:cU y with
  |none=>rw[e]at h;cases h
  |some p=>
   rw[e,Yl]at h;cases e2:k7 r with
   |none=>rw[e2]at h;cases h
   |some q=>
    rw[e2,Yl]at h;cases h;rw[YJ,YJ,ih e2]
theorem uP(h:eZ ts=Ya ps):ps.length=ts.length:=by
 unfold eZ at h;cases e:k7 ts with
 |none=>rw[e]at h;cases h
 |some q=>
  rw[e,Yl]at h;split at h
  ·cases h;exact wL e
  ·cases h
theorem yG{α:Type}{b:List α}(h:1<=b.length):∃a r,b=a::r:=by
 cases b with
 |nil=>exact absurd h (by show ¬ 1<=0;decide)
 |cons a r=>exact⟨a,r,rfl⟩
def kz(K:Yc):Sp:=λe H Q _=>∃(x:Yg),e=[.str x]/\fK x/\(rT x=Yb->∀a,aX H a->Q .non a)/\(∀n c k b w d,rT x=Ya (n,c,k,b,w,d)->∀a u,aX H a->xF b->Tq a u n c k b w d->Q (.ref u) a)
abbrev ik:List Yg:=["_law_text"]
theorem bO:aO ["_law_text","_law_words","_law_names","_law_parts","_law_word","_law_causes_here"] ik (aq iK):=jG
variable{hV:Yf}{gh:YA}(bu:∅ 2 eG dR rX (dZ K))(gY:∅ 2 hV gh uw (fV K))(ie:dA K mg "_law_causes" hV gh uw)
include eV bu a9 gY ie cq in
theorem pY(F:cc K "_law_due" "_law_due" iK f fd):∅ 3 f fd ik (kz K):=by
 refine F.oj bO ?_;rintro _ A _ _ H _ Q _ Z D _ _ ⟨x,rfl,h⟩;refine⟨_,(ah (aL (i:=1) bO.nd rfl (Or.inl rfl) (fx Y6 ni oh dN (pv 0) (aa aA af)))
   (ah (aL (i:=2) bO.nd rfl (Or.inl rfl) (fx Y6 ni oh dN (a4 (aJ (K:=K) rfl) (pv 1) ae (λ_ _=>rfl)) (aa aA af)))
   (ah (aY (PW.pt (fF (az j5 (aV (b9 (K:=K) rfl) (by rfl) cq jJ (aa (pv 1) af)) ae (aF _)) (fF (az lJ (aV (b9 (K:=K) rfl) (by rfl) cq jJ (aa (pv 2) af)) ae (aF _)) (jT (az (nQ (K:=K) rfl D) (a4 (aJ (K:=K) rfl) (pv 1) ae (λ_ _=>rfl)) (fm (aa aA (aa aA (aa aA af)))) (by rfl)))))) (ai (aH cm)) aG)
   (ah (aL (i:=3) bO.nd rfl (Or.inl rfl) (fm (aa (a5 bu a9 Z (aa (a4 (aJ (K:=K) rfl) (pv 2) ae (λ_ _=>rfl)) (aa ae (aa (ay fM ae ae) af)))) (aa (a5 bu a9 Z (aa (a4 (aJ (K:=K) rfl) (pv 2) ae (λ_ _=>rfl)) (aa ae (aa ae af)))) (aa (a5 bu a9 Z (aa (a4 (aJ (K:=K) rfl) (pv 2) ae (λ_ _=>rfl)) (aa ae (aa (ay fM ae ae) af)))) af)))))
   (ah (aL (i:=4) bO.nd rfl (Or.inl rfl) (a5 bu a9 Z (aa (a4 (aJ (K:=K) rfl) (pv 1) ae (λ_ _=>rfl)) (aa ae (aa (ay fM ae ae) af)))))
   (ah (aY (az dE (bS fk (a4 (aJ (K:=K) rfl) (pv 1) ae (λ_ _=>rfl)) cN (cg ae)) aA (aF _)) (ah (aL (i:=4) bO.nd rfl (Or.inl rfl) (a5 bu a9 Z (aa (bS fk (a4 (aJ (K:=K) rfl) (pv 1) ae (λ_ _=>rfl)) (cg ae) cN) (aa ae (aa (ay fM ae ae) af)))))
   (ai (aY (az w6 (pv 4) cm (aF _)) (ai (aL (i:=4) bO.nd rfl (Or.inl rfl) (ay uI ae (pv 4)))) aG))) aG)
   (ah (aL (i:=5) bO.nd rfl (Or.inl rfl) (a5 gY ie Z (aa (bS (lU (K:=K) rfl) (pv 1) (cg ae) cN) af)))
   (ah (aY (PW.pt (fF (az (ym (K:=K) rfl D) cm (pv 3) (by rfl)) (fF (az lE (pv 4) cm (aF _)) (fF (az lE (pv 5) cm (aF _)) (jT (PW.pt (iy (az dE (a4 (aJ (K:=K) rfl) (pv 1) ae (λ_ _=>rfl)) aA (aF _)) (gJ (az (vk (K:=K) rfl D) (pv 5) (cG af) (aF _)))))))))) (ai (aH cm)) aG)
   (ai (aH (cG (aa (a4 (aJ (K:=K) rfl) (pv 3) ae (λ_ _=>rfl)) (aa (a4 (aJ (K:=K) rfl) (pv 3) ae (λ_ _=>rfl)) (aa (a4 (aJ (K:=K) rfl) (pv 3) ae (λ_ _=>rfl)) (aa (a4 (aJ (K:=K) rfl) (pv 1) ae (λ_ _=>rfl)) (aa (pv 4) (aa (pv 5) af))))))))))))))))),?_⟩
 obtain⟨ac,no,q⟩:=h;have le:=ac.le;cbv;refine⟨_,_,rfl,rfl,by decide +kernel,aB (by omega),λl hl=>?_⟩;have J:∀p∈Ys x " ",fK p:=λp J=>ac.part (c:=32) (by rw[qZ];exact J);have lp:(Ys x " ").length<=1002:=YI (ED x " ") (by omega);have ab:=Fc x " ";have G:rT x=z4 (Ys x " "):=rfl;have s1:=aZ (o:=.lst ((Ys x " ").map V.str)) hl;have g1:upd H l (.lst ((Ys x " ").map V.str)) l=Ya (.lst ((Ys x " ").map V.str)):=aI;generalize Ys x " "=ps at G J lp ab s1 g1⊢;generalize upd H l (.lst (ps.map V.str))=H1 at g1 s1⊢;obtain⟨d,rs,rfl⟩:=yG ab;have an:=J d (by simp);have aS:=an.le;have g1:H1 l=Ya (.lst (.str d::rs.map V.str)):=g1;have sl:=bw.of (K:=K) g1;have a0:dC (V.str d::rs.map V.str) 0=Ya (.str d):=av (j:=0) rfl;cbv;refine⟨_,_,rfl,rfl,by decide +kernel,aB (by omega),λU ap=>?_⟩;have hq:∀p∈Ys d ".",fK p:=λp J=>an.part (c:=46) (by rw[xG];exact J);have I:gf d=zv (Ys d "."):=rfl;have s2:=aZ (o:=.lst ((Ys d ".").map V.str)) ap;have g2:upd H1 U (.lst ((Ys d ".").map V.str)) U=Ya (.lst ((Ys d ".").map V.str)):=aI;generalize Ys d "."=qs at I hq s2 g2⊢;generalize upd H1 U (.lst (qs.map V.str))=H2 at g2 s2⊢;have a2:=bw.of (K:=K) g2;have gl:=s2 _ _ g1;have a3:=bw.of (K:=K) gl;have M:=s1.trans s2;refine lK (λσ B=>∃g e s a b c,rs=g::e::s/\qs=[a,b,c]/\rD g=true/\σ=[Ya (.str x),Ya (.ref l),Ya (.ref U),Yb,Yb,Yb]/\aX H2 B) ?_ λN Zd=>?_
 rotate_left
 ·cbv;refine a6 (λh=>?_) λh=>?_
  ·have h:=of_decide_eq_true h;rw[YJ,Yn]at h;rw[if_pos rfl];cbv;exact no (G.trans (vq (by rw[YJ];omega))) _ M
  have l3:3<=(d::rs).length:=by
   rcases xq (d::rs).length 3 with z|z
   ·rw[YJ,Yn]at h;rw[YJ]at z;exact absurd (decide_eq_true (by omega)) h
   ·exact z
  obtain⟨a8,g,e,s,e3⟩:=lW l3;obtain⟨rfl,rfl⟩:=Ep e3;have ak:=J g (by simp);have as:gf d=Yb->rT x=none:=λz=>by
   rw[G];show(if rD g=true/\¬ (g="own"/\s≠[])then(gf d).bind _ else Yb)=Yb;rw[z];split<;>rfl
  cbv;refine a6 (λh=>?_) λh=>?_
  ·have h:¬ qs.length=3:=λz=>by
    rw[Yn,z]at h;exact absurd h (by decide)
   rw[if_pos rfl];cbv;exact no (as (I.trans (ua h))) _ M
  have q3:qs.length=3:=by
   rcases F1 qs.length 3 with z|z
   ·rw[Yn,decide_eq_false (by omega)]at h;exact absurd rfl h
   ·exact z
  obtain⟨a,b,c,r,e4⟩:=lW (Dg q3.symm);subst e4;have r0:r=[]:=by
   simp only[YJ]at q3;exact cw (by omega)
  subst r0;have a1:dC (V.str d::(g::e::s).map V.str) 1=Ya (.str g):=av (j:=1) rfl;cbv;intro l3 B3 ba s3 g3;refine pJ ak (.inl (bw.of g3)) ?_;cases hk:rD g with
  |false=>
   cbv;refine no ?_ _ (M.trans s3);rw[G];show(if rD g=true/\¬ (g="own"/\s≠[])then(gf d).bind _ else Yb)=Yb;rw[if_neg (by rw[hk];exact λz=>nomatch z.1)]
  |true=>
   cbv;exact Zd _ _ ⟨g,e,s,a,b,c,rfl,rfl,hk,rfl,s3⟩
 rintro σ B ⟨g,e,s,a,b,c,rfl,rfl,hk,rfl,sB⟩;have ha:=hq a (by simp);have hb:=hq b (by simp);have hc:=hq c (by simp);have hw:=J e (by simp);have au:∀y∈s,fK y:=λy hy=>J y (by simp[hy]);have aw:s.length<=1000:=by simp only[YJ]at lp;omega
 have g2:H2 U=Ya (.lst [.str a,.str b,.str c]):=g2;have ax:=sB _ _ g2;have aD:=bw.of (K:=K) ax;have gl:H2 l=Ya (.lst (.str d::.str g::.str e::s.map V.str)):=gl;have I:gf d=(gQ a).bind λn=>(oR b).bind λh=>(oA c).bind λk=>Ya (n,h,k):=I;have G:rT x=if rD g=true/\¬ (g="own"/\s≠[])then(gf d).bind λn=>(mE e).bind λw=>(eZ s).bind λps=>Ya (n.1,n.2.1,n.2.2,g,w,ps)else none:=G
 generalize hL:(V.str d::V.str g::V.str e::s.map V.str)=L at gl;have w1:dC L 1=Ya (.str g):=by rw[←hL];exact av (j:=1) rfl
 have w2:dC L 2=Ya (.str e):=by rw[←hL];exact av (j:=2) rfl
 have ad:=sB _ _ gl;have bb:=bw.of (K:=K) ad;have n0:dC [V.str a,V.str b,V.str c] 0=Ya (.str a):=av (j:=0) rfl;have n1:dC [V.str a,V.str b,V.str c] 1=Ya (.str b):=av (j:=1) rfl;have n2:dC [V.str a,V.str b,V.str c] 2=Ya (.str c):=av (j:=2) rfl;cbv;refine⟨a,_,_,rfl,ha,?_⟩;rw[show ng a 0 (10^Ee 60)=gQ a from qX];cbv;refine⟨b,_,_,rfl,hb,?_⟩;rw[o3];cbv;refine⟨c,_,_,rfl,hc,?_⟩;rw[show ng c 1 (10^Ee 60)=oA c from jX];cbv;intro l4 B4 bc s4 g4;have S:=s4 _ _ ad;have aE:=bw.of (K:=K) S;cbv;refine⟨e,_,_,rfl,hw,?_⟩;have lw:=hw.le;refine lK (λσ A=>σ=[Ya (.str x),Ya (.ref l),Ya (.ref U),Ya (.ref l4),Ya (oV (mE e)),Yb]/\A=B4) ?_ λN Zd=>?_
 rotate_left
 ·have E:mE e=if YV e Yb (Ya 1)="-"then(ng (YV e (Ya 1) Yb) 1 (10^60)).map λn=>0-n else ng e 0 (10^60):=(xX e).symm
  cbv;refine⟨_,rfl,aB (by omega),?_⟩;cbv;refine a6 (λh=>?_) λh=>?_
  ·have h:YV e Yb (Ya 1)="-":=of_decide_eq_true h;rw[if_pos h]at E;cbv;refine⟨_,rfl,aB (by omega),?_⟩;cbv;refine⟨_,_,_,rfl,hw.from 1,?_⟩;have E:mE e=(ng (YV e (Ya ((1:Nat):Int)) Yb) 1 (10^Ee 60)).map λn=>0-n:=E;generalize ng (YV e (Ya ((1:Nat):Int)) Yb) 1 (10^Ee 60)=o at E⊢;cbv;cases o with
   |none=>
    refine a6 (λh=>absurd h (by decide)) λ_=>?_;cbv;exact Zd _ _ ⟨by rw[E];rfl,rfl⟩
   |some n=>
    rw[show oV (Ya n)=V.int n from rfl,show decide (V.int n=V.non)=false from decide_eq_false (λz=>nomatch z)];refine a6 (λ_=>?_) λh=>absurd rfl h;cbv;exact Zd _ _ ⟨by rw[E];rfl,rfl⟩
  ·have h:¬ YV e Yb (Ya 1)="-":=λz=>h (decide_eq_true z);rw[if_neg h]at E;cbv;exact Zd _ _ ⟨by rw[E];rfl,rfl⟩
 rintro σ A ⟨rfl,rfl⟩;cbv;intro l5 A5 bd s5 g5;rw[←hL,jN]at g5;have O:aX H A5:=M.trans (sB.trans (s4.trans s5));have R:=s5 _ _ g4;have ag:=s5 _ _ S;cbv;refine⟨l5,s,rfl,g5,au,aw,λhn A6 v=>?_,λpl aj A6 t xs v g6 p6=>?_⟩
 ·have W:rT x=none:=by
   rw[G,hn];split
   ·cases gf d with
    |none=>rfl
    |some n=>cases mE e<;>rfl
   ·rfl
  refine bN ?_;cbv;refine xv (v _ _ R) ?_;cbv;refine a6 (λ_=>?_) λ_=>?_
  ·rw[if_pos rfl];cbv;exact no W _ (O.trans v)
  cbv;refine a6 (λ_=>?_) λ_=>?_
  ·rw[if_pos rfl];cbv;exact no W _ (O.trans v)
  cbv;exact no W _ (O.trans v)
 ·refine bN ?_;cbv;refine xv (v _ _ R) ?_;cbv;have np:(gf d=Yb∨mE e=Yb)->rT x=none:=λz=>by
   rw[G];split
   ·rcases z with z|z
    ·rw[z];rfl
    ·rw[z];cases gf d<;>rfl
   ·rfl
  cases ea:gQ a with
  |none=>
   refine a6 (λ_=>?_) λh=>absurd rfl h;rw[if_pos rfl];cbv;exact no (np (.inl (by rw[I,ea];rfl))) _ (O.trans v)
  |some n=>
   cases eb:oR b with
   |none=>
    refine a6 (λ_=>?_) λh=>absurd rfl h;rw[if_pos rfl];cbv;exact no (np (.inl (by rw[I,ea,Yl,eb];rfl))) _ (O.trans v)
   |some m=>
    cases ec:oA c with
    |none=>
     refine a6 (λ_=>?_) λh=>absurd rfl h;rw[if_pos rfl];cbv;exact no (np (.inl (by rw[I,ea,Yl,eb,Yl,ec];rfl))) _ (O.trans v)
    |some k=>
     refine a6 (λh=>absurd h (by simp)) λ_=>?_;have I:gf d=Ya (n,m,k):=by rw[I,ea,Yl,eb,Yl,ec];rfl
     cbv;cases E:mE e with
     |none=>
      refine a6 (λ_=>?_) λh=>absurd rfl h;rw[if_pos rfl];cbv;exact no (np (.inr E)) _ (O.trans v)
     |some wv=>
      rw[show oV (Ya wv)=V.int wv from rfl,show decide (V.int wv=V.non)=false from decide_eq_false (λz=>nomatch z)];refine a6 (λh=>absurd h (by decide)) λ_=>?_;rw[ea,eb,ec]at R;have al:A6 l4=Ya (.lst [.int n,.int m,.int k]):=v _ _ R;have aK:=bw.of (K:=K) al;have am:=v _ _ ag;have be:=bw.of (K:=K) am;have i0:dC [V.int n,V.int m,V.int k] 0=Ya (.int n):=av (j:=0) rfl;have i1:dC [V.int n,V.int m,V.int k] 1=Ya (.int m):=av (j:=1) rfl;have i2:dC [V.int n,V.int m,V.int k] 2=Ya (.int k):=av (j:=2) rfl;have X:=uP aj;cbv;rw[show decide (V.ref t=V.non)=false from decide_eq_false (λz=>nomatch z)];refine a6 (λh=>absurd h (by decide)) λ_=>?_;have ao:¬ (g="own"/\s≠[])->∀A7,aX A6 A7->vf (wR (eT (vQ (qd K) (jH 3) (tC (V.int 0))) (eT (vQ (qd K) (jH 3) (tC (V.int 1))) (eT (vQ (qd K) (jH 3) (tC (V.int 2))) (eT (vQ (qd K) (jH 1) (tC (V.int 1))) (eT (jH 4) (eT (jH 5) pL))))))) {nx:=λx H'=>Q V.non H',rt:=Q} [Ya (.str x),Ya (.ref l),Ya (.ref U),Ya (.ref l4),Ya (.int wv),Ya (.ref t)] A7:=λho A7 T=>by
       have aM:=bw.of (K:=K) (T _ _ al);have bf:=bw.of (K:=K) (T _ _ am);cbv;intro u A8 bg s8 g8;have Y:=T.trans s8;refine q n m k g wv pl (by rw[G,if_pos ⟨hk,ho⟩,I,Yl,E,Yl,aj];rfl) _ u (O.trans (v.trans Y)) (ph hk) ⟨t,xs,g8,Y _ _ g6,bT Y p6⟩
      cbv;by_cases C:g="own"
      ·rw[decide_eq_true C];refine a6 (λ_=>?_) λh=>absurd rfl h;cbv;intro t0 A7 bh T g7;refine⟨.tuple (pl.map rY),.tuple [],.inl (.tup (gU.of (T _ _ g6)) (bT T p6).dps),.inl (.tup (gU.of g7) .nil),by rw[C7];exact kW pl,rfl,by have:(F2 []).depth=1:=rfl;omega,?_⟩;have e0:(F2 (pl.map rY)).eqv (.tuple [])=decide (s=[]):=by
        cases pl with
        |nil=>
         rw[decide_eq_true (cw X.symm)];rfl
        |cons p0 pr=>
         rw[decide_eq_false (λz=>by rw[z]at X;cases X)];rfl
       rw[e0];by_cases c0:s=[]
       ·rw[decide_eq_true c0];refine⟨_,rfl,?_⟩;refine a6 (λh=>absurd h (by decide)) λ_=>?_;exact ao (λz=>z.2 c0) _ T
       ·rw[decide_eq_false c0];cbv;refine no ?_ _ (O.trans (v.trans T));rw[G,if_neg (λz=>z.2 ⟨C,c0⟩)]
      ·rw[decide_eq_false C];refine a6 (λh=>absurd h (by decide)) λ_=>?_;rw[if_neg Yr];exact ao (λz=>C z.1) _ (.refl _)
noncomputable abbrev eA:Y5:=jF 36
noncomputable abbrev fc:Y5:=jF 37
noncomputable abbrev mU:Y5:=jF 38
def BE(K:Yc)(H:Hp)(v:V)(Q:VK):Prop:=(AX K H v/\∀a r,aX H a->a r=Ya (.tup [.str "refused"])->Q (.ref r) a)∨∃x:Yg,v=.str x/\fK x/\(rT x=Yb->∀a r,aX H a->a r=Ya (.tup [.str "refused"])->Q (.ref r) a)/\
 (∀n c k b w d,rT x=Ya (n,c,k,b,w,d)->∀a r u,aX H a->xF b->a r=Ya (.tup [.str "call",.ref u])->Tq a u n c k b w d->Q (.ref r) a)
def dG(K:Yc)(mg:Yg->Option Yd):Sp:=λa H Q _=>∃(v:V),a=[v]/\BE K H v Q
abbrev m5:List Yg:=["_law_thing"]
theorem cL:aO ["_law_thing","_law_call","e"] m5 (aq eA):=jG
variable{ez:Yf}{kB:Yf}{aS:Yf}{eS:Yf}{eP:Yf}{jv:YA}{jt:YA}(eh:∅ 5 ez jv eW (iT K mg))(ei:Binds K jv eW [])(kq:aP P w K mg base (bC P w) 5 kB jt bY (jz K mg))(kn:dA K mg "read_call" kB jt bY)(jm:mg "ValueError"=Yb)(bW:iE K bh "told" ez)(cD:iE K bH "told" ez)(cu:iE K bL "told" ez)(dv:mg "GroupError"=Ya (.ref aS))(iW:mg "NoKind"=Ya (.ref eS))(jc:mg "NoWord"=Ya (.ref eP))(bb:qx K aS aS)(bf:qx K ao aS)(cj:wA K ao)(bK:mr K (.ref ao) (.ref ao)=Ya true)(bo:mr K (.ref ao) (.type "ValueError")=Ya true)(bI:mr K (.ref ao) (.ref eP)=Ya false)(bF:mr K (.ref ao) (.ref eS)=Ya false)
include eV eh ei kq kn jm br bg bD bE bc bJ bM bW cD cu dv au iW jc bb bf cj bK bo bI bF in
theorem l8(F:cc K "_law_answer" "_law_answer" eA f fd):∅ 6 f fd m5 (dG K mg):=by
 refine F.oj cL ?_;rintro _ _ _ _ _ _ _ _ Q _ _ _ ⟨v,rfl,h⟩;refine⟨_,(ah (aL (i:=1) cL.nd rfl (Or.inl rfl) cm)
   (ah (vB (K:=K) (i:=2) rfl rfl rfl cL.nd rfl rfl (by rfl) dv bb (λW X=>(ai (aL (i:=1) cL.nd rfl (Or.inl rfl) (zd kq kn Q (aa (pv 0) af))))) (λa=>(ah (aY (PW.pt (iy (cM K rfl (aV (pb (K:=K) rfl) (by rfl) br ir (aa (pv 2) (aa (cW (v:=.ref ao) rfl au rfl) af)))) (iy (cM K rfl (aV (pb (K:=K) rfl) (by rfl) br ir (aa (pv 2) (aa (kR (T:="ValueError") jm PyProof.Rows.Boot.«ValueError») af)))) (gJ (f7 (cM K rfl (aV (sY (K:=K) rfl) (by rfl) br ir (aa (pv 2) (aa (cG (aa (cW (v:=.ref eP) rfl jc rfl) (aa (cW (v:=.ref eS) rfl iW rfl) af))) af))))))))) (ai (aH (cG (aa aA af)))) aG)
   (ai (aH (cG (aa aA af)))))))
   (ai (aH (cG (aa aA (aa (nq (qW.cons bE.cl cu eh ei (qW.cons bg.cl bW eh ei (qW.cons bD.cl cD eh ei qW.nil))) (pv 1) Q) af))))))),?_⟩
 refine bN ?_;cbv;refine bN ?_;refine wk ?_;cbv;refine v8 ?_;cbv;refine⟨v,rfl,?_⟩;rcases h with⟨ns,no⟩|⟨x,rfl,S,no,q⟩
 ·refine .inl ⟨ns,λE C a s' hm s=>?_⟩;rw[au]at hm;cases hm;refine⟨a,_,rfl,rfl,bf,?_⟩;have g:=aZ (o:=xO a ao) s;have j:(upd E a (xO a ao)) a=Ya (xO a ao):=aI;generalize upd E a (xO a ao)=R at g j⊢;refine bN ?_;cbv;refine⟨a,_,_,_,true,rfl,(λu r=>r),j,cj,bK,?_⟩;cbv;refine⟨a,_,_,_,true,rfl,(λu r=>r),j,cj,bo,?_⟩;cbv;intro J H L d k;refine⟨a,_,J,_,_,rfl,d _ _ j,k,cj,bI,bF,?_⟩;cbv;intro r I l b m;exact no _ r (s'.trans (g.trans (d.trans b))) m
 ·refine .inr ⟨x,rfl,S,λn c B Y D M y R p t N g z co O A=>?_,λhn E C a s' hm s=>?_⟩
  rotate_left
  ·have no:=no hn;rw[au]at hm;cases hm;refine⟨a,_,rfl,rfl,bf,?_⟩;have g:=aZ (o:=xO a ao) s;have j:(upd E a (xO a ao)) a=Ya (xO a ao):=aI;generalize upd E a (xO a ao)=R at g j⊢;refine bN ?_;cbv;refine⟨a,_,_,_,true,rfl,(λu r=>r),j,cj,bK,?_⟩;cbv;refine⟨a,_,_,_,true,rfl,(λu r=>r),j,cj,bo,?_⟩;cbv;intro J H L d k;refine⟨a,_,J,_,_,rfl,d _ _ j,k,cj,bI,bF,?_⟩;cbv;intro r I l b m;exact no _ r (s'.trans (g.trans (d.trans b))) m
  obtain⟨C,Z,U,V,hp⟩:=co.ob;obtain⟨cl,n1,n2,n3,n4,n5⟩:=id V;rcases U with⟨rfl,e⟩|⟨rfl,e⟩|⟨rfl,e⟩
  ·rw[bM]at e;cases e;cbv;refine⟨p,rfl,"own",n,c,B,D,t,co,λH u d G k=>?_⟩;cbv;intro r I l b m;exact q n c B "own" D M y _ r u (g.trans (d.trans b)) z m ⟨t,N,b _ _ k,(d.trans b) _ _ O,bT (d.trans b) A⟩
  ·rw[bc]at e;cases e;cbv;refine⟨p,rfl,"heard",n,c,B,D,t,co,λH u d G k=>?_⟩;cbv;intro r I l b m;exact q n c B "heard" D M y _ r u (g.trans (d.trans b)) z m ⟨t,N,b _ _ k,(d.trans b) _ _ O,bT (d.trans b) A⟩
  ·rw[bJ]at e;cases e;cbv;refine⟨p,rfl,"one",n,c,B,D,t,co,λH u d G k=>?_⟩;cbv;intro r I l b m;exact q n c B "one" D M y _ r u (g.trans (d.trans b)) z m ⟨t,N,b _ _ k,(d.trans b) _ _ O,bT (d.trans b) A⟩
noncomputable def zk(n c k:Int)(kd:Yg)(w:Int)(a:List (Int×Int)):Ct:=.tuple [.int n,.int c,.int k,.str kd,.int w,.tuple (a.map rY)]
theorem Tq.dp{K:Yc}{c w:Int}(h:Tq H u n c k kd w ps):Dp K H (.ref u) (zk n c k kd w ps):=by
 obtain⟨t,e,a,b,d⟩:=h;exact .tup (gU.of a) (.cons (.int _) (.cons (.int _) (.cons (.int _) (.cons (.str _) (.cons (.int _) (.cons (.tup (gU.of b) d.dps) .nil))))))
theorem y7{c w:Int}(a:List (Int×Int))(h:(FF kd).canLay0=true):(zk n c k kd w a).canLay0=true:=by
 unfold zk;rw[C7];have b:(F2 (a.map rY)).canLay0=true:=by
  rw[C7];exact kW a
 rw[YU,YU,YU,YU,YU,YU,h,b];rfl
theorem yx(h:xF kd):(FF kd).canLay0=true:=by
 rcases h with rfl|rfl|rfl<;>kernel_rfl
theorem yw{c w:Int}(a:List (Int×Int)):(zk n c k kd w a).depth<=50:=by
 have:=rj a;show max 0 (max 0 (max 0 (max 0 (max 0 (max (xt (a.map rY)+ 1) 0)))))+ 1<=50;omega
theorem xh{K:Yc}(h1:H u=Ya (.tup [.str "refused"]))(h2:H u'=Ya (.tup [.str "refused"]))(q:Q (.bl true) H):ui K (.ref u) (.ref u') H Q:=
 m4 (d:=.tuple [.str "refused"]) (.inl (.tup (gU.of h1) (.cons (.str _) .nil))) (.inl (.tup (gU.of h2) (.cons (.str _) .nil))) (by kernel_rfl) (by show 1<=60;decide) q
theorem zF{K:Yc}{r a:Yf}{c w:Int}(hk:xF kd)(h1:H r=Ya (.tup [.str "call",.ref u]))(h2:H a=Ya (.tup [.str "call",.ref u']))(b:Tq H u n c k kd w ps)(f:Tq H u' n c k kd w ps)(q:Q (.bl true) H):ui K (.ref r) (.ref a) H Q:=by
 refine m4 (d:=.tuple [.str "call",zk n c k kd w ps]) (.inl (.tup (gU.of h1) (.cons (.str _) (.cons b.dp .nil)))) (.inl (.tup (gU.of h2) (.cons (.str _) (.cons f.dp .nil)))) ?_ ?_ q
 ·rw[C7,YU,YU,y7 ps (yx hk)];have e:(FF "call").canLay0=true:=by kernel_rfl
  rw[e];rfl
 ·have:=yw (n:=n) (c:=c) (k:=k) (w:=w) (kd:=kd) ps;show max 0 (max (zk n c k kd w ps).depth 0)+ 1<=60;omega
def gX(K:Yc)(mg:Yg->Option Yd):Sp:=λb H Q _=>∃(x:Yg),b=[.str x]/\fK x/\∀a,aX H a->Q (.bl true) a
theorem hJ:aO ["_law_text","_law_due_here"] ik (aq fc):=jG
variable{lV:Yf}{eD:Yf}{kG:YA}{dS:YA}(lh:∅ 6 lV kG ik (kz K))(lH:dA K mg "_law_due" lV kG ik)(eH:∅ 6 eD dS m5 (dG K mg))(cp:dA K mg "_law_answer" eD dS m5)
include eV lh lH eH cp in
theorem mB(F:cc K "_law_right" "_law_right" fc f fd):∅ 7 f fd ik (gX K mg):=by
 refine F.oj hJ ?_;rintro _ _ _ _ _ _ _ _ j b _ _ ⟨x,rfl,h⟩;refine⟨_,(ah (aL (i:=1) hJ.nd rfl (Or.inl rfl) (a5 lh lH j (aa (pv 0) af)))
   (ah (aY (az lE (pv 1) cm (aF _)) (ai (aH (fi (oP (K:=K) rfl b) (a5 eH cp j (aa (pv 0) af)) (cG (aa aA af)) (aF _)))) aG)
   (ai (aH (fi (oP (K:=K) rfl b) (a5 eH cp j (aa (pv 0) af)) (cG (aa aA (aa (pv 1) af))) (aF _)))))),?_⟩
 obtain⟨l,q⟩:=h;refine bN ?_;cbv;refine⟨x,rfl,l,λhn y m=>?_,λn c k A B C a y u m o D=>?_⟩
 ·cbv;refine a6 (λ_=>?_) λh=>absurd (decide_eq_true rfl) h;cbv;refine⟨.str x,rfl,?_⟩;refine .inr ⟨x,rfl,l,λ_ E r g p=>?_,λn c k A B C a=>absurd a (by rw[hn];exact λz=>nomatch z)⟩;cbv;intro L G d e s;refine xh (e _ _ p) s ?_;exact q _ (m.trans (g.trans e))
 ·cbv;rw[show decide (V.ref u=V.non)=false from decide_eq_false (λz=>nomatch z)];refine a6 (λh=>absurd h (by decide)) λ_=>?_;cbv;refine⟨.str x,rfl,?_⟩;refine .inr ⟨x,rfl,l,λhn=>absurd a (by rw[hn];exact λz=>nomatch z),λn2 M N H O I d E r Q g v p t=>?_⟩;rw[a]at d;cases d;cbv;intro R G J e s;refine zF o (e _ _ p) s (t.same e) (D.same (g.trans e)) ?_;exact q _ (m.trans (g.trans e))
theorem BK{K:Yc}{l t d:Yf}{e:List V}{m:List (l9×V)}(h1:H l=Ya (.lst xs))(h2:H t=Ya (.tup e))(h3:H d=Ya (.dK m))(c:Int):∃v,dC [V.non,V.int 7,V.bl true,V.ref l,V.ref t,V.int 0,V.ref d] (c%7)=Ya v/\AX K H v:=by
 have r:=md (a:=c) (b:=7) (by decide);generalize c%7=t at*;rcases(show t=0∨t=1∨t=2∨t=3∨t=4∨t=5∨t=6 by omega)with w|w|w|w|w|w|w<;>subst w
 ·exact⟨_,av (j:=0) rfl,_,.non,by kernel_rfl⟩
 ·exact⟨_,av (j:=1) rfl,_,.int _,by kernel_rfl⟩
 ·exact⟨_,av (j:=2) rfl,_,.bl _,by kernel_rfl⟩
 ·exact⟨_,av (j:=3) rfl,_,.lst h1,by kernel_rfl⟩
 ·exact⟨_,av (j:=4) rfl,_,.tup h2,by kernel_rfl⟩
 ·exact⟨_,av (j:=5) rfl,_,.int _,by kernel_rfl⟩
 ·exact⟨_,av (j:=6) rfl,_,.dK h3,by kernel_rfl⟩
def nU(K:Yc):Sp:=λb H Q _=>∃(a:Yf) (ns:List Int),b=[.ref a]/\bw K H a (ns.map V.int)/\ns.length<=63/\∀c,Q (.bl true) c
theorem iC:aO ["_law_script","_law_first_here","_law_text","_law_cell","_law_thing"] pF (aq mU):=jG
variable{jk:Yf}{fL:Yf}{iR:Yf}{hU:YA}{fG:YA}{ip:YA}(d5:∅ 7 dM da sq (cZ K))(jj:∅ 7 jk hU pF (hG K))(ja:dA K mg "_law_first" jk hU pF)(gk:∅ 7 fL fG tV (fB K))(fQ:dA K mg "_law_spoiled" fL fG tV)(eX:∅ 7 eD dS m5 (dG K mg))(du:∅ 7 iR ip ik (gX K mg))(dw:dA K mg "_law_right" iR ip ik)
include eV d5 aD jj ja gk fQ eX cp du dw in
theorem x6(F:cc K "law" "law" mU f fd):∅ 8 f fd pF (nU K):=by
 refine F.oj iC ?_;rintro _ A _ _ _ _ _ _ b d _ _ ⟨sa,e,rfl,h⟩;refine⟨_,(ah (aL (i:=1) iC.nd rfl (Or.inl rfl) (a5 jj ja b (aa (pv 0) af)))
   (ah (aL (i:=2) iC.nd rfl (Or.inl rfl) (pv 1))
   (ah (aY (f7 (cM K rfl (a5 du dw b (aa (pv 1) af)))) (ai (aH u9)) aG)
   (ah (nN DW rfl (jb (K:=K) rfl (bS (lU (K:=K) rfl) (pv 0) (cg ae) (cg ae))) (fg (i:=3) iC.nd rfl (Or.inl rfl))
   (ah (aY (az dE (ay bp (ay bP (pv 3) ae) ae) ae (aF _)) (ai (aL (i:=2) iC.nd rfl (Or.inl rfl) (pv 1))) aG)
   (ah (aL (i:=2) iC.nd rfl (Or.inl rfl) (a5 gk fQ b (aa (pv 2) (aa (ay bP (pv 3) ae) af))))
   (ai (aY (f7 (cM K rfl (a5 du dw b (aa (pv 2) af)))) (ai (aH u9)) aG)))))
   (ah (aL (i:=4) iC.nd rfl (Or.inl rfl) (a4 (aJ (K:=K) rfl) (fm (aa cm (aa ae (aa u9 (aa (fm (aa (pv 1) af)) (aa (cG (aa (pv 1) af)) (aa ae (aa tT af)))))))) (ay bp (a5 d5 aD b (aa (pv 0) (aa ae af))) ae) (λ_ _=>rfl)))
   (ai (aH (oM (fi (oP (K:=K) rfl d) (a5 eX cp b (aa (pv 4) af)) (cG (aa aA af)) (aF _)) (ou (a5 du dw b (aa (pv 1) af))))))))))),?_⟩
 obtain⟨G,H,R⟩:=h;cbv;refine⟨sa,e,rfl,G,λx H1 k S=>?_⟩;have I:=k.asc (by decide);have l:=S.seq G;cbv;refine⟨x,rfl,I,λH2 T=>?_⟩;have m:=T.seq l;cbv;intro U W X Y n;have o:=bw.of (K:=K) n;have J:=km (e.map V.int) (Ya 7) (Ya 57);rw[Yn]at J;have hm:∀v∈mG (e.map V.int) (Ya 7) (Ya 57),∃c:Int,v=.int c:=λv g=>by
  unfold mG at g;obtain⟨c,_,rfl⟩:=CM.mp (DV (FG g));exact⟨c,rfl⟩
 generalize mG (e.map V.int) (Ya 7) (Ya 57)=ys at n o J hm;have p:=Y.seq m;cbv;let q:Nat->St->Hp->Prop:=λi σ B=>∃y v,σ=[Ya (.ref sa),Ya (.str x),Ya (.str y),v,Yb]/\aX W B/\Tx (500+ 2*i) y;refine pE (K:=K) (a:=U) (xs:=ys) q ⟨x,Yb,rfl,.refl _,k⟩ ?_ ?_ ?_
 ·rintro i σ B _ ⟨_,_,_,z,_⟩;exact bw.of (z _ _ n)
 ·rintro i v σ B g ⟨y,v1,rfl,s,ty⟩;have hi:=(YY.mp g).1;obtain⟨c,rfl⟩:=hm v (ar g);refine lK (λσ A=>∃z,σ=[Ya (.ref sa),Ya (.str x),Ya (.str z),Ya (.int c),Yb]/\A=B/\Tx (500+ 2*i) z) ?_ λN L=>?_
  rotate_left
  ·cbv;refine a6 (λ_=>?_) λ_=>?_
   ·cbv;exact L _ _ ⟨x,rfl,rfl,k.mono (by omega)⟩
   ·cbv;exact L _ _ ⟨y,rfl,rfl,ty⟩
  rintro σ A ⟨z,rfl,rfl,Z⟩;cbv;refine⟨z,_,rfl,_,Z,by omega,λM A2 O t=>?_⟩;cbv;refine⟨M,rfl,O.asc (by omega),λA3 u=>?_⟩;cbv;exact⟨M,_,rfl,s.trans (t.trans u),O.mono (by omega)⟩
 rintro σ B ⟨y,v,rfl,s,ty⟩;have C:=s.seq p;cbv;intro l4 B4 ab s4 g4;cbv;intro t5 B5 ac Q g5;cbv;intro d6 B6 ad D g6;cbv;intro l7 B7 ag j g7;have aj:=bw.of (K:=K) g7;have sA:=s4.trans (Q.trans (D.trans j));have E:=sA.seq C;cbv;refine⟨sa,_,rfl,e,E,by decide,λc=>?_⟩;obtain⟨v,e7,nv⟩:=BK (K:=K) ((Q.trans (D.trans j)) _ _ g4) ((D.trans j) _ _ g5) (j _ _ g6) c;cbv;refine⟨v,rfl,?_⟩;refine .inl ⟨nv,λB8 r s8 g8=>?_⟩;cbv;intro r9 B9 ak s9 g9;refine xh (s9 _ _ g8) g9 ?_;cbv;refine⟨x,rfl,I,λal am=>?_⟩;exact R _
end
end K14
namespace K14
open PySem L2
theorem ze{l:W.OpenLaw}{w:YG}{K:W.Frag}{h:YF}{mg:Yg->Option Yd}{fa C b6 ca ce cf ch ci cl D cn L M N O P Q R S T U V Y Z ab ac ad ag aj iB bh bH bL E k eS eP nZ lY aK:Yf}{en eo ep eq er es et eu ev ew co cp cq cr cs cv cB cH cR c0 c1 c2 c3 c4 c5 c6 c7 c8:YA}(X:K.In h)(G:h.Ns YC mg)(ex:mg "law"=Ya (.ref fa))
  {mi mm:Yg} {mN eM mH:List Yd} {mM mf:Bool} {mj:List Yg} {mz:Option Bool} {mL:Option Yf} {mK mn mO my mv:Option Yd} {mI:String} {se tF:Yg} {sJ gG sT:List Yd} {tf sW:Bool} {rL:List Yg} {rM:Option Bool} {rK:Option Yf} {tK tJ sG tL sM:Option Yd} {mY:String} {j:FH} {nK:Nat} {ez eB eC:FH} {g:FH} {c:FH}
  (eD:nI K "is_whole" ca)
  (eG:nI K "is_word" ce)
  (eH:nI K "make_call" cf)
  (eI:nI K "read_number" cn)
  (c9:nI K "read_hand" L)
  (da:nI K "read_count" M)
  (db:nI K "read_word" N)
  (dd:nI K "read_name" O)
  (di:nI K "read_cause" P)
  (dj:nI K "rise" Q)
  (dl:nI K "read_causes" R)
  (dm:nI K "read_call" S)
  (dn:nI K "_law_cell_at" T)
  (dr:nI K "_law_some" U)
  (ds:nI K "_law_first" V)
  (du:nI K "_law_spoiled" Y)
  (dw:nI K "_law_number" Z)
  (dx:nI K "_law_causes" ab)
  (dB:nI K "_law_due" ac)
  (dH:nI K "_law_answer" ad)
  (dK:nI K "_law_right" ag)
  (dL:nI K "law" aj)
  (yM:nI K "Call" iB)
  (o6:nI K "HeardCall" bh)
  (sv:nI K "OneCall" bH)
  (rN:nI K "OwnCall" bL)
  (nJ:W.nsIn K YC "GroupError"=Ya (Ya (.ref E)))
  (uL:W.nsIn K YC "NoCall"=Ya (Ya (.ref k)))
  (um:W.nsIn K YC "NoKind"=Ya (Ya (.ref eS)))
  (vJ:W.nsIn K YC "NoWord"=Ya (Ya (.ref eP)))
  (qK:W.nsIn K YC "DIGITS"=Ya (Ya (.str "0123456789" j)))
  (sL:W.nsIn K YC "KINDS"=Ya (Ya (.ref aK)))
  (mx:W.nsIn K YC "LAST_HAND"=Ya (Ya (.int 62 g)))
  (jP:W.nsIn K YC "MOST_FIGURES"=Ya (Ya (.int 60 c)))
  (oF:W.nsIn K YC "ValueError"=Ya Yb)
  (z6:W.nsIn K YC "abs"=Ya Yb)
  (zB:W.nsIn K YC "all"=Ya Yb)
  (yu:W.nsIn K YC "bool"=Ya Yb)
  (zr:W.nsIn K YC "int"=Ya Yb)
  (ot:W.nsIn K YC "isinstance"=Ya Yb)
  (zp:W.nsIn K YC "len"=Ya Yb)
  (vL:W.nsIn K YC "range"=Ya Yb)
  (AE:W.nsIn K YC "set"=Ya Yb)
  (vG:W.nsIn K YC "sorted"=Ya Yb)
  (zQ:W.nsIn K YC "str"=Ya Yb)
  (wg:W.nsIn K YC "tuple"=Ya Yb)
  (bX:iE K bh "kind" ci)
  (bW:iE K bh "told" D)
  (cz:iE K bH "kind" cl)
  (cD:iE K bH "told" D)
  (cA:iE K bL "kind" ch)
  (cu:iE K bL "told" D)
  (ek:Mk K bh C)
  (gH:Mk K bH C)
  (gM:Mk K bL b6)
  (b8:vj K iB "__init__" C)
  (dM:cc K "__init__" "Call.__init__" df C en)
  (dP:cc K "__init__" "OwnCall.__init__" cE b6 eo)
  (dR:cc K "is_whole" "is_whole" iA ca ep)
  (dS:cc K "is_word" "is_word" jV ce eq)
  (dT:cc K "make_call" "make_call" fS cf er)
  (dV:cc K "kind" "OwnCall.kind" dD ch es)
  (dY:cc K "kind" "HeardCall.kind" cV ci et)
  (d0:cc K "kind" "OneCall.kind" dJ cl eu)
  (d1:cc K "told" "Call.told" gq D ev)
  (d2:cc K "read_number" "read_number" eF cn ew)
  (ak:cc K "read_hand" "read_hand" gp L co)
  (al:cc K "read_count" "read_count" fe M cp)
  (am:cc K "read_word" "read_word" fT N cq)
  (ap:cc K "read_name" "read_name" fY O cr)
  (as:cc K "read_cause" "read_cause" fb P cs)
  (aw:cc K "rise" "rise" qE Q cv)
  (ax:cc K "read_causes" "read_causes" eK R cB)
  (aD:cc K "read_call" "read_call" fO S cH)
  (aM:cc K "_law_cell_at" "_law_cell_at" dW T cR)
  (a0:cc K "_law_some" "_law_some" fW U c0)
  (a1:cc K "_law_first" "_law_first" fj V c1)
  (a2:cc K "_law_spoiled" "_law_spoiled" dX Y c2)
  (a3:cc K "_law_number" "_law_number" eL Z c3)
  (a8:cc K "_law_causes" "_law_causes" eJ ab c4)
  (a9:cc K "_law_due" "_law_due" iK ac c5)
  (ba:cc K "_law_answer" "_law_answer" eA ad c6)
  (bd:cc K "_law_right" "_law_right" fc ag c7)
  (be:cc K "law" "law" mU aj c8)
  (mF:K.lookup E=Ya (Dy mi mm E nZ mN eM mM mj mH mf mz mL mK mn mO my mv mI))
  (rZ:K.lookup k=Ya (Dy se tF k lY sJ gG tf rL sT sW rM rK tK tJ sG tL sM mY))
  (qF:fq K iB)
  (bg:fq K bh)
  (bD:fq K bH)
  (bE:fq K bL)
  (sj:W.tailIn K [.type "ValueError",.type "Exception",.type "BaseException",.type "object"] gG=true)
  (m:W.nsOkIn K lY=true)
  (n:W.nsIn K lY "__init__"=Ya Yb)
  (tH:mY="ValueError.__new__")
  (a:eM.contains (pw "BaseException")=true)
  (b:(YZ E::eM).contains (YZ E)=true)
  (d:gG.contains (pw "BaseException")=true)
  (f:(YZ k::gG).contains (YZ E)=true)
  (zm:W.specialIn K (.builtin "object.__class__") "__get__"=Ya (Ya (.builtin "getset_descriptor.__get__")))
  (zq:W.takesIn K (.builtin "object.__class__")=Ya true)
  (o:W.findIn K (.ref k) "__getattribute__"=Ya (Ya (.builtin "BaseException.__getattribute__")))
  (p:W.findIn K (.ref k) "__getattr__"=Ya Yb)
  (tG:W.findIn K (.ref k) "__class__"=Ya (Ya (.builtin "object.__class__")))
  (q:W.mroIn K k (.type "object")=Ya true)
  (r:W.mroIn K k (.type "BaseException")=Ya true)
  (t:W.hasDictIn K k=true)
  (bK:W.kitOne K (.ref k) (.ref k)=Ya true)
  (bF:W.kitOne K (.ref k) (.ref eS)=Ya false)
  (bI:W.kitOne K (.ref k) (.ref eP)=Ya false)
  (bo:W.kitOne K (.ref k) (.type "ValueError")=Ya true)
  (vH:K.lookup aK=Ya ⟨.type "tuple",Yb,.seq #[.str "own" ez,.str "heard" eB,.str "one" eC] nK,#[]⟩)
 :∃fd:YA,(∀(s:Yh) (v:Yd),Fg s fd ⟨[v],[]⟩ [("_law_script",v)])/\∀base:YF,K.In base->base.Ns YC mg->aP l.prog w K mg base cT 8 fa fd pF (nU K):=by
 have e:=ex.symm.trans (W.mg_of X G dL);cases e;have d4:Binds K _ lP []:=dM.bq;have eN:Binds K _ lP []:=dP.bq;have d5:dA K mg _ _ _ ["value"]:=dR.cal X G eD;have d6:dA K mg _ _ _ ["word"]:=dS.cal X G eG;have d7:dA K mg _ _ _ va:=dT.cal X G eH;have eO:Binds K _ eW []:=dV.bq;have eQ:Binds K _ eW []:=dY.bq;have eU:Binds K _ eW []:=d0.bq;have eX:Binds K _ eW []:=d1.bq;have u:dA K mg _ _ _ bY:=d2.cal X G eI;have x:dA K mg _ _ _ bY:=ak.cal X G c9;have y:dA K mg _ _ _ bY:=al.cal X G da;have bt:dA K mg _ _ _ bY:=am.cal X G db;have bu:dA K mg _ _ _ bY:=ap.cal X G dd;have bv:dA K mg _ _ _ bY:=as.cal X G di;have bB:dA K mg _ _ _ ["hands"]:=aw.cal X G dj;have bR:dA K mg _ _ _ ["texts"]:=ax.cal X G dl;have bV:dA K mg _ _ _ bY:=aD.cal X G dm;have z:dA K mg _ _ _ sq:=aM.cal X G dn;have b0:dA K mg _ _ _ uK:=a0.cal X G dr;have b1:dA K mg _ _ _ pF:=a1.cal X G ds;have b2:dA K mg _ _ _ tV:=a2.cal X G du;have A:dA K mg _ _ _ rX:=a3.cal X G dw;have b3:dA K mg _ _ _ uw:=a8.cal X G dx;have b4:dA K mg _ _ _ ik:=a9.cal X G dB;have B:dA K mg _ _ _ m5:=ba.cal X G dH;have b5:dA K mg _ _ _ ik:=bd.cal X G dK;have oJ:=W.mg_of X G yM;have bc:=W.mg_of X G o6;have bJ:=W.mg_of X G sv;have bM:=W.mg_of X G rN;have dv:=W.mg_of X G nJ;have F:=W.mg_of X G uL;have iW:=W.mg_of X G um;have jc:=W.mg_of X G vJ;have mh:=qL.mk mF;have jI:=qL.mk rZ;have aE:yh K k [.type "ValueError",.type "Exception",.type "BaseException",.type "object"] "ValueError.__new__":=⟨_,_,tH▸jI,sj,m,n⟩;have bb:qx K E E:=⟨_,_,_,mh,a,b⟩;have bf:qx K k E:=⟨_,_,_,jI,d,f⟩;have cj:wA K k:=⟨o,p,tG,zm,zq,q,r,t,_,_,_,jI⟩;have gN:=W.mg_of X G qK;have gz:RelV (.str "0123456789") (.str "0123456789" j):=⟨_,rfl⟩;have gF:m6 K (.str "0123456789"):=rfl;have dO:=W.mg_of X G sL;have dU:RelV (.ref aK) (.ref aK):=rfl;have dQ:pK K (.ref aK):=⟨aK,rfl,λH=>.inr ⟨_,_,_,vH,rfl,rfl,(by show 3<=Yp;decide),.cons ⟨_,rfl⟩ (.cons ⟨_,rfl⟩ (.cons ⟨_,rfl⟩ .nil))⟩⟩;have cK:=W.mg_of X G mx;have cJ:RelV (.int 62) (.int 62 g):=⟨_,rfl⟩;have dy:js K (.int 62):=rfl;have cx:=W.mg_of X G jP;have cy:RelV (.int 60) (.int 60 c):=⟨_,rfl⟩;have cC:fv K (.int 60):=rfl;have nX:mg "ValueError"=none:=W.mg_none_of X G oF;have Ar:mg "abs"=none:=W.mg_none_of X G z6;have AI:mg "all"=none:=W.mg_none_of X G zB;have yT:mg "bool"=none:=W.mg_none_of X G yu;have vv:mg "int"=none:=W.mg_none_of X G zr;have fo:mg "isinstance"=none:=W.mg_none_of X G ot;have I:mg "len"=none:=W.mg_none_of X G zp;have wB:mg "range"=none:=W.mg_none_of X G vL;have zo:mg "set"=none:=W.mg_none_of X G AE;have uB:mg "sorted"=none:=W.mg_none_of X G vG;have xx:mg "str"=none:=W.mg_none_of X G zQ;have rz:mg "tuple"=none:=W.mg_none_of X G wg;obtain⟨_,_,kV,dc,pm,an,cd,ct,_,rfl,_⟩:=id be.ex;refine⟨W.fnOf "law" "law" (ff mU) (cX mU) (aq mU) .none kV dc pm an cd ct,λs v=>.of_eq rfl,λbase _ _=>?_⟩;have i:Tg l.prog w mg base:=trivial;have d8:=jK i dM;have eY:=gR i (d8.mono (by decide)) d4 qF oJ b8 dP;have e0:=pO i yT vv fo dR;have e1:=qS i (e0.mono (by decide)) d5 Ar dS;have e2:=nO i d4 (d8.mono (by decide)) (eY.mono (by decide)) eN (e1.mono (by decide)) d6 bg bD bE bc bJ bM ek gH gM dO dU dQ dT;have e3:=kO i dV;have e4:=jl i dY;have e5:=kM i d0;have e6:=oK i bg bD bE bc bJ bM (e3.mono (by decide)) eO (e4.mono (by decide)) eQ (e5.mono (by decide)) eU bX cz cA d1;have J:=kZ i vv AI I gN gz gF cx cy cC F aE d2;have bi:=oO i F aE (J.mono (by decide)) u cK cJ dy ak;have bl:=mq i F aE (J.mono (by decide)) u al;have ea:=oN i F aE (J.mono (by decide)) u am;have eb:=nY i I F aE u (J.mono (by decide)) (bi.mono (by decide)) x (bl.mono (by decide)) y ap;have ec:=mw i I F aE (bi.mono (by decide)) x (bl.mono (by decide)) y as;have ed:=vS i zo uB aw;have ee:=lB i F aE (ec.mono (by decide)) bv (ed.mono (by decide)) bB rz ax;have ef:=oH i fo dO dU dQ I F aE (e2.mono (by decide)) d7 (ea.mono (by decide)) bt (eb.mono (by decide)) bu (ee.mono (by decide)) bR xx aD;have bm:=kQ i I aM;have eg:=oz i a0;have eh:=mJ i xx (bm.mono (by decide)) z (eg.mono (by decide)) b0 wB a1;have ei:=kN i I a2;have bn:=lX i vv I a3;have ej:=lj i I rz (bn.mono (by decide)) A a8;have el:=pY i I A (bn.mono (by decide)) (ej.mono (by decide)) b3 a9;have br:=l8 i fo bg bD bE bc bJ bM F (e6.mono (by decide)) eX (ef.mono (by decide)) bV nX bW cD cu dv iW jc bb bf cj bK bo bI bF ba;have em:=mB i (el.mono (by decide)) b4 (br.mono (by decide)) B bd;exact x6 i z B (bm.mono (by decide)) (eh.mono (by decide)) b1 (ei.mono (by decide)) b2 (br.mono (by decide)) (em.mono (by decide)) b5 be
theorem AU{l:GP}{q:YB}{b:List Yg}{i:(Yg->Option Yd)->YF->Prop}{e:YG->YF->Prop}{d:DefRec}{K:Params->Yc}(hn:l.most=Ya 63)(c:d.params.defaults=[])
  (j:∀(w:YG) (h:YF),e w h->(K w.params).In h)
  (F:∀(w:YG) (mg:Yg->Option Yd) (g:Yf) (h:YF),(K w.params).In h->h.Ns YC mg->mg d.name=Ya (.ref g)->
   ∃fd:YA,(∀(s:Yh) (u:Yd),Fg s fd ⟨[u],[]⟩ [("_law_script",u)])/\∀base:YF,(K w.params).In base->base.Ns YC mg->aP l.prog w (K w.params) mg base cT 8 g fd ["_law_script"] (nU (K w.params))):
  Hg q b i e l.row.toRowW d [] (λf vs=>PySem.call f vs):=
 L2.wN (n:=63) (k:=8) (x:="_law_script") (CX:=λ_=>cT) (sp:=λw=>nU (K w.params)) hn (by decide) c ⟨rfl,by decide,by decide⟩ j F (λ_ _ a ns m _ o=>⟨a,ns,rfl,o,m,λ_=>rfl⟩) λ_ _ _ _ _ z=>z
end K14
end
section
open Lean in
local macro_rules | `(#synth $f $k*) => return mkNullNode (← k.mapM λi => `(def $(mkIdent (.mkSimple s!"tw{(`PySem.Challenge.cw_groupcall_k14_calls_read_holds ++ .mkSimple s!"{f.raw.getId}_{i.raw.toNat}").hash}")) := Nat))
namespace PySem.W.Fast
#synth heap 39 46 437
#synth tree 47 70 85 100 130 209 238 267 315 399 436
#synth view 39
#synth sts 49 71 86 101 131 210 239 268 316 400
#synth o 43 45 46 49 51 53 54 55 56 57 58 59 60 61 63 64 65 66 67 68 69 70 71 73 74 75 76 77 79 80 81 82 83 84 85 86 88 89 90 91 92 94 95 96 97 98 99 100 101 103 104 105 106 107 109 110 111 112 113 114 115 116 118 119 120 121 122 123 125 126 127 128 129 130 131 133 134 135 136 138 139 140 142 143 144 145 146 147 149 150 151 152 153 154 156 157 158 159 160 161 163 164 165 166 167 168 170 171 172 173 174 175 177 178 179 180 181 182 184 185 186 187 188 189 191 192 193 194 195 196 198 199 200 201 202 203 204 205 206 207 208 209 210 212 213 214 215 216 218 219 220 222 223 224 225 226 227 229 230 231 232 233 234 235 236 237 238 239 241 242 243 244 245 247 248 249 251 252 253 254 255 256 258 259 260 261 262 263 264 265 266 267 268 270 271 272 273 274 276 277 278 280 281 282 283 284 285 287 288 289 290 291 292 293 294 295 296 297 299 300 301 302 303 304 306 307 308 309 310 311 313 314 315 316 318 320 321 322 323 324 325 327 328 329 330 331 332 334 335 336 337 338 339 341 342 343 344 345 346 348 349 350 351 352 353 355 356 357 358 360 361 362 363 364 365 367 368 369 370 371 372 374 375 376 377 378 379 381 382 383 384 385 386 388 389 390 391 392 393 395 396 397 398 399 400 402 404 405 406 407 408 409 411 412 413 414 415 416 418 419 420 421 422 423 425 426 427 428 429 430 432 433 434 435 436
#synth env 41
def tw9786844128517823385:=Nat
end PySem.W.Fast
end
open PySem PySem.W PyProof.Rows
set_option maxRecDepth 100000 in
set_option maxHeartbeats 0 in
theorem PySem.Challenge.cw_groupcall_k14_calls_read_holds : PySem.Challenge.rw_groupcall_k14_calls_read.Holds := by
 w_on;o_law;k_head;(case hw=>w_witness2)
 k_fill
 refine K14.AU (l:=PySem.Challenge.rw_groupcall_k14_calls_read) rfl rfl (λw h Y=>PySem.W.kIn_of Y) ?F
 case F=>
  intro w mg fa h KX G hmg;refine' K14.ze KX G hmg ?h0 ?h1 ?h2 ?h3 ?h4 ?h5 ?h6 ?h7 ?h8 ?h9 ?h10 ?h11 ?h12 ?h13 ?h14 ?h15 ?h16 ?h17 ?h18 ?h19 ?h20 ?h21 ?h22 ?h23 ?h24 ?h25 ?h26 ?h27 ?h28 ?h29 ?h30 ?h31 ?h32 ?h33 ?h34 ?h35 ?h36 ?h37 ?h38 ?h39 ?h40 ?h41 ?h42 ?h43 ?h44 ?h45 ?h46 ?h47 ?h48 ?h49 ?h50 ?h51 ?h52 ?h53 ?h54 ?h55 ?h56 ?h57 ?h58 ?h59 ?h60 ?h61 ?h62 ?h63 ?h64 ?h65 ?h66 ?h67 ?h68 ?h69 ?h70 ?h71 ?h72 ?h73 ?h74 ?h75 ?h76 ?h77 ?h78 ?h79 ?h80 ?h81 ?h82 ?h83 ?h84 ?h85 ?h86 ?h87 ?h88 ?h89 ?h90 ?h91 ?h92 ?h93 ?h94 ?h95 ?h96 ?h97 ?h98 ?h99 ?h100 ?h101 ?h102 ?h103 ?h104 ?h105 ?h106 ?h107 ?h108 ?h109 ?h110
  (case h0|h1|h2|h3|h4|h5|h6|h7|h8|h9|h10|h11|h12|h13|h14|h15|h16|h17|h18|h19|h20|h21|h22|h23|h24|h25|h26|h27|h28|h29=>show _=_;k_is)
  (case h30|h31|h32|h33|h34|h35|h36|h37|h38|h39|h40|h41|h42|h43|h44|h45=>first|k_is|rfl|decide)
  (case h46|h47|h48|h49|h50|h51|h52|h53|h54=>constructor<;>k_is)
  (case h55=>constructor<;>first|k_is|rfl)
  (case h56|h57|h58|h59|h60|h61|h62|h63|h64|h65|h66|h67|h68|h69|h70|h71|h72|h73|h74|h75|h76|h77|h78|h79|h80|h81|h82|h83=>exact L2.x5 (by k_is) (by k_is) (by k_is))
  (case h84|h85=>first|k_is|rfl|decide)
  (case h86|h87|h88|h89=>constructor;(constructor<;>k_is);all_goals(show _=_;k_is))
  (case h90|h91=>first|k_is|rfl|decide|kernel_rfl)
  (case h92=>first|k_is|rfl|decide)
  (case h93=>rfl)
  (case h94|h95|h96|h97=>first|k_is|rfl|decide|kernel_rfl)
  (case h98|h99=>constructor<;>k_is)
  (case h100|h101|h102|h103|h104|h105=>first|k_is|rfl|decide)
  (case h106|h107|h108|h109=>first|k_is|rfl|decide|kernel_rfl)
  (case h110=>first|k_is|rfl|decide)
