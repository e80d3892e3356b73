import PyProof.Rows.All
import Wide.All
import OpenK.AllK
import Wide.FinOn
import Lean
import PyProof.EqAt
import PyProof.EqKinds
import PyProof.TupleCall
import PyProof.AttrMissHeap
import KE.KSortTup
import KE.KDictList
import KE.KNest
import KE.KNestM
import OpenK.KRaise
import KE.KIsAll
import KE.KMatchCls
import PyProof.ExcAttrAll.ValueError
import PyProof.Rows.Range3
import KE.KIntText
import PyProof.Rows.StrWeight2
import PyProof.StrLawsTight
import KE.IntTextText
import PySem.Challenge.RW_groupcall_k13_calls_shown
set_option Elab.async false
set_option linter.all false
set_option compiler.extract_closed false
set_option bootstrap.genMatcherCode false
set_option maxRecDepth 100000
set_option maxHeartbeats 16000000
open PySem.W renaming Frag→Yc,kia_one→Y6,emptyDict→cf,findIn→dk,instObj→uc,keepIn→yP,fnOf→yS,plainGet→zS,plainGet_of→Ab,lookIn→Ai,callWith_K→Ao,methodObj→Az,hasDictIn→AD,handedIn→AK,takerIn→AZ,cellsFrom_some→Bg,kitOne→Bn,codeIn→Bp,methodCall_KW→Bv,isFn→B0,plainOver→Cd,specialIn→Ce,kitx_list→Cf,kitx_dict→Cg,makesIn→CG,OpenLaw→CK,WalkO→De
open PySem renaming Value→Yd,Addr→Ye,wpAny_bind→Yf,Shared→Yg,Str→Yh,wpAny→Yj,wpAny_pure→Yl,model→Yn,sizeLine→Yp,FuncData→Yu,Program→Yx,mainGlobals→Yz,World→YA,Heap→YC,starEach→YK,Expr→YL,Around→YX,Obj→YY,Stmt→YZ,eval→Y4,mem_of_lookup→cw,wpAny_setState_of→gr,intKind→ll,compareOp→sg,codeAny→yC,wpAny_call_entry→yG,rawInt→yJ,wpAny_newObj_type→yO,boot_len→yQ,bootBuiltins→yR,wpAny_askSetting→yT,wpAny_setEntries_of→yW,wpAny_callSpecial?_slot→yZ,wpAny_getItem_str_slice→y0,Scope→y1,wpAny_truthy_bool→za,wpAny_setField→ze,PyData→zf,Env→zg,scanBound→zi,sysModules→zl,wpAny_mono→zm,binaryOp→zo,backTo→zt,pyNext→zu,sliceBounds→zy,Builtin→zA,wpAny_passesOwn→zC,wpAny_Call_Name_kw→zF,assignEach→zK,cLine→zL,Pos→zP,NameKind→zT,pickOrder→zW,letOwnedTupleGo→z0,typeIs_str→z4,post_val_or_str→z8,SetTable→Aj,setNext→Ak,wpAny_fieldsOf→Al,Paired→An,behindInMarks→As,attributeBase→Au,wpAny_holding→Av,wpAny_attempt→Ax,wpAny_pyIter_list→AA,foldedSetIterable→AB,fits_of_scanBound→AF,call_meets→AH,callerA→AI,KeyKind→AJ,Result→AL,wpAny_comprehension_free→AO,wpAny_isInstance→AR,wpAny_execs_nil→AX,swapsWith→AY,codeAny_builtin→A9,wpAny_ite_split→Ba,IsRangeIter→Bd,wpAny_pyNext_range_end→Be,wpAny_pyIter_rangeiter→Bf,Tok→Bl,assign→Bm,BindsTo→Bo,valueAt→Bq,builtinLookup_eq_fast→Br,isSubtype_type→Bs,bindL→BF,bindC→BG,entryFor→BH,codeAny_call_builtin→BJ,setEntries→BK,plainId_quiet→BO,Sem→BU,Within→BW,wpAny_pyIter_range→BY,getMethod→B1,holding→B9,wpAny_assign_Name→Cc,slot_list_getitem→Ci,wpAny_pyIter_slot→Ck,sizeLine_eq→Co,keywordEach→Cp,wpAny_execs_cons→Cq,bindArgs→Cr,relayAll→Cv,setField→Cw,builtinsNs→CB,isTrue→CC,wpAny_Name→CD,pyIter→CF,wpAny_call→CI,closureFor→CL,argsOk→CM,typeLookup_type→CN,wpAny_updateSeq→CP,standAt→CS,recursionLimit→CT,Keyword→CU,newList→CV,entryFor_alias→CY,firstArgMember→CZ,isSubtype_stop→C0,wpAny_seqItems→C1,cellsFrom→C2,DictEntry→C3,drawOrder→C4,intBits_le_64→C9,evalPart_none→Dc,wpAny_standAt→Df,Drawn→Dg,table→Dh,Walks→Di,seqIndex_neg→Dk,backToKw→Dm,setAddHashed→Dq,setNextDrawn→Dr,wpAny_typeOf→Ds,intText?→Dv,getAttr→DC,getItem→DD,collect→DE,ElemsOf→DF
open PySem.Heap renaming get?_push_of_some→Yi,get?_push_size→Yo,lt_size→Yq,get?_update_other→lr,SameBut→yI,get?_update_self→yN,size_push→zd,get?_none_of_le→BC
open List renaming length_map→Yk,size_toArray→Ys,mem_cons_self→Yv,mem_cons_of_mem→Yw,length_cons→YD,mem_cons→YF,getElem?_map→YG,mem_append_right→YM,mem_singleton→YN,getElem?_eq_getElem→YO,map_append→YT,getElem?_eq_some_iff→YW,mem_singleton_self→Y0,mem_of_getElem?→Y2,length_append→Y8,length_take→Y9,map_cons→ar,length_nil→ir,not_mem_nil→rl,mem_append→yL,mem_map→yU,take_length→yV,map_eq_nil_iff→yX,eq_nil_of_length_eq_zero→y9,length_range→zb,getD_eq_getElem?_getD→zw,lookup→zx,nodup_cons→zE,any_eq_true→zU,getElem?_eq_none→zX,range→zY,find?_cons→z3,filterMap_cons→Aa,getElem_of_mem→Ac,mem_range→Ag,length_eraseIdx_of_lt→Aw,exists_cons_of_ne_nil→Ay,take_sublist→AE,append_assoc→AG,lookup_cons→AN,getElem_mem→AQ,of_mem_zip→A0,getElem?_set_self→Bc,pairwise_lt_range→Bi,getElem?_toArray→Bt,mem_append_left→BD,getElem?_set_ne→BE,pairwise_append→BI,any_cons→BM,mem_filterMap→BZ,map_nil→B2,ext_getElem?→Cm,length_drop→Cs,cons_ne_nil→Cy,mem_filter→CA,append_nil→CH,Perm→DO
open Nat renaming le_refl→Ym,lt_of_lt_of_le→Yy,ne_of_lt→YE,le_trans→YJ,zero_le→Y5,lt_irrefl→yE,le_of_lt→yH,le_succ→y6,lt_succ_self→zq,lt_or_ge→zH,lt_succ_of_lt→zN,ne_of_gt→zZ,le_of_eq→z1,min_eq_left→Bb,lt_of_succ_lt_succ→Bj,mul_le_mul_left→BS,lt_of_le_of_lt→B3,eq_zero_or_pos→B4,toDigits→B8,repr→Dx,log2_lt→DB,not_lt→DJ,mod_lt→DK
open Array renaming getElem?_eq_getElem→Yr,getD_eq_getD_getElem?→YH,getElem?_toList→tB,length_toList→yF,getElem?_eq_none→y8,getElem_toList→z7,toList→BX,toList_push→Cj
open Bool renaming false_ne_true→Yt,eq_iff_iff→zD,false_and→Ah,false_eq_true→Ap,or_false→BN,and_eq_true→Cu
open PySem.Str renaming ofString→YB,join→zr,append_assoc→Cz,empty→DN
open PySem.SetTable renaming below→YI,Probe→CW
open PySem.Builtin.Range renaming rangeSize→YQ,small→Ad
open List.cons renaming inj→YR
open Option.some renaming inj→YS
open PyProof.Rows renaming boot_str→YU,boot_isinstance→gm,IntsAre→yM,firstMet→y7,callWith_type1→zh,envOfC→zv,AllBare→zV,boot_tuple→AV,subscriptTail_builtinR→Bh,boot_bool→Bk,joinParts_cons→Bx,formatField_int_small→By,boot_int→Bz,FormattedValue_plain→BL,firstMet_succ→BP,callWith_builtin1→CJ,subscriptTail→Dd,floordiv_int→Dj,seqObj→Dn,digit_range→Dw,boot_sorted→Dy,boot_abs→DG,boot_all→DH,boot_max→DI
open PySem.NameKind renaming free→YV,cell→pw
open Sum renaming inr→Y1,inl→Af
open Int renaming toNat_natCast→Y3,eq_ofNat_of_zero_le→zM,lt_or_le→z9,fdiv_eq_ediv_of_nonneg→Ar,emod_lt_of_pos→B6,emod_nonneg→CQ,toNat→C7,le_of_lt→Dt
open PySem.Value renaming ref→Y7,type→y2,none→zk,bool→zJ,str→AW,int→BV,isInt_shape→Ca,float→Cn,isStrOf→C8,bytes→DA
open PySem.PyData.canLayAll0 renaming eq_2→cb
open PySem.PyData renaming depthAll→jJ,int→vc,canLayAll0→zc,tuple→Dz,str→DL
open Option renaming map_eq_some_iff→oh,map_some→y3,isSome_iff_exists→AM,getD_none→Ct,some→Ya,none→Yb
open PySem.F renaming plainAttrs_str→oo,slot_str_split→zQ,type_str_split→zR,slot_dict_setdefault→Am,plain_list_iadd→AU,slot_set_iter→Bu,slot_str_join→BA,type_str_join→BB,called_set→B5
open False renaming elim→pe
open PySem.SetTable.below renaming go→yD
open PyProof.Rows.F renaming plain_set_update_loop→yK,entry_set_update_loop→zI
open PySem.Builtin.Str renaming occurrences→yY,strSliceIndices→zj,strKind→BR,partsBetween→Du,glued→DP
open PySem.Txt renaming split→y4,startswith→Bw,slice→B7
open True renaming intro→zp
open PySem.Heap.SameBut renaming update→zB
open PySem.Builtin.List renaming listTooLong→zG,listSameRef→AS,listLengthHint→C5,listExtendWith→C6
open PySem.SetTable.probe renaming go→zO
open PySem.Obj renaming mapSeq→z5,mapFields→BQ
open ForInStep renaming yield→z6
open PySem.PyData.canLay0 renaming eq_6→Ae,eq_5→DM
open PySem.Paired renaming length→Aq
section
local macro_rules|`(tactic|omega)=>`(tactic|first|lia|omega +splitNatSub)
namespace L2
open PySem PySem.Spec PyProof.Rows
variable{us:List Yd}{a b it dx C:Ye}{u:Yd}{h h':YC}{items:Array Yd}{P:Yx}{x name m Ze:Yh}{e c tg l Zg:YL}{Za:List (Ye×YY)}{s s':Yg}{g':Array GenState}{t' i j k n:Nat}{d':Dg}{ch fp:List Ye}{M:Model}{E Q:Yd->Yg->Prop}{Zc Zn p tpos Zh:zP}{es:List YL}{Zo:List YZ}{g:Int->Int->Int}{f:Yd->Yd->BU Yd}{op:CmpOp}{mA:Yh->Option Yd}{pl:BU Bool}{kw:List (Yh×Yd)}{fd:Yu}{ps:List Yh}{scope:y1}
abbrev fP:=Sum Int Yh
noncomputable def oM:fP->Yd->Bool
 | .inl k,v=>Value.isInt k v
 | .inr x,v=>C8 x v
noncomputable def xV(w:YA):fP->Int
 | .inl k=>hashInt k
 | .inr x=>hashStr w x
theorem bu:∀{k:fP} {v:Yd},oM k v=true->(∃i t,k=Af i/\v=BV i t)∨(∃x t,k=Y1 x/\v=AW x t)
 | .inl i,v,h=>by
  obtain⟨t,e⟩:=Ca (k:=i) (v:=v) h;exact .inl ⟨i,t,rfl,e⟩
 | .inr x,v,h=>by
  obtain⟨t,e⟩:=Value.isStrOf_shape (x:=x) (v:=v) h;exact .inr ⟨x,t,rfl,e⟩
theorem pR(x:Yh)(t:Bl):oM (.inr x) (.str x t)=true:=by simp[oM,C8]
theorem u7(a b:Int):decide ((Af a:fP)=Af b)=(a==b):=by
 by_cases e:a=b
 ·subst e;simp
 ·have h:¬ (Af a:fP)=Af b:=λq=>e (Sum.inl.inj q);rw[decide_eq_false h];exact(beq_eq_false_iff_ne.mpr e).symm
theorem tY(a b:Yh):decide ((Y1 a:fP)=Y1 b)=decide (a=b):=by
 by_cases e:a=b
 ·subst e;simp
 ·have h:¬ (Y1 a:fP)=Y1 b:=λq=>e (Sum.inr.inj q);rw[decide_eq_false h,decide_eq_false e]
theorem uw(a:Int)(b:Yh):decide ((Af a:fP)=Y1 b)=false:=decide_eq_false (λq=>nomatch q)
theorem uM(a:Yh)(b:Int):decide ((Y1 a:fP)=Af b)=false:=decide_eq_false (λq=>nomatch q)
noncomputable def dQ(prog:Yx)(w:YA):AJ prog w fP where
 is:=oM
 hash:=xV w
 inj:=λv a b f d=>by
  rcases bu f with⟨i,t,rfl,rfl⟩|⟨x,t,rfl,rfl⟩
  ·rcases bu d with⟨j,u,rfl,e⟩|⟨y,u,rfl,e⟩
   ·injection e with e1 _;rw[e1]
   ·exact nomatch e
  ·rcases bu d with⟨j,u,rfl,e⟩|⟨y,u,rfl,e⟩
   ·exact nomatch e
   ·injection e with e1 _;rw[e1]
 byValue:=λk v h=>by
  rcases bu h with⟨i,t,rfl,rfl⟩|⟨x,t,rfl,rfl⟩<;>rfl
 pyHash:=λc h=>by
  rcases bu c with⟨i,t,rfl,rfl⟩|⟨x,t,rfl,rfl⟩
  ·exact wpAny_pyHash_int h
  ·exact wpAny_pyHash_str h
 eqBool:=λg c h=>by
  rcases bu g with⟨i,t,rfl,rfl⟩|⟨x,t,rfl,rfl⟩
  ·rcases bu c with⟨j,u,rfl,rfl⟩|⟨y,u,rfl,rfl⟩
   ·rw[u7]at h;exact wpAny_eqBool_int h
   ·rw[uw]at h;exact SeqAt.EqAt.int_str i t y u _ _ _ _ h
  ·rcases bu c with⟨j,u,rfl,rfl⟩|⟨y,u,rfl,rfl⟩
   ·rw[uM]at h;exact SeqAt.EqAt.str_int x t j u _ _ _ _ h
   ·rw[tY]at h;exact wpAny_eqBool_str h
 «strs»:=λk x t v h=>by
  rcases bu h with⟨i,u,rfl,e⟩|⟨y,u,rfl,e⟩
  ·exact nomatch e
  ·injection e with e1 _;subst e1;cases v<;>rfl
theorem mR(prog:Yx)(w:YA)(x:Yh)(t:Bl):(dQ prog w).is (.inr x) (.str x t)=true:=pR x t
inductive V where
 |non|bl (b:Bool)|int (i:Int)|str (x:Yh)|byt (b:Array UInt8)|flt (b:UInt64)|ref (a:Ye)|ty (n:String)
 deriving DecidableEq
variable{xs vs:List V}{v y:V}{Zd:List (fP×V)}
def RelV:V->Yd->Prop
 | .non,u=>u=zk
 | .bl b,u=>u=zJ b
 | .int i,u=>∃t,u=BV i t
 | .str x,u=>∃t,u=AW x t
 | .byt b,u=>∃t,u=DA b t
 | .flt b,u=>∃t,u=Cn b t
 | .ref a,u=>u=Y7 a
 | .ty n,u=>u=y2 n
abbrev Vals:List V->List Yd->Prop:=An RelV
theorem Vals.length(r:Vals xs us):xs.length=us.length:=Aq r
theorem Vals.get:∀{xs:List V} {us:List Yd} {i:Nat} {x:V},Vals xs us->xs[i]?=Ya x->∃u,us[i]?=Ya u/\RelV x u:=by
 intro a b i x w
 induction w generalizing i with
 |nil=>exact λe=>by simp at e
 |cons r _ ih=>
  intro e;cases i with
  |zero=>simp at e;subst e;exact⟨_,rfl,r⟩
  |succ i=>
   obtain⟨p,h1,h2⟩:=ih (i:=i) (by simpa using e);exact⟨p,by simpa using h1,h2⟩
theorem Vals.append:∀{xs e:List V} {us f:List Yd},Vals xs us->Vals e f->Vals (xs++e) (us++f):=by
 intro a b c d w h
 induction w with
 |nil=>exact h
 |cons r _ ih=>exact .cons r ih
theorem Vals.take:∀{xs:List V} {us:List Yd} (n:Nat),Vals xs us->Vals (xs.take n) (us.take n)
 |_,_,0,_=>.nil
 |_,_,_+ 1,.nil=>.nil
 |_,_,n+ 1,.cons r t=>.cons r (Vals.take n t)
theorem Vals.drop:∀{xs:List V} {us:List Yd} (n:Nat),Vals xs us->Vals (xs.drop n) (us.drop n)
 |_,_,0,r=>r
 |_,_,_+ 1,.nil=>.nil
 |_,_,n+ 1,.cons _ t=>Vals.drop n t
def gG:Option V->Option Yd->Prop
 |some v,Ya u=>RelV v u
 |none,Yb=>True
 |_,_=>False
def KV{κ:Type}:List (κ×V)->List (κ×Yd)->Prop:=An fun(p:κ×V) (q:κ×Yd)=>p.1=q.1/\RelV p.2 q.2
noncomputable def kV:fP->V
 | .inl i=>.int i
 | .inr x=>.str x
inductive HO where
 |lst (xs:List V)
 |tup (xs:List V)
 |dK (Zd:List (fP×V))|dT (Zd:List (List fP×V))
 |set (S:Int->Bool) (n:Nat)
 |ins (C dx:Ye) (fs:List (Yh×V))
 |own (x:Ye)
 |xd (fs:List (Yh×V))
 |met (f x:Ye)
 |rng (lo hi:Int)
 |frz (o:YY) (u:HO)
 |tbl (ps:Array Yd)
 |ext (φ:YC->Prop)
variable{o:HO}
abbrev Hp:=Ye->Option HO
variable{H H':Hp}{R:V->V->Hp->Prop}
noncomputable def upd(H:Hp)(a:Ye)(o:HO):Hp:=λb=>if b=a then Ya o else H b
theorem ao:upd H a o a=Ya o:=by unfold upd;rw[if_pos rfl]
theorem aA(h:b≠a):upd H a o b=H b:=by unfold upd;rw[if_neg h]
theorem m5{u:HO}(h:H a=Ya o)(h':H b=Ya u)(d:o≠u):a≠b:=by
 intro e;subst e;rw[h]at h';exact d (YS h')
theorem aq(h:H a=Ya o)(h':H b=Yb):a≠b:=by
 intro e;subst e;rw[h]at h';cases h'
def iD(h:YC)(a:Ye)(items:Array Yd):Prop:=∃o,h.get? a=Ya o/\o.cls=.type "tuple"/\∃n,o.data=.seq items n/\o.dict=Yb/\o.slots=#[]
theorem iD.tup(x:iD h a items):IsTup h a items:=let ⟨o,e,c,n,d,_⟩:=x;⟨o,e,c,n,d⟩
theorem iD.lt(x:iD h a items):a<h.objs.size:=x.tup.lt
theorem iD.new(h:YC)(items:Array Yd):iD (h.push {cls:=.type "tuple",data:=.seq items}) h.objs.size items:=⟨_,Yo _ rfl,rfl,_,rfl,rfl,rfl⟩
section
variable(P:Yx)(w:YA)
def bM(H:Hp)(h:YC)(a:Ye):HO->Prop
 | .lst xs=>xs.length<=Yp/\∃(c:List Yd) (n:Nat),Vals xs c/\h.get? a=Ya {cls:=.type "list",data:=.seq c.toArray n}
 | .tup xs=>xs.length<=Yp/\∃c:List Yd,Vals xs c/\iD h a c.toArray
 | .dK Zd=>Zd.length<=Yp/\(a==zl)=false/\∃d,KV Zd d/\h.DictOf (dQ P w) a d
 | .dT Zd=>Zd.length<=Yp/\(a==zl)=false/\∃xs:List (List fP×Ye×Yd),
   An (fun(p:List fP×V) (q:List fP×Ye×Yd)=>p.1=q.1/\H q.2.1=Ya (.tup (p.1.map kV))/\RelV p.2 q.2.2) Zd xs/\
   ∃o e g,h.get? a=Ya o/\o.ExactDict/\o.data=.dict e g/\e.toList=xs.map (entryOfKey (tupleKind (dQ P w)))/\(xs.map (·.1)).Nodup
 | .set S n=>h.SetOf (ll P w) a S n
 | .ins C dx fs=>H dx=Ya (.own a)/\fs.length<=1000/\dx≠a/\h.get? a=Ya (uc C dx)/\
   ∃b,h.Ns1 dx b/\(∀f,gG (fs.lookup f) (b f))/\BW b (fs.map (·.1))
 | .own _=>∃o,h.get? a=Ya o
 | .xd fs=>∃b,h.Ns1 a b/\∀f,gG (fs.lookup f) (b f)
 | .rng lo hi=>∃t u v,h.get? a=Ya {cls:=.type "range",data:=.fields #[.int lo t,.int hi u,.int 1 v]}
 | .frz o u=>h.get? a=Ya o/\bM H h a u
 | .tbl ps=>h.get? a=Ya {cls:=.none,data:=.fields ps}
 | .met f x=>h.get? a=Ya (Az (.ref f) (.ref x))
 | .ext φ=>φ h/\(∃o,h.get? a=Ya o)/\∀h1 h2:YC,φ h1->(∀o,h1.get? a=Ya o->h2.get? a=Ya o)->φ h2
def gF(H:Hp)(h:YC):Prop:=∀a o,H a=Ya o->bM P w H h a o
end
section
variable{w:YA}
theorem bM.lt(x:bM P w H h a o):a<h.objs.size:=by
 cases o with
 |lst xs=>obtain⟨_,_,_,_,e⟩:=x;exact Yq e
 |tup xs=>obtain⟨_,_,_,p⟩:=x;exact p.lt
 |dK Zd=>obtain⟨_,_,_,_,o,_,_,e,_⟩:=x;exact Yq e
 |dT Zd=>obtain⟨_,_,_,_,o,_,_,e,_⟩:=x;exact Yq e
 |set S n=>obtain⟨o,_,_,_,e,_⟩:=x;exact Yq e
 |ins C dx fs=>obtain⟨_,_,_,e,_⟩:=x;exact Yq e
 |own y=>obtain⟨_,e⟩:=x;exact Yq e
 |xd fs=>obtain⟨_,⟨_,_,_,e,_⟩,_⟩:=x;exact Yq e
 |rng lo hi=>obtain⟨_,_,_,e⟩:=x;exact Yq e
 |frz ob u=>obtain⟨e,_⟩:=x;exact Yq e
 |tbl ps=>exact Yq (show h.get? a=Ya _ from x)
 |met f y=>exact Yq (show h.get? a=Ya _ from x)
 |ext φ=>obtain⟨_,⟨_,e⟩,_⟩:=x;exact Yq e
theorem An.mapP{α β:Type}{F G:α->β->Prop}:∀{c:List α} {d:List β},An F c d->(∀a b,F a b->G a b)->An G c d:=by
 intro a b w f
 induction w with
 |nil=>exact .nil
 |cons r _ ih=>exact .cons (f _ _ r) ih
theorem bM.stay(x:bM P w H h a o)(k:∀b u,(b=a∨H b=Ya (.own a))->h.get? b=Ya u->h'.get? b=Ya u)
  (s:∀b,H b=Ya (.own a)->H' b=Ya (.own a)) (A:∀b xs,H b=Ya (.tup xs)->H' b=Ya (.tup xs)):bM P w H' h' a o:=by
 induction o with
 |lst xs=>obtain⟨z,j,n,r,e⟩:=x;exact⟨z,j,n,r,k _ _ (.inl rfl) e⟩
 |tup xs=>obtain⟨z,j,r,ob,e,c⟩:=x;exact⟨z,j,r,ob,k _ _ (.inl rfl) e,c⟩
 |dK Zd=>obtain⟨z,y,B,r,ob,g,i,e,c⟩:=x;exact⟨z,y,B,r,ob,g,i,k _ _ (.inl rfl) e,c⟩
 |dT Zd=>
  obtain⟨z,y,xs,r,ob,g,i,e,c⟩:=x;exact⟨z,y,xs,An.mapP r λp q z=>⟨z.1,A _ _ z.2.1,z.2.2⟩,ob,g,i,k _ _ (.inl rfl) e,c⟩
 |set S n=>obtain⟨ob,g,i,t,e,c⟩:=x;exact⟨ob,g,i,t,k _ _ (.inl rfl) e,c⟩
 |ins C dx fs=>
  obtain⟨d,z,ne,e,l,⟨m,g,i,D,c⟩,r⟩:=x;exact⟨s _ d,z,ne,k _ _ (.inl rfl) e,l,⟨m,g,i,k _ _ (.inr d) D,c⟩,r⟩
 |own y=>obtain⟨ob,e⟩:=x;exact⟨ob,k _ _ (.inl rfl) e⟩
 |xd fs=>obtain⟨l,⟨m,g,i,e,c⟩,r⟩:=x;exact⟨l,⟨m,g,i,k _ _ (.inl rfl) e,c⟩,r⟩
 |rng lo hi=>obtain⟨t,u,v,e⟩:=x;exact⟨t,u,v,k _ _ (.inl rfl) e⟩
 |frz ob u ih=>obtain⟨e,q⟩:=x;exact⟨k _ _ (.inl rfl) e,ih q⟩
 |tbl ps=>
  have e:h.get? a=Ya {cls:=.none,data:=.fields ps}:=x;show h'.get? a=Ya {cls:=.none,data:=.fields ps};exact k a _ (.inl rfl) e
 |met f y=>
  have e:h.get? a=Ya (Az (.ref f) (.ref y)):=x;show h'.get? a=Ya (Az (.ref f) (.ref y));exact k a _ (.inl rfl) e
 |ext φ=>obtain⟨p,⟨o,e⟩,st⟩:=x;exact⟨st _ _ p λo q=>k _ _ (.inl rfl) q,⟨o,k _ _ (.inl rfl) e⟩,st⟩
theorem gF.lt(x:gF P w H h)(e:H a=Ya o):a<h.objs.size:=(x a o e).lt
theorem gF.fresh(x:gF P w H h)(e:h.objs.size<=a):H a=none:=by
 cases q:H a with
 |none=>rfl
 |some u=>exact absurd (Yy (x.lt q) e) (yE _)
theorem gF.kept(x:gF P w H h)(k:∀b u,h.get? b=Ya u->h'.get? b=Ya u):gF P w H h':=λa o e=>
 (x a o e).stay (λb u _ q=>k b u q) (λ_ q=>q) λ_ _ q=>q
theorem gF.laid(x:gF P w H h)(k:∀b u,h.get? b=Ya u->h'.get? b=Ya u)(hp:h.objs.size<=a)(new:bM P w (upd H a o) h' a o):gF P w (upd H a o) h':=λb u e=>by
 have hn:=x.fresh hp;by_cases d:b=a
 ·subst d;rw[ao]at e;cases e;exact new
 ·rw[aA d]at e;exact(x b u e).stay (λc v _ q=>k c v q) (λc q=>by rw[aA (aq q hn)];exact q) λc f q=>by rw[aA (aq q hn)];exact q
end
def Rd(H:Hp)(a:Ye)(u:HO):Prop:=H a=Ya u∨∃o,H a=Ya (.frz o u)
theorem Rd.ok{w:YA}{u:HO}(r:Rd H a u)(x:gF P w H h):bM P w H h a u:=by
 rcases r with r|⟨o,r⟩
 ·exact x a u r
 ·obtain⟨_,q⟩:=x a _ r;exact q
def xH:Option HO->Prop
 |some (.lst _)=>True
 |some (.dK _)=>True
 |some (.dT _)=>True
 |some (.set _ _)=>True
 |some (.ins _ _ _)=>True
 |some (.ext _)=>True
 |_=>False
section
variable{w:YA}{x e:Ye}{o':HO}
theorem gF.write(ok:gF P w H h)(g:xH (H x))(n:e=x∨H e=Ya (.own x))(k:∀b u,b≠e->h.get? b=Ya u->h'.get? b=Ya u)(m:∃u,h'.get? e=Ya u)
  (new:bM P w (upd H x o') h' x o'):gF P w (upd H x o') h':=λb u q=>by
 have d:∀c y,H c=Ya (.own y)->c≠x:=λc y r z=>by subst z;rw[r]at g;exact g
 have f:∀c i,H c=Ya (.tup i)->c≠x:=λc i r z=>by subst z;rw[r]at g;exact g
 by_cases j:b=x
 ·subst j;rw[ao]at q;cases q;exact new
 ·rw[aA j]at q;by_cases a:b=e
  ·have o:H b=Ya (.own x):=by
    rcases n with z|z
    ·exact absurd (a.trans z) j
    ·rw[a];exact z
   rw[q]at o;cases o;obtain⟨v,p⟩:=m;exact⟨v,by rw[a];exact p⟩
  ·refine(ok b u q).stay (λc v l r=>k c v ?_ r) (λc r=>by rw[aA (d c b r)];exact r) λc i r=>by rw[aA (f c i r)];exact r
   rcases l with rfl|l
   ·exact a
   ·rintro rfl;rcases n with z|z
    ·exact d c b l z
    ·rw[l]at z;cases z;exact j rfl
end
structure Un(fs ex:List Ye)(H H':Hp)(h h':YC):Prop where
 keep:∀b o,h.get? b=Ya o->H b=Yb->b∉fs->b∉ex->h'.get? b=Ya o
 slot:∀b o,h.get? b=Ya o->H b=Yb->b∈fs->b∉ex->∃sl,h'.get? b=Ya {o with slots:=sl}
 free:∀b o,h.get? b=Ya o->H b=Yb->b∉ex->H' b=Yb
 there:∀b o,h.get? b=Ya o->b∉ex->∃o',h'.get? b=Ya o'
 tups:∀b xs,H b=Ya (.tup xs)->H' b=Ya (.tup xs)
 frzs:∀b o u,H b=Ya (.frz o u)->H' b=Ya (.frz o u)
 tbls:∀b ps,H b=Ya (.tbl ps)->∃more,H' b=Ya (.tbl (ps++more))
section
variable{fs fs' ex ex':List Ye}{H1 H2:Hp}{h1 h2:YC}{x e:Ye}
theorem Un.any(u:Un fs ex H H1 h h1){ob:YY}(q:h.get? b=Ya ob)(n:H b=Yb)(a:b∉ex):∃d,h1.get? b=Ya {ob with slots:=d}:=by
 by_cases c:b∈fs
 ·exact u.slot b ob q n c a
 ·exact⟨ob.slots,u.keep b ob q n c a⟩
theorem Un.kept(k:∀b u,h.get? b=Ya u->h'.get? b=Ya u):Un fs ex H H h h':=
 ⟨λb ob q _ _ _=>k b ob q,λb ob q _ _ _=>⟨ob.slots,k b ob q⟩,λ_ _ _ n _=>n,λb ob q _=>⟨ob,k b ob q⟩,λ_ _ q=>q,λ_ _ _ q=>q,λ_ a q=>⟨#[],by rw[q];simp⟩⟩
theorem Un.refl:Un fs ex H H h h:=Un.kept λ_ _ q=>q
theorem Un.laid(k:∀b u,h.get? b=Ya u->h'.get? b=Ya u)(hp:h.objs.size<=a)(hn:H a=Yb):Un fs ex H (upd H a o) h h' where
 keep:=λb u q _ _ _=>k b u q
 slot:=λb u q _ _ _=>⟨u.slots,k b u q⟩
 free:=λb u q n _=>by rw[aA (YE (Yy (Yq q) hp))];exact n
 there:=λb u q _=>⟨u,k b u q⟩
 tups:=λb c q=>by rw[aA (aq q hn)];exact q
 frzs:=λb u c q=>by rw[aA (aq q hn)];exact q
 tbls:=λb d q=>⟨#[],by rw[aA (aq q hn),q];simp⟩
theorem Un.write(c:xH (H x))(i:e=x∨H e=Ya (.own x))(k:∀b u,b≠e->h.get? b=Ya u->h'.get? b=Ya u)(d:∃u,h'.get? e=Ya u):Un fs ex H (upd H x o) h h':=by
 have f:∀b,H b=Yb->b≠x:=λb n z=>by subst z;rw[n]at c;exact c
 have g:∀b,H b=Yb->b≠e:=λb n z=>by
  subst z;rcases i with r|r
  ·exact f b n r
  ·rw[n]at r;cases r
 have hm:∀b u,H b=Ya u->¬ xH (Ya u)->b≠x:=λb u q j z=>by subst z;rw[q]at c;exact j c
 refine⟨λb u q n _ _=>k b u (g b n) q,λb u q n _ _=>⟨u.slots,k b u (g b n) q⟩,λb u q n _=>by rw[aA (f b n)];exact n,λb u q _=>?_,
  λb l q=>by rw[aA (hm b _ q λz=>z)];exact q,λb u l q=>by rw[aA (hm b _ q λz=>z)];exact q,λb m q=>⟨#[],by rw[aA (hm b _ q λz=>z),q];simp⟩⟩
 by_cases a:b=e
 ·subst a;exact d
 ·exact⟨u,k b u a q⟩
end
noncomputable def xA(h:YC)(H:Hp):List Ye:=(zY h.objs.size).filter λa=>(H a).isSome
noncomputable def lB(h:YC)(H:Hp):YC:=PySem.W.hideAll h (xA h H)
theorem o6(h:YC)(H:Hp):(lB h H).objs.size=h.objs.size:=PySem.W.hideAll_size _ _
theorem qt{o:YY}(e:h.get? b=Ya o)(n:H b=Yb):(lB h H).get? b=Ya o:=
 PySem.W.hideAll_get _ e λhm=>by
  have q:(H b).isSome=true:=(CA.mp hm).2;rw[n]at q;simp at q
theorem se{o:YY}(e:(lB h H).get? b=Ya o):h.get? b=Ya o/\H b=none:=by
 have a:h.get? b=Ya o:=PySem.W.of_hideAll (xA h H) e;refine⟨a,?_⟩;cases q:H b with
 |none=>rfl
 |some x=>
  have hm:b∈xA h H:=CA.mpr ⟨Ag.mpr (Yq a),by simp[q]⟩;have z:(lB h H).get? b=none:=PySem.W.hideAll_none (xA h H) hm;rw[z]at e;cases e
structure Mod(K:Yc)(mg:Yh->Option Yd)(base:YC):Prop where
 kin:K.In base
 glob:base.Ns Yz mg
 blt:∃mb,base.Ns CB mb/\∀x:Yh,x≠"__name__"->mb x=yR x
 nolimit:base.NoLimit
structure Cx where
 prog:Yx
 w:YA
 K:Yc
 mg:Yh->Option Yd
 base:YC
 A:YX
 N:List Yh
 s₀:Yg
 H₀:Hp
 env:zg
 outer:List zg
 stack:List zg
 ex:List Ye
 fn:Yh->Bool
 calm:Bool
 pn:List (Ye×YY)
 xe:Yd->Yg->Prop
variable{w:YA}{X:Cx}{N:List Yh}{A:YX}{prog:Yx}{mg:Yh->Option Yd}{outer:List zg}
noncomputable def q5(l:List zg):List Ye:=l.filterMap (·.frame)
noncomputable abbrev Cx.fs(X:Cx):List Ye:=q5 X.outer
variable{fs:List (Yh×V)}
def xP(sc:y1)(x:Yh):Prop:=sc.names.lookup x=Ya .local∨sc.names.lookup x=Ya .cell∨sc.names.lookup x=Ya .free
def wF(sc:y1)(x:Yh):Prop:=sc.names.lookup x=Ya .local∨sc.names.lookup x=Ya .cell
def xJ(env:zg)(h:YC)(m:Yh->Option Yd)(x:Yh)(u:Yd):Prop:=
 (env.kindOf x=Ya .local/\m x=Ya u)∨((env.kindOf x=Ya .cell∨env.kindOf x=Ya .free)/\∃c,env.cells.lookup x=Ya c/\h.IsCell c (Ya u))
structure Cx.Ok(X:Cx):Prop where
 mod:Mod X.K X.mg X.base
 kind:X.env.scope.kind=.function
 glob:X.env.globals=Yz
 blt:X.env.builtins=CB
 above:X.s₀.heap.objs.size<=X.env.locals
 inj:∀x y c,X.env.cells.lookup x=Ya c->X.env.cells.lookup y=Ya c->x=y
 has:∀x,(X.env.kindOf x=Ya .cell∨X.env.kindOf x=Ya .free)->∃c,X.env.cells.lookup x=Ya c
 cab:∀x c,X.fn x=true->X.env.cells.lookup x=Ya c->X.s₀.heap.objs.size<=c
 hd:X.calm=true->X.A.handled=Yb
 frames:X.A.frames=Ya X.stack
 stk:X.stack=X.outer∨(X.stack=X.env::X.outer/\X.env.frame=Ya X.env.locals)
 exf:∀b∈X.ex,b≠X.env.locals/\∀x c,X.env.cells.lookup x=Ya c->c≠b
 bs:∀b o,X.base.get? b=Ya o->X.s₀.heap.get? b=Ya o/\X.H₀ b=Yb
 bsz:X.base.objs.size<=X.s₀.heap.objs.size
 noex:∀b o,X.base.get? b=Ya o->b∉X.ex
 exfs:∀b∈X.ex,b∉X.fs
 funs:X.s₀.heap.FunFrames X.base X.outer
 frf:∀b∈X.fs,X.H₀ b=Yb
structure au(X:Cx)(Za:List (Ye×YY))(σ:List (Option V))(H:Hp)(s:Yg):Prop where
 ok:X.Ok
 os:s.os=X.s₀.os
 bare:zV s.gens
 base:Un X.fs X.ex X.H₀ H X.s₀.heap s.heap
 loc:∃m,s.heap.Ns X.env.locals m/\∀(i:Nat) (x:Yh) (v:V),X.N[i]?=Ya x->σ[i]?=Ya (Ya v)->xP X.env.scope x->∃u,RelV v u/\xJ X.env s.heap m x u
 cell:∀x c,X.env.cells.lookup x=Ya c->∃v,s.heap.IsCell c v
 free:H X.env.locals=Yb
 freeC:∀x c,X.env.cells.lookup x=Ya c->H c=Yb
 pin:∀p∈X.pn++Za,s.heap.get? p.1=Ya p.2/\H p.1=Yb/\p.1≠X.env.locals/\p.1∉X.fs/\∀v,p.2.data≠.cell v
 hok:gF X.prog X.w H s.heap
 len:σ.length=X.N.length
variable{base:YC}
section
variable{σ:List (Option V)}
theorem Cx.Ok.nofr(ok:X.Ok){o:YY}(e:X.base.get? b=Ya o):b∉X.fs:=λa=>by
 have:=(ok.funs.mem a).1;rw[e]at this;cases this
theorem au.bs(I:au X Za σ H s):∀b o,X.base.get? b=Ya o->s.heap.get? b=Ya o/\H b=none:=λb o e=>
 ⟨I.base.keep b o (I.ok.bs b o e).1 (I.ok.bs b o e).2 (I.ok.nofr e) (I.ok.noex b o e),I.base.free b o (I.ok.bs b o e).1 (I.ok.bs b o e).2 (I.ok.noex b o e)⟩
theorem au.bk(I:au X Za σ H s):∀b o,X.base.get? b=Ya o->s.heap.get? b=Ya o:=λb o e=>(I.bs b o e).1
theorem au.mod(I:au X Za σ H s):Mod X.K X.mg X.base:=I.ok.mod
theorem au.kIn(I:au X Za σ H s):X.K.In s.heap:=I.ok.mod.kin.keeps I.bk
theorem au.lt(I:au X Za σ H s):X.env.locals<s.heap.objs.size:=let ⟨_,hn,_⟩:=I.loc;hn.lt
theorem au.sz(I:au X Za σ H s):X.s₀.heap.objs.size<=s.heap.objs.size:=YJ I.ok.above (yH I.lt)
theorem au.nofs(I:au X Za σ H s)(h:s.heap.objs.size<=a):a∉X.fs:=λb=>by
 obtain⟨_,o,c,_⟩:=I.ok.funs.mem b;exact absurd (Yy (Yq c) (YJ I.sz h)) (yE _)
theorem au.cne(I:au X Za σ H s):∀x c,X.env.cells.lookup x=Ya c->c≠X.env.locals:=λx c e z=>by
 obtain⟨v,o,d,hd⟩:=I.cell x c e;obtain⟨m,⟨f,g,h,a,b,_⟩,_⟩:=I.loc;rw[z,a]at d;cases d;rw[b]at hd;cases hd
theorem au.funs(I:au X Za σ H s):s.heap.FunFrames X.base X.outer:=by
 have all:∀(l:List zg),(∀b∈q5 l,b∈X.fs)->X.s₀.heap.FunFrames X.base l->s.heap.FunFrames X.base l:=by
  intro l
  induction l with
  |nil=>intro _ _;trivial
  |cons env r ih=>
   intro f g;obtain⟨hk,⟨L,o,a,hn,h,hd⟩,i⟩:=g;have c:L∈X.fs:=f L (by unfold q5;rw[Aa,a];exact Yv);obtain⟨j,e⟩:=I.base.slot L o h (I.ok.frf L c) c λz=>I.ok.exfs L z c;exact⟨hk,⟨L,_,a,hn,e,hd⟩,ih (λb d=>f b (by unfold q5;rw[Aa,a];exact Yw _ d)) i⟩
 exact all X.outer (λ_ d=>d) I.ok.funs
theorem au.stack(I:au X Za σ H s):s.heap.FunFrames X.base X.stack:=by
 rcases I.ok.stk with e|⟨e,a⟩
 ·rw[e];exact I.funs
 ·rw[e];obtain⟨m,hn,_⟩:=I.loc;refine .cons (by rw[I.ok.kind];decide) a hn ?_ I.funs;exact BC (YJ I.ok.bsz I.ok.above)
theorem au.stkSub(I:au X Za σ H s):∀b∈q5 X.stack,b∈X.env.locals::X.fs:=λb a=>by
 rcases I.ok.stk with e|⟨e,c⟩
 ·rw[e]at a;exact Yw _ a
 ·rw[e]at a;unfold q5 at a;rw[Aa,c]at a;exact a
theorem au.stkFree(I:au X Za σ H s):∀b∈q5 X.stack,H b=none:=λb a=>by
 rcases YF.mp (I.stkSub b a)with e|a
 ·rw[e];exact I.free
 ·obtain⟨_,o,c,_⟩:=I.ok.funs.mem a;exact I.base.free b o c (I.ok.frf b a) λz=>I.ok.exfs b z a
theorem au.step(I:au X Za σ H s)(f:∀b∈ch,(b∈X.ex∨X.s₀.heap.objs.size<=b)/\b≠X.env.locals/\(∀x c,X.env.cells.lookup x=Ya c->c≠b)/\∀p∈X.pn++Za,p.1≠b)(keep:∀b o,b≠X.env.locals->b∉X.fs->b∉ch->s.heap.get? b=Ya o->H b=Yb->h'.get? b=Ya o)(slot:∀b o,b≠X.env.locals->b∈X.fs->b∉ch->s.heap.get? b=Ya o->H b=Yb->∃D,h'.get? b=Ya {o with slots:=D})(free:∀b o,b∉ch->s.heap.get? b=Ya o->H b=Yb->H' b=Yb)(there:∀b o,b∉ch->s.heap.get? b=Ya o->∃A,h'.get? b=Ya A)(tups:∀b xs,H b=Ya (.tup xs)->H' b=Ya (.tup xs))(frzs:∀b o u,H b=Ya (.frz o u)->H' b=Ya (.frz o u))(tbls:∀b ps,H b=Ya (.tbl ps)->∃more,H' b=Ya (.tbl (ps++more)))(ns:∀m,s.heap.Ns X.env.locals m->h'.Ns X.env.locals m)(hok:gF X.prog X.w H' h')(J:zV g'):
  au X Za σ H' {s with heap:=h',gens:=g',drawn:=d',toks:=t'}:=by
 have B:∀b o,X.s₀.heap.get? b=Ya o->b≠X.env.locals:=λb o e=>YE (Yy (Yq e) I.ok.above);have j:∀b o,X.s₀.heap.get? b=Ya o->b∉X.ex->b∉ch:=λb o e a w=>by
  rcases(f b w).1 with z|z
  ·exact a z
  ·exact absurd (Yy (Yq e) z) (yE _)
 have g:∀x c,X.env.cells.lookup x=Ya c->∀v,s.heap.IsCell c v->h'.IsCell c v:=λx c e v ⟨o,y,hd⟩=>by
  have h:c∉ch:=λz=>(f c z).2.2.1 x c e rfl;by_cases F:c∈X.fs
  ·obtain⟨D,q⟩:=slot c o (I.cne x c e) F h y (I.freeC x c e);exact⟨_,q,hd⟩
  ·exact⟨o,keep c o (I.cne x c e) F h y (I.freeC x c e),hd⟩
 refine⟨I.ok,I.os,J,⟨λb o e n w a=>?_,λb o e n w a=>?_,λb o e n a=>?_,λb o e a=>?_,λb xs e=>tups b xs (I.base.tups b xs e),λb o xs e=>frzs b o xs (I.base.frzs b o xs e),λb ps e=>?_⟩,?_,λx c e=>?_,?_,λx c e=>?_,λp hp=>?_,hok,I.len⟩
 ·exact keep b o (B b o e) w (j b o e a) (I.base.keep b o e n w a) (I.base.free b o e n a)
 ·obtain⟨D,t⟩:=I.base.slot b o e n w a;obtain⟨E,C⟩:=slot b _ (B b o e) w (j b o e a) t (I.base.free b o e n a);exact⟨E,C⟩
 ·obtain⟨A,t⟩:=I.base.there b o e a;exact free b A (j b o e a) t (I.base.free b o e n a)
 ·obtain⟨A,t⟩:=I.base.there b o e a;exact there b A (j b o e a) t
 ·obtain⟨K,t⟩:=I.base.tbls b ps e;obtain⟨L,C⟩:=tbls b _ t;exact⟨K++L,by rw[C,Array.append_assoc]⟩
 ·obtain⟨m,hn,M⟩:=I.loc;refine⟨m,ns m hn,λi x v t C N=>?_⟩;obtain⟨u,r,l⟩:=M i x v t C N;refine⟨u,r,?_⟩;rcases l with l|⟨k,c,e,z⟩
  ·exact .inl l
  ·exact .inr ⟨k,c,e,g x c e _ z⟩
 ·obtain⟨v,z⟩:=I.cell x c e;exact⟨v,g x c e v z⟩
 ·obtain⟨m,⟨o,_,_,y,_⟩,_⟩:=I.loc;exact free _ o (λz=>(f _ z).2.1 rfl) y I.free
 ·obtain⟨v,o,y,hd⟩:=I.cell x c e;exact free c o (λz=>(f c z).2.2.1 x c e rfl) y (I.freeC x c e)
 ·obtain⟨e,n,ne,G,d⟩:=I.pin p hp;have h:p.1∉ch:=λz=>(f p.1 z).2.2.2 p hp rfl;exact⟨keep p.1 p.2 ne G h e n,free p.1 p.2 h e n,ne,G,d⟩
theorem au.un(I:au X Za σ H s)(u:Un X.fs [] H H' s.heap h')(hok:gF X.prog X.w H' h'):au X Za σ H' {s with heap:=h',toks:=t'}:=by
 obtain⟨m,⟨o,j,k,f,r⟩,_⟩:=id I.loc;obtain⟨l,g⟩:=u.any f I.free (by simp);exact I.step (g':=s.gens) (d':=s.drawn) (ch:=[]) (λ_ z=>nomatch z) (λb o _ c _ e n=>u.keep b o e n c (by simp)) (λb o _ c _ e n=>u.slot b o e n c (by simp)) (λb o _ e n=>u.free b o e n (by simp)) (λb o _ e=>u.there b o e (by simp)) u.tups u.frzs u.tbls (λp hm=>by
  obtain⟨q,h,d,a,i⟩:=hm;rw[f]at a;cases a;exact⟨_,h,d,g,i⟩) hok I.bare
theorem au.call(I:au X Za σ H s)(u:Un (q5 X.stack) ch H H' s.heap h')(hok:gF X.prog X.w H' h')(j:zV g')(d:∀b∈ch,(b∈X.ex∨X.s₀.heap.objs.size<=b)/\b≠X.env.locals/\(∀x c,X.env.cells.lookup x=Ya c->c≠b)/\∀p∈X.pn++Za,p.1≠b):
  au X Za σ H' {s with heap:=h',gens:=g',drawn:=d',toks:=t'}:=by
 obtain⟨m,⟨o,t,v,i,r⟩,_⟩:=id I.loc;obtain⟨w,g⟩:=u.any i I.free λz=>(d _ z).2.1 rfl;exact I.step (ch:=ch) d (λb o g k a e n=>u.keep b o e n (λz=>(YF.mp (I.stkSub b z)).elim g k) a) (λb o _ _ a e n=>u.any e n a) (λb o a e n=>u.free b o e n a) (λb o a e=>u.there b o e a) u.tups u.frzs u.tbls (λy hm=>by
  obtain⟨A,l,h,f,q⟩:=hm;rw[i]at f;cases f;exact⟨_,l,h,g,q⟩) hok j
theorem au.turned(I:au X Za σ H s)(k:∀b o,b≠it->s.heap.get? b=Ya o->h'.get? b=Ya o)(hn:H it=Yb)(f:it≠X.env.locals)(h1:it∈X.ex∨X.s₀.heap.objs.size<=it)(h2:∀x c,X.env.cells.lookup x=Ya c->c≠it)(h3:∀p∈X.pn++Za,p.1≠it):au X Za σ H {s with heap:=h',toks:=t'}:=by
 have d:∀b u,H b=Ya u->b≠it:=λb u e z=>by rw[z,hn]at e;cases e
 refine I.step (g':=s.gens) (d':=s.drawn) (ch:=[it]) (λb g=>?_) (λb o _ _ a e _=>k b o (λz=>a (by simp[z])) e) (λb o _ _ a e _=>⟨o.slots,k b o (λz=>a (by simp[z])) e⟩) (λ_ _ _ _ n=>n)
  (λb o a e=>⟨o,k b o (λz=>a (by simp[z])) e⟩) (λ_ _ e=>e) (λ_ _ _ e=>e) (λb l e=>⟨#[],by rw[e];simp⟩) (λm hm=>?_) (λb u e=>?_) I.bare
 ·have e:b=it:=by simpa using g
  subst e;exact⟨h1,f,h2,h3⟩
 ·obtain⟨o,h,i,j,r⟩:=hm;exact⟨o,h,i,k _ o (Ne.symm f) j,r⟩
 ·refine(I.hok b u e).stay (λc v a q=>k c v ?_ q) (λ_ q=>q) λ_ _ q=>q;rcases a with z|z
  ·rw[z];exact d b u e
  ·exact d c _ z
theorem au.tok(I:au X Za σ H s)(t:Nat):au X Za σ H {s with toks:=t}:=I.un (h':=s.heap) (t':=t) Un.refl I.hok
theorem au.kept(I:au X Za σ H s)(k:∀b u,s.heap.get? b=Ya u->h'.get? b=Ya u):au X Za σ H {s with heap:=h',toks:=t'}:=I.un (Un.kept k) (I.hok.kept k)
theorem au.laid(I:au X Za σ H s)(k:∀b u,s.heap.get? b=Ya u->h'.get? b=Ya u)(hp:s.heap.objs.size<=a)(new:bM X.prog X.w (upd H a o) h' a o):
  au X Za σ (upd H a o) {s with heap:=h',toks:=t'}:=I.un (Un.laid k hp (I.hok.fresh hp)) (I.hok.laid k hp new)
theorem au.write{x e:Ye}{o:HO}{t':Nat}(I:au X Za σ H s)(c:xH (H x))(d:e=x∨H e=Ya (.own x))(k:∀b u,b≠e->s.heap.get? b=Ya u->h'.get? b=Ya u)(a:∃u,h'.get? e=Ya u)
  (new:bM X.prog X.w (upd H x o) h' x o):au X Za σ (upd H x o) {s with heap:=h',toks:=t'}:=I.un (Un.write c d k a) (I.hok.write c d k a new)
theorem au.pins_of{a:List (Ye×YY)}(I:au X Za σ H s)(h:∀p∈a,s.heap.get? p.1=Ya p.2/\H p.1=Yb/\p.1≠X.env.locals/\p.1∉X.fs/\∀v,p.2.data≠.cell v):au X a σ H s:=
 ⟨I.ok,I.os,I.bare,I.base,I.loc,I.cell,I.free,I.freeC,λp hp=>(yL.mp hp).elim (λz=>I.pin p (BD _ z)) (h p),I.hok,I.len⟩
theorem mj(c:N.Nodup)(a:N[i]?=Ya x)(b:N[j]?=Ya x):i=j:=by
 obtain⟨h1,d⟩:=YW.mp a;obtain⟨h2,e⟩:=YW.mp b;exact(List.getElem_inj c).mp (d.trans e.symm)
theorem kU{Q:Unit->Yg->Prop}(I:au X Za σ H s)(hN:X.N.Nodup)(K:X.N[i]?=Ya x)(w:wF X.env.scope x)(r:RelV v u)(h:∀s',au X Za (σ.set i (Ya v)) H s'->(∃a,yI a s.heap s'.heap/\(a=X.env.locals∨X.env.cells.lookup x=Ya a))->Q () s')(hf:X.fn x=true∨X.env.scope.names.lookup x=Ya .local:=by first|exact .inl rfl|exact .inr rfl|assumption):Yj M A (storeName X.env x u) Q E s:=by
 obtain⟨m,hn,hl⟩:=id I.loc;have L:(X.env.scope.kind==.class||(X.env.scope.kind==.module&&X.env.locals !=X.env.globals))=false:=by rw[I.ok.kind];rfl
 have N:i<σ.length:=by rw[I.len];exact(YW.mp K).1
 have cne:=I.cne;have g:∀{a:Ye} {J:YC},(∃o,s.heap.get? a=Ya o/\H a=Yb)->yI a s.heap J->gF X.prog X.w H J:=fun{a J} ha f b ob e=>by
  obtain⟨_,_,B⟩:=ha;refine(I.hok b ob e).stay (λc T t q=>(f.2 c ?_).trans q) (λ_ q=>q) λ_ _ q=>q;rintro rfl;rcases t with rfl|t
  ·rw[B]at e;cases e
  ·rw[B]at t;cases t
 rcases w with hk|hk
 ·refine wpAny_storeName_local hk hn (λJ V f=>?_) L;obtain⟨oL,_,_,W,_⟩:=id hn;refine h _ ⟨I.ok,I.os,I.bare,⟨λb o e n D w=>?_,λb o e n D w=>?_,I.base.free,λb o e w=>?_,I.base.tups,I.base.frzs,I.base.tbls⟩,⟨_,V,λj y Y l C Z=>?_⟩,λy c e=>?_,I.free,I.freeC,λp hp=>?_,g ⟨oL,W,I.free⟩ f,by simpa using I.len⟩ ⟨_,f,.inl rfl⟩
  ·exact(f.2 b (YE (Yy (Yq e) I.ok.above))).trans (I.base.keep b o e n D w)
  ·obtain⟨sl,l⟩:=I.base.slot b o e n D w;exact⟨sl,(f.2 b (YE (Yy (Yq e) I.ok.above))).trans l⟩
  ·obtain⟨o',l⟩:=I.base.there b o e w;exact⟨o',(f.2 b (YE (Yy (Yq e) I.ok.above))).trans l⟩
  ·by_cases F:j=i
   ·subst F;rw[K]at l;cases l;rw[Bc N]at C;cases C;exact⟨u,r,.inl ⟨hk,by simp⟩⟩
   ·rw[BE (Ne.symm F)]at C;obtain⟨u',r',q⟩:=hl j y Y l C Z;refine⟨u',r',?_⟩;rcases q with⟨k,e⟩|⟨k,c,e,z⟩
    ·refine .inl ⟨k,?_⟩;have:y≠x:=λe=>F (mj hN l (e▸K));simp[this,e]
    ·exact .inr ⟨k,c,e,z.sameBut f (cne y c e)⟩
  ·obtain⟨T,z⟩:=I.cell y c e;exact⟨T,z.sameBut f (cne y c e)⟩
  ·obtain⟨e,n,ne,nf,d⟩:=I.pin p hp;exact⟨(f.2 p.1 ne).trans e,n,ne,nf,d⟩
 ·have G:X.fn x=true:=by
   rcases hf with z|z
   ·exact z
   ·rw[z]at hk;cases hk
  obtain⟨c,t⟩:=I.ok.has x (.inl hk);obtain⟨T,z⟩:=I.cell x c t;refine wpAny_storeName_cell I.ok.kind hk t z (λJ O f=>?_);obtain⟨oc,P,R⟩:=id z;refine h {s with heap:=J} ⟨I.ok,I.os,I.bare,⟨λb o e n D w=>?_,λb o e n D w=>?_,I.base.free,λb o e w=>?_,I.base.tups,I.base.frzs,I.base.tbls⟩,⟨m,hn.sameBut f (Ne.symm (cne x c t)),λj y Y l C Z=>?_⟩,λy U e=>?_,I.free,I.freeC,λp hp=>?_,g ⟨oc,P,I.freeC x c t⟩ f,by simpa using I.len⟩ ⟨c,f,.inr t⟩
  ·exact(f.2 b (YE (Yy (Yq e) (I.ok.cab x c G t)))).trans (I.base.keep b o e n D w)
  ·obtain⟨sl,l⟩:=I.base.slot b o e n D w;exact⟨sl,(f.2 b (YE (Yy (Yq e) (I.ok.cab x c G t)))).trans l⟩
  ·obtain⟨o',l⟩:=I.base.there b o e w;exact⟨o',(f.2 b (YE (Yy (Yq e) (I.ok.cab x c G t)))).trans l⟩
  ·by_cases F:j=i
   ·subst F;rw[K]at l;cases l;rw[Bc N]at C;cases C;exact⟨u,r,.inr ⟨.inl hk,c,t,O⟩⟩
   ·rw[BE (Ne.symm F)]at C;obtain⟨u',r',q⟩:=hl j y Y l C Z;refine⟨u',r',?_⟩;rcases q with q|⟨k,U,e,z'⟩
    ·exact .inl q
    ·refine .inr ⟨k,U,e,z'.sameBut f ?_⟩;rintro rfl;exact F (mj hN l (I.ok.inj _ _ _ e t▸K))
  ·by_cases S:U=c
   ·subst S;exact⟨_,O⟩
   ·obtain⟨w2,z2⟩:=I.cell y U e;exact⟨w2,z2.sameBut f S⟩
  ·obtain⟨e,n,ne,nf,d⟩:=I.pin p hp;refine⟨(f.2 p.1 ?_).trans e,n,ne,nf,d⟩;intro q;rw[q,P]at e;have q':oc=p.2:=YS e;exact d T (by rw[←q'];exact R)
theorem mz{Q:Unit->Yg->Prop}(I:au X Za σ H s)(a:X.N.Nodup)(b:X.N[i]?=Ya x)(c:wF X.env.scope x)(r:RelV v u)(h:∀s',au X Za (σ.set i (Ya v)) H s'->Q () s')(d:X.fn x=true∨X.env.scope.names.lookup x=Ya .local:=by first|exact .inl rfl|exact .inr rfl|assumption):Yj M A (storeName X.env x u) Q E s:=
 kU I a b c r (λs' e _=>h s' e) d
theorem au.call'(I:au X Za σ H s)(d:s'.os=s.os)(u:Un (q5 X.stack) ch H H' s.heap s'.heap)(hok:gF X.prog X.w H' s'.heap)(f:zV s'.gens)(a:∀b∈ch,(b∈X.ex∨X.s₀.heap.objs.size<=b)/\b≠X.env.locals/\(∀x c,X.env.cells.lookup x=Ya c->c≠b)/\∀p∈X.pn++Za,p.1≠b):au X Za σ H' s':=by
 obtain⟨k,g,h,i,j⟩:=s';have e:j=s.os:=d;subst e;exact I.call (g':=g) (t':=i) (d':=h) u hok f a
end
abbrev XK:=Yd->Option Ye->Hp->Prop
abbrev St:=List (Option V)
variable{σ:St}
abbrev VK:=V->Hp->Prop
abbrev TE:=St->Hp->VK->Prop
variable{ta tb te tl tc tv td ty:TE}
abbrev TT:=St->Hp->(Bool->Hp->Prop)->Prop
abbrev TA:=St->Hp->(List V->Hp->Prop)->Prop
variable{t:TA}
structure iV where
 nx:St->Hp->Prop
 rt:VK
 bk:St->Hp->Prop:=λ_ _=>False
 ct:St->Hp->Prop:=λ_ _=>False
variable{D:iV}
abbrev TS:=iV->St->Hp->Prop
def EP(X:Cx)(b:List (Ye×YY))(σ:St)(Q:VK)(u:Yd)(s':Yg):Prop:=∃v a,au X b σ a s'/\RelV v u/\Q v a
def TP(X:Cx)(c:List (Ye×YY))(σ:St)(Q:Bool->Hp->Prop)(b:Bool)(s':Yg):Prop:=∃a,au X c σ a s'/\Q b a
def AP(X:Cx)(c:List (Ye×YY))(σ:St)(Q:List V->Hp->Prop)(us:List Yd)(s':Yg):Prop:=∃a b,au X c σ b s'/\Vals a us/\Q a b
def SP(X:Cx)(c:List (Ye×YY))(D:iV)(f:Flow)(s':Yg):Prop:=
 match f with
 | .next=>∃b a,au X c b a s'/\D.nx b a
 | .brk=>∃b a,au X c b a s'/\D.bk b a
 | .cont=>∃b a,au X c b a s'/\D.ct b a
 | .ret u=>∃v b a,au X c b a s'/\RelV v u/\D.rt v a
def PE(X:Cx)(e:YL)(t:TE):Prop:=
 ∀(a:List (Ye×YY)) (s:Yg) (σ:St) (H:Hp) (Q:VK),au X a σ H s->t σ H Q->Yj (Yn X.prog X.w) X.A (Y4 e X.env) (EP X a σ Q) X.xe s
def PT(X:Cx)(e:YL)(t:TT):Prop:=
 ∀(a:List (Ye×YY)) (s:Yg) (σ:St) (H:Hp) (Q:Bool->Hp->Prop),au X a σ H s->t σ H Q->Yj (Yn X.prog X.w) X.A (CC e X.env (Y4 e X.env)) (TP X a σ Q) X.xe s
def PW(X:Cx)(e:YL)(t:TT):Prop:=
 ∀(a:BU Yd) (b:List (Ye×YY)) (s:Yg) (σ:St) (H:Hp) (Q:Bool->Hp->Prop),au X b σ H s->t σ H Q->Yj (Yn X.prog X.w) X.A (CC e X.env a) (TP X b σ Q) X.xe s
theorem PW.pt{t:TT}(h:PW X e t):PT X e t:=h _
def PA(X:Cx)(b:List YL)(t:TA):Prop:=
 ∀(c:zP) (a:List (Ye×YY)) (s:Yg) (σ:St) (H:Hp) (Q:List V->Hp->Prop),au X a σ H s->t σ H Q->Yj (Yn X.prog X.w) X.A (spliced (zt c (YK b X.env))) (AP X a σ Q) X.xe s
def PS(X:Cx)(st:YZ)(t:TS):Prop:=
 ∀(a:List (Ye×YY)) (s:Yg) (σ:St) (H:Hp) (D:iV),au X a σ H s->t D σ H->Yj (Yn X.prog X.w) X.A (exec st X.env) (SP X a D) X.xe s
def pz(X:Cx)(st:List YZ)(t:TS):Prop:=
 ∀(a:List (Ye×YY)) (s:Yg) (σ:St) (H:Hp) (D:iV),au X a σ H s->t D σ H->Yj (Yn X.prog X.w) X.A (execs st X.env) (SP X a D) X.xe s
theorem bZ{α:Type}{t:BU α}{Q b:α->Yg->Prop}(h:Yj M A t Q E s)(c:∀a s,Q a s->b a s):Yj M A t b E s:=zm h c λ_ _ x=>x
section
theorem yA{a b:YL}(i:PE X a ta)(j:PE X b tb)(I:au X Za σ H s)(h:ta σ H λx e=>tb σ e λy c=>R x y c){α:Type}{Q:α->Yg->Prop}{f:Yd->Yd->BU α}(k:∀v u d x y c,au X Za σ c d->RelV x v->RelV y u->R x y c->Yj (Yn X.prog X.w) X.A (f v u) Q X.xe d):
  Yj (Yn X.prog X.w) X.A (Y4 a X.env) (λv l=>Yj (Yn X.prog X.w) X.A (Y4 b X.env) (λu m=>Yj (Yn X.prog X.w) X.A (f v u) Q X.xe m) X.xe l) X.xe s:=by
 refine bZ (i Za s σ H _ I h) λv n g=>?_;obtain⟨x,e,o,p,q⟩:=g;refine bZ (j Za n σ e _ o q) λu d g=>?_;obtain⟨y,c,r,t,w⟩:=g;exact k v u d x y c r p t w
def sE(i:Nat):TE:=λσ H Q=>∃v,σ[i]?=Ya (Ya v)/\Q v H
def tC(v:V):TE:=λ_ H Q=>Q v H
theorem vk(g:X.N[i]?=Ya x)(j:xP X.env.scope x)(hd:(x==("__debug__":Yh))=false:=by decide)(d:(x==("__classdict__":Yh))=false:=by decide):PE X (.Name x Zc) (sE i):=by
 intro k s σ H Q I h;obtain⟨v,e,h⟩:=h;obtain⟨m,hn,n⟩:=I.loc;obtain⟨u,r,l⟩:=n i x v g e j;have b:EP X k σ Q u s:=⟨v,H,I,r,h⟩;rcases l with⟨hk,hm⟩|⟨hk,c,f,a⟩
 ·exact CD (wpAny_loadName_local I.ok.kind hk hn hm b) hd
 ·rcases hk with hk|hk
  ·exact CD (wpAny_loadName_cell I.ok.kind hk f a b) hd
  ·exact CD (wpAny_loadName_free I.ok.kind hk f a b d) hd
theorem ae{i j a}:PE X (.Constant (.int i) j a) (tC (.int i)):=λ_ _ _ H _ I h=>wpAny_Constant_int ⟨.int i,H,I.tok _,⟨_,rfl⟩,h⟩
theorem mK{b j a}:PE X (.Constant (.bool b) j a) (tC (.bl b)):=λ_ _ _ H _ I h=>Constant_bool ⟨.bl b,H,I,rfl,h⟩
theorem a9{x j a}:PE X (.Constant (.str x) j a) (tC (.str x)):=λ_ _ _ H _ I h=>Calls.Constant_str ⟨.str x,H,I.tok _,⟨_,rfl⟩,h⟩
def Gl(X:Cx)(x:Yh):Prop:=X.env.kindOf x=Ya .globalImplicit
theorem l5(I:au X Za σ H s)(a:Gl X x)(hm:X.mg x=Ya u)(h:Q u s)(hd:(x==("__debug__":Yh))=false:=by decide):Yj (Yn X.prog X.w) X.A (Y4 (.Name x Zc) X.env) Q E s:=
 Calls.Name_function_global I.ok.kind a (Calls.loadGlobal_global (by rw[I.ok.glob];exact I.mod.glob.keeps I.bk) hm h) hd
theorem jZ(I:au X Za σ H s)(a:Gl X x)(hm:X.mg x=Yb)(b:yR x=Ya u)(h:Q u s)(hn:x≠"__name__":=by decide)(hd:(x==("__debug__":Yh))=false:=by decide):Yj (Yn X.prog X.w) X.A (Y4 (.Name x Zc) X.env) Q E s:=by
 obtain⟨c,h1,h2⟩:=I.mod.blt;exact Calls.Name_function_global I.ok.kind a (Calls.loadGlobal_builtin (by rw[I.ok.glob];exact I.mod.glob.keeps I.bk) hm (by rw[I.ok.blt];exact h1.keeps I.bk) ((h2 x hn).trans b) h) hd
theorem fL(a:Gl X x)(hm:X.mg x=Ya u)(r:RelV v u)(hd:(x==("__debug__":Yh))=false:=by decide):PE X (.Name x Zc) (tC v):=
 λ_ _ _ H _ I h=>l5 I a hm ⟨v,H,I,r,h⟩ hd
theorem rR(a:Gl X x)(hm:X.mg x=Yb)(b:yR x=Ya u)(r:RelV v u)(hn:x≠"__name__":=by decide)(hd:(x==("__debug__":Yh))=false:=by decide):PE X (.Name x Zc) (tC v):=
 λ_ _ _ H _ I h=>jZ I a hm b ⟨v,H,I,r,h⟩ hn hd
variable{a b:YL}
variable{tA tB':TT}{Zk:List YL}
def xy(t u:TT):TT:=λσ H Q=>t σ H λc a=>if c=true then u σ a Q else Q false a
def yg(t u:TT):TT:=λσ H Q=>t σ H λc a=>if c=true then Q true a else u σ a Q
def wa(t:TT):TT:=λσ H Q=>t σ H λc a=>Q (!c) a
theorem o2(b:PT X a tA):PW X (.BoolOp .And [a] Zc) tA:=by
 intro f d s σ H Q I h;refine isTrue_and (bZ (b d s σ H Q I h) λc g e=>?_);cases c with
 |true=>exact isTrue_and_nil e
 |false=>exact e
theorem lF(b:PT X a tA):PW X (.BoolOp .Or [a] Zc) tA:=by
 intro f d s σ H Q I h;refine isTrue_or (bZ (b d s σ H Q I h) λc g e=>?_);cases c with
 |false=>exact isTrue_or_nil e
 |true=>exact e
theorem qf(i:PT X a tA)(j:PW X (.BoolOp .And (b::Zk) Zc) tB'):PW X (.BoolOp .And (a::b::Zk) Zc) (xy tA tB'):=by
 intro k d s σ H Q I h;refine isTrue_and (bZ (i d s σ H _ I h) λc l m=>?_);obtain⟨e,f,g⟩:=m;cases c with
 |true=>exact j k d l σ e Q f g
 |false=>exact⟨e,f,g⟩
theorem j7(i:PT X a tA)(j:PW X (.BoolOp .Or (b::Zk) Zc) tB'):PW X (.BoolOp .Or (a::b::Zk) Zc) (yg tA tB'):=by
 intro k d s σ H Q I h;refine isTrue_or (bZ (i d s σ H _ I h) λc l m=>?_);obtain⟨e,f,g⟩:=m;cases c with
 |true=>exact⟨e,f,g⟩
 |false=>exact j k d l σ e Q f g
theorem iQ(b:PT X a tA):PT X (.UnaryOp .Not a Zc) (wa tA):=by
 intro d s σ H Q I h;exact isTrue_not (b d s σ H (λc e=>Q (!c) e) I h)
def tQ(b d:TE):TE:=λσ H Q=>b σ H λx a=>∃c,x=.bl c/\if c=true then d σ a Q else Q (.bl false) a
def tL(a:TE):TE:=λσ H Q=>a σ H λx b=>∃c,x=.bl c/\Q (.bl (!c)) b
theorem nB{b}{t:TE}(h:PE X a t):PE X (.BoolOp b [a] Zc) t:=λc s σ H Q I hw=>BoolOp_one (h c s σ H Q I hw)
theorem nk(i:PE X a ta)(j:PE X (.BoolOp .And (b::Zk) Zc) tb):PE X (.BoolOp .And (a::b::Zk) Zc) (tQ ta tb):=by
 intro e s σ H Q I h;refine BoolOp_and (bZ (i e s σ H _ I h) λv k l=>?_);obtain⟨x,f,g,m,d⟩:=l;obtain⟨c,rfl,d⟩:=d;cases m;refine za ?_;cases c with
 |true=>exact j e k σ f Q g d
 |false=>exact⟨.bl false,f,g,rfl,d⟩
theorem uN(d:PE X a ta):PE X (.UnaryOp .Not a Zc) (tL ta):=by
 intro e s σ H Q I h;refine UnaryOp_ (bZ (d e s σ H _ I h) λv k f=>?_);obtain⟨x,g,i,j,b⟩:=f;obtain⟨c,rfl,b⟩:=b;cases j;exact not_of (za ⟨.bl (!c),g,i,rfl,b⟩)
end
def bP(K:Yc)(H:Hp)(a:Ye)(xs:List V):Prop:=
 Rd H a (.lst xs)∨
  ∃(o:YY) (b:Array Yd) (n:Nat),K.lookup a=Ya o/\o.cls=.type "list"/\o.dict=Yb/\o.data=.seq b n/\b.size<=Yp/\Vals xs b.toList
def cu(K:Yc)(H:Hp)(a:Ye)(xs:List V):Prop:=
 Rd H a (.tup xs)∨
  ∃(o:YY) (b:Array Yd) (n:Nat),K.lookup a=Ya o/\o.cls=.type "tuple"/\o.data=.seq b n/\b.size<=Yp/\Vals xs b.toList
noncomputable def yb:Yd->Option V
 | .none=>Ya .non
 | .bool b=>Ya (.bl b)
 | .int i _=>Ya (.int i)
 | .str x _=>Ya (.str x)
 | .bytes b _=>Ya (.byt b)
 | .float b _=>Ya (.flt b)
 | .ref a=>Ya (.ref a)
 | .type n=>Ya (.ty n)
 |_=>Yb
theorem RelV.abs{x:V}(r:RelV x u):yb u=Ya x:=by
 cases x with
 |non=>cases r;rfl
 |bl _=>cases r;rfl
 |int _=>obtain⟨t,rfl⟩:=r;rfl
 |str _=>obtain⟨t,rfl⟩:=r;rfl
 |byt _=>obtain⟨t,rfl⟩:=r;rfl
 |flt _=>obtain⟨t,rfl⟩:=r;rfl
 |ref _=>cases r;rfl
 |ty _=>cases r;rfl
theorem RelV.inj{x:V}(r:RelV x u)(q:RelV y u):x=y:=YS (r.abs.symm.trans q.abs)
theorem Vals.inj:∀{xs a:List V} {us:List Yd},Vals xs us->Vals a us->xs=a:=by
 intro xs a us h
 induction h generalizing a with
 |nil=>
  intro h;cases h;rfl
 |cons r t ih=>
  intro h;cases h with|cons r' t'=>
  rw[r.inj r',ih t']
section
variable{ys:List V}
theorem bP.of{K:Yc}(h:H a=Ya (.lst xs)):bP K H a xs:=.inl (.inl h)
theorem cu.of{K:Yc}(h:H a=Ya (.tup xs)):cu K H a xs:=.inl (.inl h)
theorem au.list(I:au X Za σ H s)(h:bP X.K H a xs):∃b:List Yd,Vals xs b/\PlainL s.heap a b.toArray/\xs.length<=Yp:=by
 rcases h with h|⟨o,b,n,hk,c,hd,d,f,r⟩
 ·obtain⟨z,b,n,r,e⟩:=h.ok I.hok;exact⟨b,r,⟨_,n,e,rfl,rfl,rfl⟩,z⟩
 ·refine⟨b.toList,r,⟨o,n,I.kIn a o hk,c,hd,by simpa using d⟩,?_⟩;have e:=r.length;simp only[yF]at e;omega
theorem au.tuple(I:au X Za σ H s)(h:cu X.K H a xs):∃b:List Yd,Vals xs b/\IsTup s.heap a b.toArray/\xs.length<=Yp:=by
 rcases h with h|⟨o,b,n,hk,c,d,f,r⟩
 ·obtain⟨z,b,r,p⟩:=h.ok I.hok;exact⟨b,r,p.tup,z⟩
 ·refine⟨b.toList,r,⟨o,I.kIn a o hk,c,n,by simpa using d⟩,?_⟩;have e:=r.length;simp only[yF]at e;omega
theorem au.list_inj(I:au X Za σ H s)(h:bP X.K H a xs)(h':bP X.K H a ys):xs=ys:=by
 obtain⟨g,r,⟨o,n,e,_,_,d⟩,_⟩:=I.list h;obtain⟨b,i,⟨j,k,c,_,_,f⟩,_⟩:=I.list h';rw[e]at c;cases c;rw[d]at f;injection f with d1 _;have:g=b:=by simpa using congrArg BX d1
 subst this;exact r.inj i
theorem au.tuple_inj(I:au X Za σ H s)(h:cu X.K H a xs)(h':cu X.K H a ys):xs=ys:=by
 obtain⟨g,r,⟨o,e,_,n,d⟩,_⟩:=I.tuple h;obtain⟨b,i,⟨j,c,_,k,f⟩,_⟩:=I.tuple h';rw[e]at c;cases c;rw[d]at f;injection f with d1 _;have:g=b:=by simpa using congrArg BX d1
 subst this;exact r.inj i
end
noncomputable abbrev Cx.wish(X:Cx)(E:Yd->Yg->Prop):Cx:={X with xe:=E}
noncomputable abbrev Cx.nox(X:Cx):Cx:=X.wish λ_ _=>False
theorem Cx.Ok.wish(ok:X.Ok)(E:Yd->Yg->Prop):(X.wish E).Ok:=
 ⟨ok.mod,ok.kind,ok.glob,ok.blt,ok.above,ok.inj,ok.has,ok.cab,ok.hd,ok.frames,ok.stk,ok.exf,ok.bs,ok.bsz,ok.noex,ok.exfs,ok.funs,ok.frf⟩
theorem Cx.Ok.unwish(ok:(X.wish E).Ok):X.Ok:=
 ⟨ok.mod,ok.kind,ok.glob,ok.blt,ok.above,ok.inj,ok.has,ok.cab,ok.hd,ok.frames,ok.stk,ok.exf,ok.bs,ok.bsz,ok.noex,ok.exfs,ok.funs,ok.frf⟩
section
theorem au.wish(I:au X Za σ H s)(E:Yd->Yg->Prop):au (X.wish E) Za σ H s:=⟨I.ok.wish E,I.os,I.bare,I.base,I.loc,I.cell,I.free,I.freeC,I.pin,I.hok,I.len⟩
theorem au.unwish(I:au (X.wish E) Za σ H s):au X Za σ H s:=⟨I.ok.unwish,I.os,I.bare,I.base,I.loc,I.cell,I.free,I.freeC,I.pin,I.hok,I.len⟩
theorem SP.unwish{f:Flow}(h:SP (X.wish E) Za D f s'):SP X Za D f s':=by
 cases f with
 |next=>obtain⟨a,b,I,q⟩:=h;exact⟨a,b,I.unwish,q⟩
 |brk=>obtain⟨a,b,I,q⟩:=h;exact⟨a,b,I.unwish,q⟩
 |cont=>obtain⟨a,b,I,q⟩:=h;exact⟨a,b,I.unwish,q⟩
 |ret u=>obtain⟨v,a,b,I,r,q⟩:=h;exact⟨v,a,b,I.unwish,r,q⟩
theorem pz.nox{st:List YZ}{t:TS}(h:pz X.nox st t):pz X st t:=λa s σ H D I hw=>
 zm (h a s σ H D (I.wish _) hw) (λ_ _ q=>q.unwish) λ_ _ z=>pe z
end
section
variable{st:YZ}{Zk:List YZ}{t u:TS}
def oV:TS:=λD σ H=>D.nx σ H
def gS(t u:TS):TS:=λD σ H=>t {D with nx:=u D} σ H
theorem aN:pz X [] oV:=λ_ _ σ H _ I h=>AX ⟨σ,H,I,h⟩
theorem ah(h1:PS X st t)(h2:pz X Zk u):pz X (st::Zk) (gS t u):=by
 intro a s σ H D I h;refine Cq (bZ (h1 a s σ H {D with nx:=u D} I h) λf b q=>?_);cases f with
 |next=>
  obtain⟨c,d,e,q⟩:=q;exact h2 a b c d D e q
 |ret v=>exact q
 |brk=>exact q
 |cont=>exact q
theorem ai(h1:PS X st t):pz X [st] t:=by
 intro a s σ H D I h;refine Cq (bZ (h1 a s σ H D I h) λf b q=>?_);cases f with
 |next=>exact AX q
 |ret v=>exact q
 |brk=>exact q
 |cont=>exact q
theorem au.quiet(I:au X Za σ H s):interactive X.env=false:=by simp[interactive,I.ok.kind]
def qS(a:TE):TS:=λD σ H=>a σ H λ_ b=>D.nx σ b
theorem oP(a:PE X e te)(b:AY e Yb Zc.line X.env=pure false:=by rfl):PS X (.Expr e Zc) (qS te):=by
 intro c s σ H D I h;exact wpAny_Expr_any (bZ (a c s σ H _ I h) λv i ⟨x,d,f,j,g⟩=>⟨σ,d,f,g⟩) I.quiet b
def sI(a:TE):TS:=λD σ H=>a σ H D.rt
theorem aC(a:PE X e te):PS X (.Return (Ya e) Zc) (sI te):=by
 intro b s σ H D I h;exact wpAny_Return_some (bZ (a b s σ H _ I h) λv i ⟨x,c,d,f,g⟩=>⟨x,σ,c,d,f,g⟩)
def rT(c:TT)(t u:TS):TS:=λD σ H=>c σ H λb a=>if b=true then t D σ a else u D σ a
theorem bL{a b:List YZ}{f:TT}(l:PT X c f)(m:pz X a t)(n:pz X b u):PS X (.If c a b Zc) (rT f t u):=by
 intro e s σ H D I h;refine wpAny_If (bZ (l e s σ H _ I h) λd g o=>?_);obtain⟨i,j,k⟩:=o;cases d with
 |true=>exact m e g σ i D j k
 |false=>exact n e g σ i D j k
def rk:TS:=λ_ _ _=>False
theorem bE:PS X st rk:=λ_ _ _ _ _ _ h=>h.elim
end
abbrev TG:=V->St->Hp->(St->Hp->Prop)->Prop
abbrev rC:=List V->St->Hp->(St->Hp->Prop)->Prop
def PG(X:Cx)(a:YL)(t:TG):Prop:=
 ∀(b:List (Ye×YY)) (s:Yg) (σ:St) (H:Hp) (v:V) (u:Yd) (Q:St->Hp->Prop),au X b σ H s->RelV v u->t v σ H Q->
  Yj (Yn X.prog X.w) X.A (Bm a X.env u) (λ_ s'=>∃c d,au X b c d s'/\Q c d) X.xe s
def vI(X:Cx)(f:List YL)(t:rC):Prop:=
 ∀(a:List (Ye×YY)) (s:Yg) (σ:St) (H:Hp) (b:List V) (c:List Yd) (Q:St->Hp->Prop),au X a σ H s->Vals b c->t b σ H Q->
  Yj (Yn X.prog X.w) X.A (assignInOrder ((zK f X.env).map (·.2)) c) (λ_ s'=>∃d e,au X a d e s'/\Q d e) X.xe s
section
def o1(i:Nat):TG:=λv σ H Q=>Q (σ.set i (Ya v)) H
theorem cx(a:X.N.Nodup)(b:X.N[i]?=Ya x)(c:wF X.env.scope x)(d:X.fn x=true∨X.env.scope.names.lookup x=Ya .local:=by first|exact .inl rfl|exact .inr rfl|assumption):PG X (.Name x Zc) (o1 i):=by
 intro f s σ H v u Q I r h;exact Cc (mz I a b c r (λs' e=>⟨_,H,e,h⟩) d)
def wI:rC:=λa σ H Q=>a=[]/\Q σ H
def tP(t:TG)(u:rC):rC:=λa σ H Q=>∃v r,a=v::r/\t v σ H λb c=>u r b c Q
theorem oX:vI X [] wI:=by
 intro a s σ H b c Q I r h;obtain⟨e,h⟩:=h;subst e;cases r;exact assignInOrder_nil ⟨σ,H,I,h⟩
theorem gH{t:TG}{u:rC}(h1:PG X e t)(h2:vI X es u)(b:(zK (e::es) X.env).map (·.2)=Bm e X.env::(zK es X.env).map (·.2):=by rfl):vI X (e::es) (tP t u):=by
 intro a s σ H l m Q I r h;obtain⟨v,n,c,h⟩:=h;subst c;cases r with
 |cons r rr=>
  rw[b];refine assignInOrder_cons (bZ (h1 a s σ H _ _ _ I r h) λ_ d f=>?_);obtain⟨g,i,j,k⟩:=f;exact h2 a d g i _ _ Q j rr k
def ud(K:Yc)(n:Nat)(t:rC):TG:=λv σ H Q=>∃a b,v=.ref a/\cu K H a b/\b.length=n/\t b σ H Q
theorem vb{t:rC}(g:X.calm=true)(h:vI X es t)(hn:(zK es X.env).length=n:=by rfl)(c:(zK es X.env).findIdx? (·.1)=none:=by rfl):PG X (.Tuple es k Zc) (ud X.K n t):=by
 intro d s σ H v u Q I r hw;obtain⟨a,i,j,l,m,hw⟩:=hw;subst j;cases r;obtain⟨y,f,p,z⟩:=I.tuple l;refine assign_Tuple_tuple (I.ok.hd g) p (by simp[hn,←m,f.length]) c λq w=>?_;have x:au X d σ H {s with heap:=q}:=I.kept (t':=s.toks) λb o e=>w b o (YE (Yq e)) e;exact h d _ σ H i _ Q x (by simpa using f) hw
def sL(a:TE)(g:TG):TS:=λD σ H=>a σ H λx b=>g x σ b D.nx
theorem bg(a:X.N.Nodup)(b:X.N[i]?=Ya x)(c:wF X.env.scope x)(d:PE X e te)(f:AY e (Ya (.Name x Zn)) Zc.line X.env=pure false:=by rfl)(g:X.fn x=true∨X.env.scope.names.lookup x=Ya .local:=by first|exact .inl rfl|exact .inr rfl|assumption):
  PS X (.Assign [.Name x Zn] e Zc) (sL te (o1 i)):=by
 intro j s σ H D I h;refine wpAny_Assign_Name (bZ (d j s σ H _ I h) λv q k=>?_) f;obtain⟨y,l,m,n,o⟩:=k;exact mz m a b c n (λr p=>⟨_,l,p,o⟩) g
end
section
end
structure It where
 go:Nat->Hp->Prop
 yld:Nat->Hp->V->Hp->Prop
 stop:Nat->Hp->Prop
def mV(X:Cx)(a:List (Ye×YY))(H:Hp)(b:Ye):Prop:=
 H b=Yb/\b≠X.env.locals/\b∉X.fs/\(b∈X.ex∨X.s₀.heap.objs.size<=b)/\(∀x c,X.env.cells.lookup x=Ya c->c≠b)/\∀p∈X.pn++a,p.1≠b
theorem au.fpOk(I:au X Za σ H s)(a:s.heap.objs.size<=b)(hn:H' b=Yb):mV X Za H' b:=by
 refine⟨hn,zZ (Yy I.lt a),I.nofs a,.inr (YJ I.sz a),λx c e z=>?_,λp hp z=>?_⟩
 ·obtain⟨v,q⟩:=I.cell x c e;exact absurd (Yy q.lt (by rw[z];exact a)) (yE _)
 ·exact absurd (Yy (Yq (I.pin p hp).1) (by rw[z];exact a)) (yE _)
structure nD(P:Yx)(w:YA)(K:Yc)(tg:YL)(J:It)(fp:List Ye)(it:Ye)(tn:Nat->YC->Prop):Prop where
 mem:it∈fp
 obj:∀i h,tn i h->∀b∈fp,∃o,h.get? b=Ya o/\∀v,o.data≠.cell v
 keep:∀i h h',tn i h->(∀b∈fp,∀o,h.get? b=Ya o->h'.get? b=Ya o)->tn i h'
 item:∀(X:Cx),X.prog=P->X.w=w->X.K=K->X.calm=true->∀(i:Nat) (Za:List (Ye×YY)) (s:Yg) (σ:St) (H:Hp) (E:Yd->Yg->Prop),au X Za σ H s->(∀b∈fp,mV X Za H b)->tn i s.heap->J.go i H->
  Yj (Yn P w) X.A (zu (.ref it)) (λr s1=>∃u,r=Ya u/\
   Yj (Yn P w) X.A (z0 tg (.ref it) u) (λ_ s2=>∃x H',au X Za σ H' s2/\RelV x u/\J.yld i H x H'/\tn (i+ 1) s2.heap/\∀b∈fp,H' b=Yb) E s1) E s
 done:∀(X:Cx),X.prog=P->X.w=w->X.K=K->X.calm=true->∀(i:Nat) (Za:List (Ye×YY)) (s:Yg) (σ:St) (H:Hp) (E:Yd->Yg->Prop),au X Za σ H s->(∀b∈fp,mV X Za H b)->tn i s.heap->J.stop i H->
  Yj (Yn P w) X.A (zu (.ref it)) (λr s1=>r=Yb/\au X Za σ H s1) E s
 self:∀(A:YX) (i:Nat) (s:Yg) (Q:Yd->Yg->Prop) (E:Yd->Yg->Prop),tn i s.heap->Q (.ref it) s->Yj (Yn P w) A (CF (.ref it)) Q E s
abbrev TI:=St->Hp->(It->Hp->Prop)->Prop
def yn(X:Cx)(d:List (Ye×YY))(σ:St)(i:YL)(R:It->Hp->Prop)(a:Yd)(e:Yg):Prop:=
 ∃(f:Ye) (g:List Ye) (h:Nat->YC->Prop) (J:It) (c:Hp),a=.ref f/\au X d σ c e/\nD X.prog X.w X.K i J g f h/\h 0 e.heap/\(∀b∈g,mV X d c b)/\R J c
def PI(X:Cx)(b c:YL)(d:TI):Prop:=
 ∀(a:List (Ye×YY)) (s:Yg) (σ:St) (H:Hp) (R:It->Hp->Prop),au X a σ H s->d σ H R->
  Yj (Yn X.prog X.w) X.A (Y4 c X.env) (λv e=>Yj (Yn X.prog X.w) X.A (CF v) (yn X a σ b R) X.xe e) X.xe s
theorem mY{o:YY}{n:String}{vs:Array Yd}{Q:Unit->Yg->Prop}(b:s.heap.get? it=Ya o)(c:o.cls=.type n)(hd:o.data=.fields vs)(hn:["enumerate","zip","dict_itemiterator","dict_reverseitemiterator","odict_iterator","itertools.zip_longest","itertools.pairwise"].contains n=false)(a:Q () s):Yj M A (z0 tg (.ref it) u) Q E s:=by
 unfold z0;cases tg<;>first
  |exact Yl a
  |(cases u<;>first
    |exact Yl a
    |(refine Yf (wpAny_load b ?_)
      rw[c,hd];show Yj M A (if(["enumerate","zip","dict_itemiterator","dict_reverseitemiterator","odict_iterator","itertools.zip_longest","itertools.pairwise"].contains n&&vs[0]?==Ya (yJ _))=true then _ else _) Q E s;rw[if_neg (by intro h;rw[hn,Ah]at h;cases h)];exact Yl a))
noncomputable def tm(K:Yc)(a:Ye):It:=
 ⟨λi H=>∃b x,bP K H a b/\b[i]?=Ya x,λi H x c=>c=H/\∀b,bP K H a b->b[i]?=Ya x,λi H=>∃b,bP K H a b/\b.length<=i⟩
noncomputable def tf(K:Yc)(a:Ye):It:=
 ⟨λi H=>∃b x,cu K H a b/\b[i]?=Ya x,λi H x c=>c=H/\∀b,cu K H a b->b[i]?=Ya x,λi H=>∃b,cu K H a b/\b.length<=i⟩
noncomputable def rD(lo:Int)(n:Nat):It:=⟨λi _=>i<n,λi H x a=>a=H/\x=.int (lo+ i),λi _=>n<=i⟩
theorem pQ{K:Yc}(a it:Ye):nD P w K tg (tm K a) [it] it (λi h=>h.IsListIter it a i) where
 mem:=by simp
 obj:=λi h st b f=>by
  have e:b=it:=by simpa using f
  subst e;obtain⟨o,e,c,d⟩:=st;exact⟨o,e,λv z=>by rw[d]at z;cases z⟩
 keep:=λi h j st k=>st.at λo e=>k it (by simp) o e
 item:=by
  intro X n hw q G i J s σ H E I l st r;subst n hw q;obtain⟨L,x,m,t⟩:=r;obtain⟨M,y,p,N⟩:=I.list m;obtain⟨u,O,Q⟩:=y.get t;obtain⟨A,B,R,C,D,F⟩:=l it (by simp);refine wpAny_pyNext_list_item st p.isList (x:=u) (by simpa using O) λj g S=>?_;have T:au X J σ H {s with heap:=j}:=I.turned (t':=s.toks) (λb o f e=>(S.2 b f).trans e) A B C D F;obtain⟨o,e,c,d⟩:=id g;exact⟨u,rfl,mY (s:={s with heap:=j}) e c d (by decide) ⟨x,H,T,Q,⟨rfl,λW U=>by rw[I.list_inj U m];exact t⟩,g,λb f=>(l b f).1⟩⟩
 done:=by
  intro X n hw q G i J s σ H E I l st r;subst n hw q;obtain⟨L,m,t⟩:=r;obtain⟨M,y,p,N⟩:=I.list m;obtain⟨A,B,R,C,D,F⟩:=l it (by simp);have Y:=y.length;exact wpAny_pyNext_list_end (I.ok.hd G) st p.isList (by simp;omega) λj V=>⟨rfl,I.turned (t':=s.toks) (λb o f e=>V b o f e) A B C D F⟩
 self:=λ_ _ _ _ _ st h=>wpAny_pyIter_listiter st h
theorem ni{K:Yc}(a it:Ye):nD P w K tg (tf K a) [it] it (λi h=>h.IsTupleIter it a i) where
 mem:=by simp
 obj:=λi h st b f=>by
  have e:b=it:=by simpa using f
  subst e;obtain⟨o,e,c,d⟩:=st;exact⟨o,e,λv z=>by rw[d]at z;cases z⟩
 keep:=λi h j st k=>st.at λo e=>k it (by simp) o e
 item:=by
  intro X n hw q J i L s σ H E I l st r;subst n hw q;obtain⟨M,x,m,t⟩:=r;obtain⟨y,A,p,N⟩:=I.tuple m;obtain⟨u,O,Q⟩:=A.get t;obtain⟨B,C,R,D,F,G⟩:=l it (by simp);refine wpAny_pyNext_tuple_item st (show s.heap.IsTuple a y.toArray from p) (x:=u) (by simpa using O) λj g S=>?_;have T:au X L σ H {s with heap:=j}:=I.turned (t':=s.toks) (λb o f e=>(S.2 b f).trans e) B C D F G;obtain⟨o,e,c,d⟩:=id g;exact⟨u,rfl,mY (s:={s with heap:=j}) e c d (by decide) ⟨x,H,T,Q,⟨rfl,λW U=>by rw[I.tuple_inj U m];exact t⟩,g,λb f=>(l b f).1⟩⟩
 done:=by
  intro X n hw q J i L s σ H E I l st r;subst n hw q;obtain⟨M,m,t⟩:=r;obtain⟨y,A,p,N⟩:=I.tuple m;obtain⟨B,C,R,D,F,G⟩:=l it (by simp);have Y:=A.length;exact wpAny_pyNext_tuple_end (I.ok.hd J) st (show s.heap.IsTuple a y.toArray from p) (by simp;omega) λj V=>⟨rfl,I.turned (t':=s.toks) (λb o f e=>V b o f e) B C D F G⟩
 self:=λ_ _ _ _ _ st h=>wpAny_pyIter_tupleiter st h
theorem nq{K:Yc}(it:Ye)(lo:Int)(n:Nat):nD P w K tg (rD lo n) [it] it (λi h=>Bd h it (lo+ (i:Nat)*1) ((n:Int)-(i:Nat)) 1) where
 mem:=by simp
 obj:=λi h st b a=>by
  have e:b=it:=by simpa using a
  subst e;exact⟨_,st,λv z=>by
   have B:Data.fields _=Data.cell v:=z;cases B⟩
 keep:=λi h d st k=>k it (by simp) _ st
 item:=by
  intro X g hw j l i y s σ H E I f st m;subst g hw j;obtain⟨p,q,C,r,u,x⟩:=f it (by simp);have W:=Walks.range (prog:=X.prog) (w:=X.w) (I.ok.hd l) it lo 1 n;refine W.item i s _ _ m st λv d A D c F=>?_;obtain⟨t,rfl⟩:=D;have G:au X y σ H {s with heap:=d,toks:=A}:=I.turned (λb o a e=>F b o (by simpa using a) e) p q r u x;refine⟨_,rfl,mY (s:={s with heap:=d,toks:=A}) (n:="range_iterator") c rfl rfl (by decide) ⟨.int (lo+ i),H,G,⟨t,?_⟩,⟨rfl,rfl⟩,c,λb a=>(f b a).1⟩⟩;rw[Int.mul_one]
 done:=by
  intro X g hw j l i y s σ H E I f st m;subst g hw j;obtain⟨p,q,C,r,u,x⟩:=f it (by simp);exact Be (I.ok.hd l) st (by have:n<=i:=m;omega) λd J=>⟨rfl,I.turned (t':=s.toks) (λb o a e=>J b o a e) p q r u x⟩
 self:=λ_ _ _ _ _ st h=>Bf st h
section
def qB(K:Yc)(c:TE):TI:=λσ H R=>c σ H λx b=>∃a,x=.ref a/\(∃d,bP K b a d)/\R (tm K a) b
def uy(K:Yc)(c:TE):TI:=λσ H R=>c σ H λx b=>∃a,x=.ref a/\(∃d,cu K b a d)/\R (tf K a) b
theorem rL(f:PE X l tl):PI X tg l (qB X.K tl):=by
 intro g s σ H R I h;refine bZ (f g s σ H _ I h) λv c i=>?_;obtain⟨x,j,d,k,m⟩:=i;obtain⟨a,e,⟨t,n⟩,q⟩:=m;subst e;cases k;obtain⟨u,w,p,y⟩:=d.list n;refine AA p.isList ?_;refine⟨c.heap.objs.size,[c.heap.objs.size],_,_,j,rfl,d.kept (t':=c.toks) λb o e=>Yi _ e,pQ a _,⟨_,Yo _ rfl,rfl,rfl⟩,λb r=>?_,q⟩;have e:b=c.heap.objs.size:=by simpa using r
 subst e;exact d.fpOk (Ym _) (d.hok.fresh (Ym _))
theorem uu(f:PE X l tl):PI X tg l (uy X.K tl):=by
 intro g s σ H R I h;refine bZ (f g s σ H _ I h) λv c i=>?_;obtain⟨x,j,d,k,m⟩:=i;obtain⟨a,e,⟨u,n⟩,q⟩:=m;subst e;cases k;obtain⟨r,w,p,y⟩:=d.tuple n;refine wpAny_pyIter_tuple (show c.heap.IsTuple a r.toArray from p) ?_;refine⟨c.heap.objs.size,[c.heap.objs.size],_,_,j,rfl,d.kept (t':=c.toks) λb o e=>Yi _ e,ni a _,⟨_,Yo _ rfl,rfl,rfl⟩,λb t=>?_,q⟩;have e:b=c.heap.objs.size:=by simpa using t
 subst e;exact d.fpOk (Ym _) (d.hok.fresh (Ym _))
theorem qQ{R:It->Hp->Prop}{lo a:Int}{t u v:Bl}{tk:Nat}(I:au X Za σ H s)(h1:-(2^62)<=lo)(h2:lo<2^62)(h3:-(2^62)<=a)(h4:a<2^62)(q:R (rD lo (a-lo).toNat) H):Yj (Yn X.prog X.w) X.A (CF (.ref s.heap.objs.size)) (yn X Za σ tg R) E {s with heap:=s.heap.push {cls:=.type "range",data:=.fields #[.int lo t,.int a u,.int 1 v]},toks:=tk}:=by
 refine BY (IsRange.new ..) (small_one h1 h2 h3 h4) ?_;have c:au X Za σ H {s with heap:=s.heap.push {cls:=.type "range",data:=.fields #[.int lo t,.int a u,.int 1 v]},toks:=tk}:=I.kept λb o e=>Yi _ e;refine⟨(s.heap.push {cls:=.type "range",data:=.fields #[.int lo t,.int a u,.int 1 v]}).objs.size,[(s.heap.push {cls:=.type "range",data:=.fields #[.int lo t,.int a u,.int 1 v]}).objs.size],_,_,H,rfl,
  c.kept (t':=tk) λb o e=>Yi _ e,nq _ lo (a-lo).toNat,?_,λb d=>?_,q⟩
 ·have f:lo+ ((0:Nat):Int)*1=lo:=by simp
  have g:(((a-lo).toNat:Nat):Int)-((0:Nat):Int)=YQ lo a 1:=by rw[rangeSize_one];split<;>omega
  show Bd _ _ (lo+ ((0:Nat):Int)*1) ((((a-lo).toNat:Nat):Int)-((0:Nat):Int)) 1;rw[f,g];exact Yo _ rfl
 ·have e:b=(s.heap.push {cls:=.type "range",data:=.fields #[.int lo t,.int a u,.int 1 v]}).objs.size:=by simpa using d
  subst e;exact c.fpOk (Ym _) (c.hok.fresh (Ym _))
def tF(a:TA):TI:=λσ H R=>a σ H λb c=>∃j:Int,b=[.int j]/\-(2^62)<=j/\j<2^62/\R (rD 0 j.toNat) c
theorem kD{a:YL}{c:TA}(d:Gl X "range")(hm:X.mg "range"=Yb)(f:PA X [a] c)(g:YK [a] X.env=[(false,Y4 a X.env)]:=by rfl):PI X tg (.Call (.Name "range" p) [a] [] Zc) (tF c):=by
 intro i s σ H R I h;refine Call_ (jZ I d hm boot_range (zh (bZ (f Zc i s σ H _ I h) λo u k=>?_) g rfl));obtain⟨v,w,l,m,b⟩:=k;obtain⟨j,e,b,n,q⟩:=b;subst e;cases m with
 |cons r rr=>
  cases rr;obtain⟨t,rfl⟩:=r;exact call_range_1 (qQ l (by omega) (by omega) b n (by simpa using q))
def sh(d:TI)(g:TG)(e:TS):TS:=λD σ H=>d σ H λJ f=>∃W:Nat->Nat->St->Hp->Prop,(∃m,W 0 m σ f)/\∀i m σ H,W i m σ H->
 (J.stop i H/\D.nx σ H)∨(J.go i H/\∃N:St->Hp->Prop,(∀b a,N b a->∃c,c<m/\W (i+ 1) c b a)/\∀x a,J.yld i H x a->g x σ a λh j=>e {D with nx:=N,ct:=N,bk:=D.nx} h j)
noncomputable def kh(a:List Ye)(h:YC):List (Ye×YY):=a.filterMap λb=>(h.get? b).map λo=>(b,o)
theorem eK{o:YY}(a:b∈fp)(e:h.get? b=Ya o):(b,o)∈kh fp h:=BZ.mpr ⟨b,a,by rw[e];rfl⟩
theorem pA{p:Ye×YY}(hp:p∈kh fp h):p.1∈fp/\h.get? p.1=Ya p.2:=by
 obtain⟨b,a,e⟩:=BZ.mp hp;cases q:h.get? b with
 |none=>rw[q]at e;cases e
 |some o=>
  rw[q]at e;have c:(b,o)=p:=YS e;subst c;exact⟨a,q⟩
theorem au.pinned(I:au X Za σ H s)(f:∀b∈fp,mV X Za H b)(g:∀b∈fp,∃o,s.heap.get? b=Ya o/\∀v,o.data≠.cell v):au X (Za++kh fp s.heap) σ H s:=
 I.pins_of λp hp=>(yL.mp hp).elim (λz=>I.pin p (YM _ z)) λz=>by
  obtain⟨a,e⟩:=pA z;obtain⟨h,i,j,_⟩:=f p.1 a;obtain⟨o,c,d⟩:=g p.1 a;rw[e]at c;cases c;exact⟨e,h,i,j,d⟩
theorem au.unpinned{pl:List (Ye×YY)}(I:au X (Za++pl) σ H s):au X Za σ H s:=I.pins_of λp hp=>I.pin p (YM _ (BD _ hp))
theorem n6{L:YL}{S:TI}{g:TG}{U:TS}(hp:PassesOwn (Yn X.prog X.w) X.A X.env X.xe)(V:X.calm=true)(hi:PI X tg L S)(hg:PG X tg g)(a:pz X Zo U)(hs:∀x,AB L X.env x=pure x:=by intro _;rfl):PS X (.For tg L Zo [] Zc) (sh S g U):=by
 intro t s σ H D I h;refine wpAny_For (bZ (hi t s σ H _ I h) λv s1 h1=>bZ h1 λab s2 h2=>?_) hs;obtain⟨it,z,Y,J,H2,e,I2,T,M,Z,W,⟨m0,w0⟩,A⟩:=h2;subst e
 -- what stays true of the iterator's objects through the loop
 have c:∀{p:Hp},(∀b∈z,p b=Yb)->∀b∈z,mV X t p b:=λhn b a=>⟨hn b a,(Z b a).2⟩;refine codeAny_forLoop_any (λn s'=>∃i B p,au X t B p s'/\Y i s'.heap/\(∀b∈z,p b=Yb)/\W i n B p) ?_ m0 ⟨0,σ,H2,I2,M,λb a=>(Z b a).1,w0⟩;rintro n s3 ⟨i,C,K,I3,E,F,w3⟩;rcases A i n C K w3 with⟨stop,qn⟩|⟨go,N,hN,step⟩
 ·refine zC hp (bZ (T.done X rfl rfl rfl V i t s3 C K X.xe I3 (c F) E stop) λr s4 w=>?_);obtain⟨O,I4⟩:=w;subst O;exact AX ⟨C,K,I4,qn⟩
 ·refine zC hp (bZ (T.item X rfl rfl rfl V i t s3 C K X.xe I3 (c F) E go) λr s4 w=>?_);obtain⟨u,O,h4⟩:=w;subst O;refine zC hp (bZ h4 λ_ s5 w=>?_);obtain⟨x,H5,I5,r5,y5,y,P⟩:=w;have Q:=I5.pinned (c P) (T.obj _ _ y);refine zC hp (bZ (hg _ s5 C H5 x u _ Q r5 (step x H5 y5)) λ_ s6 w=>?_);obtain⟨σ6,H6,I6,q6⟩:=w;refine zC hp (bZ (a _ s6 σ6 H6 _ I6 q6) λf R q=>?_);have again:∀{j:St} {k:Hp},au X (t++kh z s5.heap) j k R->N j k->∃m,m<n/\∃i B p,au X t B p R/\Y i R.heap/\(∀b∈z,p b=Yb)/\W i m B p:=fun{j k} l G=>by
   obtain⟨m',hm,w7⟩:=hN j k G;refine⟨m',hm,i+ 1,j,k,l.unpinned,T.keep _ _ _ y λb a o e=>(l.pin (b,o) (YM _ (YM _ (eK a e)))).1,λb a=>?_,w7⟩;obtain⟨o,e,d⟩:=T.obj _ _ y b a;exact(l.pin (b,o) (YM _ (YM _ (eK a e)))).2.1
  cases f with
  |next=>obtain⟨j,k,l,G⟩:=q;exact again l G
  |cont=>obtain⟨j,k,l,G⟩:=q;exact again l G
  |brk=>obtain⟨j,k,l,q⟩:=q;exact⟨j,k,l.unpinned,q⟩
  |ret v=>obtain⟨x7,j,k,l,r7,q⟩:=q;exact⟨x7,j,k,l.unpinned,r7,q⟩
end
theorem xl{K:Yc}{g:TG}{j:TS}(b:Nat->St->Hp->Prop)(h0:b 0 σ H)(l:∀i σ H,i<=xs.length->b i σ H->bP K H a xs)(n:∀i x σ H,xs[i]?=Ya x->b i σ H->g x σ H λd f=>j {D with nx:=b (i+ 1),ct:=b (i+ 1),bk:=D.nx} d f)(hd:∀σ H,b xs.length σ H->D.nx σ H):
  ∃W:Nat->Nat->St->Hp->Prop,(∃m,W 0 m σ H)/\∀i m σ H,W i m σ H->
   ((tm K a).stop i H/\D.nx σ H)∨((tm K a).go i H/\∃N:St->Hp->Prop,(∀h H',N h H'->∃k,k<m/\W (i+ 1) k h H')/\∀x H',(tm K a).yld i H x H'->g x σ H' λd f=>j {D with nx:=N,ct:=N,bk:=D.nx} d f):=by
 refine⟨λi m σ H=>m=xs.length-i/\i<=xs.length/\b i σ H,⟨xs.length,by simp,Y5 _,h0⟩,?_⟩;rintro i m σ H ⟨rfl,o,p⟩;have q:=l i σ H o p;by_cases c:i<xs.length
 ·refine .inr ⟨⟨xs,xs[i],q,by simp[c]⟩,b (i+ 1),λh H' r=>⟨xs.length-(i+ 1),by omega,rfl,c,r⟩,λx H' y=>?_⟩;obtain⟨e,y⟩:=y;subst e;exact n i x σ _ (y xs q) p
 ·have e:i=xs.length:=by omega
  subst e;exact .inl ⟨⟨xs,q,Ym _⟩,hd σ H p⟩
theorem sU{K:Yc}{g:TG}{j:TS}(b:Nat->St->Hp->Prop)(h0:b 0 σ H)(l:∀i σ H,i<=xs.length->b i σ H->cu K H a xs)(n:∀i x σ H,xs[i]?=Ya x->b i σ H->g x σ H λd f=>j {D with nx:=b (i+ 1),ct:=b (i+ 1),bk:=D.nx} d f)(hd:∀σ H,b xs.length σ H->D.nx σ H):
  ∃W:Nat->Nat->St->Hp->Prop,(∃m,W 0 m σ H)/\∀i m σ H,W i m σ H->
   ((tf K a).stop i H/\D.nx σ H)∨((tf K a).go i H/\∃N:St->Hp->Prop,(∀h H',N h H'->∃k,k<m/\W (i+ 1) k h H')/\∀x H',(tf K a).yld i H x H'->g x σ H' λd f=>j {D with nx:=N,ct:=N,bk:=D.nx} d f):=by
 refine⟨λi m σ H=>m=xs.length-i/\i<=xs.length/\b i σ H,⟨xs.length,by simp,Y5 _,h0⟩,?_⟩;rintro i m σ H ⟨rfl,o,p⟩;have q:=l i σ H o p;by_cases c:i<xs.length
 ·refine .inr ⟨⟨xs,xs[i],q,by simp[c]⟩,b (i+ 1),λh H' r=>⟨xs.length-(i+ 1),by omega,rfl,c,r⟩,λx H' y=>?_⟩;obtain⟨e,y⟩:=y;subst e;exact n i x σ _ (y xs q) p
 ·have e:i=xs.length:=by omega
  subst e;exact .inl ⟨⟨xs,q,Ym _⟩,hd σ H p⟩
theorem pF{lo:Int}{g:TG}{h:TS}(a:Nat->St->Hp->Prop)(h0:a 0 σ H)(k:∀i σ H,i<n->a i σ H->g (.int (lo+ i)) σ H λc d=>h {D with nx:=a (i+ 1),ct:=a (i+ 1),bk:=D.nx} c d)(hd:∀σ H,a n σ H->D.nx σ H):
  ∃W:Nat->Nat->St->Hp->Prop,(∃m,W 0 m σ H)/\∀i m σ H,W i m σ H->
   ((rD lo n).stop i H/\D.nx σ H)∨((rD lo n).go i H/\∃N:St->Hp->Prop,(∀f H',N f H'->∃j,j<m/\W (i+ 1) j f H')/\∀x H',(rD lo n).yld i H x H'->g x σ H' λc d=>h {D with nx:=N,ct:=N,bk:=D.nx} c d):=by
 refine⟨λi m σ H=>m=n-i/\i<=n/\a i σ H,⟨n,by simp,Y5 _,h0⟩,?_⟩;rintro i m σ H ⟨rfl,o,p⟩;by_cases b:i<n
 ·refine .inr ⟨b,a (i+ 1),λf H' l=>⟨n-(i+ 1),by omega,rfl,b,l⟩,λx H' y=>?_⟩;obtain⟨e,y⟩:=y;subst e y;exact k i σ _ b p
 ·have e:i=n:=by omega
  subst e;exact .inl ⟨Ym _,hd σ H p⟩
abbrev R2:=V->V->Hp->VK->Prop
variable{r:R2}
def iY(X:Cx)(f:Yd->Yd->BU Yd)(r:R2):Prop:=
 ∀(a:List (Ye×YY)) (s:Yg) (σ:St) (H:Hp) (x y:V) (v u:Yd) (Q:VK),au X a σ H s->RelV x v->RelV y u->r x y H Q->
  Yj (Yn X.prog X.w) X.A (f v u) (EP X a σ Q) X.xe s
def xN(X:Cx)(f:Yd->BU Yd)(r:V->Hp->VK->Prop):Prop:=
 ∀(a:List (Ye×YY)) (s:Yg) (σ:St) (H:Hp) (x:V) (v:Yd) (Q:VK),au X a σ H s->RelV x v->r x H Q->
  Yj (Yn X.prog X.w) X.A (f v) (EP X a σ Q) X.xe s
def cU(X:Cx)(f:Yd)(r:List V->Hp->VK->Prop):Prop:=
 ∀(a:List (Ye×YY)) (s:Yg) (σ:St) (H:Hp) (b:List V) (c:List Yd) (Q:VK),au X a σ H s->Vals b c->r b H Q->
  Yj (Yn X.prog X.w) X.A (call f c) (EP X a σ Q) X.xe s
def xT(X:Cx)(r:V->Hp->(Bool->Hp->Prop)->Prop):Prop:=
 ∀(a:List (Ye×YY)) (s:Yg) (σ:St) (H:Hp) (x:V) (v:Yd) (Q:Bool->Hp->Prop),au X a σ H s->RelV x v->r x H Q->
  Yj (Yn X.prog X.w) X.A (truthy v) (TP X a σ Q) X.xe s
def wU(r:R2)(a b:TE):TE:=λσ H Q=>a σ H λx c=>b σ c λy d=>r x y d Q
def yl(r:V->Hp->VK->Prop)(a:TE):TE:=λσ H Q=>a σ H λx b=>r x b Q
def rI(C:Int->Int->Prop)(g:Int->Int->V):R2:=λx y H Q=>∃i j,x=.int i/\y=.int j/\C i j/\Q (g i j) H
def uD(g:Int->Int->V):R2:=λx y H Q=>∃i j,x=.int i/\y=.int j/\Q (g i j) H
def rU(g:Int->V):V->Hp->VK->Prop:=λx H Q=>∃i,x=.int i/\Q (g i) H
section
variable{a b:YL}
theorem ug(i:PE X a ta)(j:PE X b tb)(I:au X Za σ H s)(h:ta σ H λx e=>tb σ e λy c=>R x y c)(k:∀v u d x y c,au X Za σ c d->RelV x v->RelV y u->R x y c->Yj (Yn X.prog X.w) X.A (f v u) Q X.xe d):
  Yj (Yn X.prog X.w) X.A (Y4 a X.env) (λv l=>Yj (Yn X.prog X.w) X.A (Y4 b X.env) (λu m=>Yj (Yn X.prog X.w) X.A (f v u) Q X.xe m) X.xe l) X.xe s:=by
 refine bZ (i Za s σ H _ I h) λv n g=>?_;obtain⟨x,e,o,p,q⟩:=g;refine bZ (j Za n σ e _ o q) λu d g=>?_;obtain⟨y,c,r,t,w⟩:=g;exact k v u d x y c r p t w
theorem aw{c:Operator}(d:iY X (zo c) r)(e:PE X a ta)(f:PE X b tb):PE X (.BinOp a c b Zc) (wU r ta tb):=by
 intro g s σ H Q I h;exact wpAny_BinOp (ug e f I h λv u i x y j k l m q=>d g i σ j x y v u Q k l m q)
theorem wR{b:UnaryOp}{r:V->Hp->VK->Prop}(d:xN X (unaryOp b) r)(e:PE X a ta):PE X (.UnaryOp b a Zc) (yl r ta):=by
 intro c s σ H Q I h;exact UnaryOp_ (bZ (e c s σ H _ I h) λv f ⟨x,g,i,j,k⟩=>d c f σ g x v Q i j k)
theorem vT{C:Int->Int->Prop}(rule:∀(i j:Int) (t u:Bl) (s:Yg) (Q:Yd->Yg->Prop) (E:Yd->Yg->Prop),C i j->Q (.int (g i j) s.toks) {s with toks:=s.toks+ 1}->Yj (Yn X.prog X.w) X.A (f (.int i t) (.int j u)) Q E s):
  iY X f (rI C λi j=>.int (g i j)):=by
 intro e s σ H x y v u Q I a b h;obtain⟨i,j,rfl,rfl,c,q⟩:=h;obtain⟨t,rfl⟩:=a;obtain⟨d,rfl⟩:=b;exact rule i j t d s _ _ c ⟨.int (g i j),H,I.tok _,⟨_,rfl⟩,q⟩
theorem wG(rule:∀(i j:Int) (t u:Bl) (s:Yg) (Q:Yd->Yg->Prop) (E:Yd->Yg->Prop),Q (.int (g i j) s.toks) {s with toks:=s.toks+ 1}->Yj (Yn X.prog X.w) X.A (f (.int i t) (.int j u)) Q E s):
  iY X f (uD λi j=>.int (g i j)):=by
 intro d s σ H x y v u Q I a b h;obtain⟨i,j,rfl,rfl,q⟩:=h;obtain⟨t,rfl⟩:=a;obtain⟨c,rfl⟩:=b;exact rule i j t c s _ _ ⟨.int (g i j),H,I.tok _,⟨_,rfl⟩,q⟩
theorem vM{g:Int->Int->Bool}(rule:∀(i j:Int) (t u:Bl) (s:Yg) (Q:Yd->Yg->Prop) (E:Yd->Yg->Prop),Q (.bool (g i j)) s->Yj (Yn X.prog X.w) X.A (f (.int i t) (.int j u)) Q E s):
  iY X f (uD λi j=>.bl (g i j)):=by
 intro d s σ H x y v u Q I a b h;obtain⟨i,j,rfl,rfl,q⟩:=h;obtain⟨t,rfl⟩:=a;obtain⟨c,rfl⟩:=b;exact rule i j t c s _ _ ⟨.bl (g i j),H,I,rfl,q⟩
def x5(i j:Int):Prop:=0<j/\j<1073741824
def xS(i j:Int):Prop:=0<=j/\j<=1000000/\i.natAbs<2^64
def nX(i j:Int):Prop:=(-(2^64)<i/\i<2^64)∨(-(2^64)<j/\j<2^64)
theorem nX.ok{i j:Int}(h:nX i j):IntMulOk i j:=by
 rcases h with⟨h1,h2⟩|⟨h1,h2⟩
 ·exact .of_left (C9 h1 h2)
 ·exact .of_right (C9 h1 h2)
theorem gu:iY X (zo .Add) (uD λi j=>.int (i+ j)):=wG λ_ _ _ _ _ _ _ q=>add_int q
theorem iJ:iY X (zo .Sub) (uD λi j=>.int (i-j)):=wG λ_ _ _ _ _ _ _ q=>sub_int q
theorem lG:iY X (zo .Mult) (rI nX λi j=>.int (i*j)):=vT λ_ _ _ _ _ _ _ a q=>mul_int q a.ok
theorem eI:iY X (zo .FloorDiv) (rI x5 λi j=>.int (i / j)):=vT λi j _ _ _ _ _ a q=>by
 have h1:(0:Int)<j:=a.1;have h2:j<1073741824:=a.2;exact Dj (by omega) (by rw[Ar i (by omega)];exact q) (.inl (PyProof.noPylong_small (by omega)))
theorem cB:iY X (zo .Mod) (rI (λ_ j=>0<j) λi j=>.int (i%j)):=vT λi j _ _ _ _ _ a q=>by
 have h1:(0:Int)<j:=a;exact mod_int' (by omega) (by rw[Int.fmod_eq_emod_of_nonneg i (by omega)];exact q)
theorem lh:iY X (zo .Pow) (rI xS λi j=>.int (i^j.toNat)):=vT λ_ _ _ _ _ _ _ a q=>pow_int_small a.1 a.2.1 a.2.2 q
theorem yr{f:Yd->BU Yd}{g:Int->Int}
  (rule:∀(i:Int) (t:Bl) (s:Yg) (Q:Yd->Yg->Prop) (E:Yd->Yg->Prop),Q (.int (g i) s.toks) {s with toks:=s.toks+ 1}->Yj (Yn X.prog X.w) X.A (f (.int i t)) Q E s):
  xN X f (rU λi=>.int (g i)):=by
 intro b s σ H x v Q I a h;obtain⟨i,rfl,q⟩:=h;obtain⟨t,rfl⟩:=a;exact rule i t s _ _ ⟨.int (g i),H,I.tok _,⟨_,rfl⟩,q⟩
theorem uF:xN X (unaryOp .USub) (rU λi=>.int (-i)):=yr λ_ _ _ _ _ q=>neg_int q
end
noncomputable def wN:V->V->Bool
 | .non,.non=>true| .non,.int _=>true| .int _,.non=>true| .non,.bl _=>true| .bl _,.non=>true| .non,.str _=>true| .str _,.non=>true
 | .int _,.int _=>true| .bl _,.bl _=>true| .str _,.str _=>true| .byt _,.byt _=>true
 | .int _,.str _=>true| .str _,.int _=>true| .bl _,.str _=>true| .str _,.bl _=>true
 |_,_=>false
def x9:R2:=λx y H Q=>wN x y=true/\Q (.bl (decide (x=y))) H
def xO:R2:=λx y H Q=>wN x y=true/\Q (.bl (!decide (x=y))) H
theorem oN{i j:Int}:decide (V.int i=V.int j)=(i==j):=by
 rw[zD];simp
theorem qi{i j:Bool}:decide (V.bl i=V.bl j)=(i==j):=by
 rw[zD];simp
theorem oW{i j:Yh}:decide (V.str i=V.str j)=(i==j):=by
 rw[zD];simp
theorem oF{i j:Array UInt8}:decide (V.byt i=V.byt j)=(i.toList==j.toList):=by
 rw[zD];cases i;cases j;simp
section
variable{a b:YL}
theorem aO{Q:VK}{k a:Bool}(I:au X Za σ H s)(q:Q (.bl k) H)(e:k=a):EP X Za σ Q (.bool a) s:=by
 subst e;exact⟨.bl k,H,I,rfl,q⟩
theorem iq:iY X (sg .Eq) x9:=by
 intro e s σ H x y v u Q I d a h;obtain⟨c,q⟩:=h;cases x with
 |non=>
  cases d;cases y with
  |non=>cases a;exact PySem.EqNone.eq_none_none (aO I q (by simp))
  |bl j=>cases a;exact PySem.EqNone.eq_none_bool (aO I q (by simp))
  |int j=>obtain⟨b,rfl⟩:=a;exact PySem.EqNone.eq_none_int (aO I q (by simp))
  |str j=>obtain⟨b,rfl⟩:=a;exact PySem.EqNone.eq_none_str (aO I q (by simp))
  |_=>exact absurd (show false=true from c) Yt
 |bl i=>
  cases d;cases y with
  |non=>cases a;exact PySem.EqNone.eq_bool_none (aO I q (by simp))
  |bl j=>cases a;exact eq_bool (aO I q qi)
  |str j=>obtain⟨b,rfl⟩:=a;exact PySem.EqMixed.eq_bool_str (aO I q (by simp))
  |_=>exact absurd (show false=true from c) Yt
 |int i=>
  obtain⟨t,rfl⟩:=d;cases y with
  |non=>cases a;exact PySem.EqNone.eq_int_none (aO I q (by simp))
  |int j=>obtain⟨b,rfl⟩:=a;exact eq_int (aO I q oN)
  |str j=>obtain⟨b,rfl⟩:=a;exact PySem.EqMixed.eq_int_str (aO I q (by simp))
  |_=>exact absurd (show false=true from c) Yt
 |str i=>
  obtain⟨t,rfl⟩:=d;cases y with
  |non=>cases a;exact PySem.EqNone.eq_str_none (aO I q (by simp))
  |bl j=>cases a;exact PySem.EqMixed.eq_str_bool (aO I q (by simp))
  |int j=>obtain⟨b,rfl⟩:=a;exact PySem.EqMixed.eq_str_int (aO I q (by simp))
  |str j=>obtain⟨b,rfl⟩:=a;exact eq_str (aO I q oW)
  |_=>exact absurd (show false=true from c) Yt
 |byt i=>
  obtain⟨t,rfl⟩:=d;cases y with
  |byt j=>obtain⟨b,rfl⟩:=a;exact PySem.W.eq_bytes (aO I q oF)
  |_=>exact absurd (show false=true from c) Yt
 |_=>cases y<;>exact absurd (show false=true from c) Yt
theorem jh:iY X (sg .NotEq) xO:=by
 intro e s σ H x y v u Q I d a h;obtain⟨c,q⟩:=h;cases x with
 |non=>
  cases d;cases y with
  |non=>cases a;exact PySem.EqNone.ne_none_none (aO I q (by simp))
  |bl j=>cases a;exact PySem.EqNone.ne_none_bool (aO I q (by simp))
  |int j=>obtain⟨b,rfl⟩:=a;exact PySem.EqNone.ne_none_int (aO I q (by simp))
  |str j=>obtain⟨b,rfl⟩:=a;exact PySem.EqNone.ne_none_str (aO I q (by simp))
  |_=>exact absurd (show false=true from c) Yt
 |bl i=>
  cases d;cases y with
  |non=>cases a;exact PySem.EqNone.ne_bool_none (aO I q (by simp))
  |bl j=>cases a;exact ne_bool (aO I q (congrArg not qi))
  |str j=>obtain⟨b,rfl⟩:=a;exact PySem.EqMixed.ne_bool_str (aO I q (by simp))
  |_=>exact absurd (show false=true from c) Yt
 |int i=>
  obtain⟨t,rfl⟩:=d;cases y with
  |non=>cases a;exact PySem.EqNone.ne_int_none (aO I q (by simp))
  |int j=>obtain⟨b,rfl⟩:=a;exact ne_int (aO I q (congrArg not oN))
  |str j=>obtain⟨b,rfl⟩:=a;exact PySem.EqMixed.ne_int_str (aO I q (by simp))
  |_=>exact absurd (show false=true from c) Yt
 |str i=>
  obtain⟨t,rfl⟩:=d;cases y with
  |non=>cases a;exact PySem.EqNone.ne_str_none (aO I q (by simp))
  |bl j=>cases a;exact PySem.EqMixed.ne_str_bool (aO I q (by simp))
  |int j=>obtain⟨b,rfl⟩:=a;exact PySem.EqMixed.ne_str_int (aO I q (by simp))
  |str j=>obtain⟨b,rfl⟩:=a;exact ne_str (aO I q (congrArg not oW))
  |_=>exact absurd (show false=true from c) Yt
 |byt i=>
  obtain⟨t,rfl⟩:=d;cases y with
  |byt j=>obtain⟨b,rfl⟩:=a;exact PySem.W.ne_bytes (aO I q (congrArg not oF))
  |_=>exact absurd (show false=true from c) Yt
 |_=>cases y<;>exact absurd (show false=true from c) Yt
theorem qz:iY X (sg .Lt) (uD λi j=>.bl (decide (i<j))):=vM λ_ _ _ _ _ _ _ q=>lt_int q
theorem qv:iY X (sg .Gt) (uD λi j=>.bl (decide (j<i))):=vM λ_ _ _ _ _ _ _ q=>gt_int q
theorem pL:iY X (sg .In) (λx y H Q=>∃i j,x=.str i/\y=.str j/\Q (.bl (!(yY j i 0 j.length 1).isEmpty)) H):=by
 intro c s σ H x y v u Q I a b h;obtain⟨i,j,rfl,rfl,q⟩:=h;obtain⟨t,rfl⟩:=a;obtain⟨d,rfl⟩:=b;exact in_str (aO I q rfl)
theorem aU(b:YL)(h:op≠.In:=by decide)(h2:op≠.NotIn:=by decide):As op b=false:=by
 have a:(op==CmpOp.In)=false:=by cases op<;>first|rfl|exact absurd rfl h
 have c:(op==CmpOp.NotIn)=false:=by cases op<;>first|rfl|exact absurd rfl h2
 cases b<;>simp[As,a,c]
theorem jN(c:iY X (sg op) r)(d:PE X a ta)(e:PE X b tb)(hm:As op b=false):PE X (.Compare a [op] [b] Zc) (wU r ta tb):=by
 intro f s σ H Q I h;exact wpAny_Compare1 (ug d e I h λv u g x y i j k l q=>c f g σ i x y v u Q j k l q) hm
def tO(t:TE):TT:=λσ H Q=>t σ H λx a=>∃k,x=.bl k/\Q k a
theorem aL(g:iY X (sg op) r)(i:PE X a ta)(j:PE X b tb)(hm:As op b=false):PT X (.Compare a [op] [b] Zc) (tO (wU r ta tb)):=by
 intro f s σ H Q I h;refine wpAny_isTrue_Compare1 (bZ (i f s σ H _ I h) λv l d=>?_) hm;obtain⟨x,m,n,o,p⟩:=d;refine bZ (j f l σ m _ n p) λu q d=>?_;obtain⟨y,t,w,A,B⟩:=d;refine bZ (g f q σ t x y v u _ w o A B) λc G d=>?_;obtain⟨z,C,D,E,k,e,F⟩:=d;subst e;cases E;exact za ⟨C,D,F⟩
def qN(K:Yc)(x:V)(H:Hp)(k:Bool):Prop:=
 match x with
 | .non=>k=false
 | .bl b=>k=b
 | .int i=>k=(i !=0)
 | .str y=>y.length<=Yp/\k=((y.length:Int) !=0)
 | .byt y=>y.size<=Yp/\k=((y.size:Int) !=0)
 | .ref p=>(∃a,bP K H p a/\k=!a.isEmpty)∨(∃a,cu K H p a/\k=!a.isEmpty)∨∃c,H p=Ya (.dK c)/\k=!c.isEmpty
 |_=>False
theorem nO{κ:Type}{a:List (κ×V)}{vs:List (κ×Yd)}(r:KV a vs):(!vs.isEmpty)=!a.isEmpty:=by
 cases r<;>rfl
theorem jQ{a:List Yd}(r:Vals xs a):(!a.toArray.isEmpty)=!xs.isEmpty:=by
 cases r<;>simp
theorem i0:(Yp:Nat)<2^63:=by rw[Co];decide
theorem uk:xT X (λx H Q=>∃k,qN X.K x H k/\Q k H):=by
 intro z s σ H x v Q I f h;obtain⟨k,e,q⟩:=h;have A:=i0;have B:Yp=16777216:=Co;cases x with
 |non=>
  cases f;have a:k=false:=e;subst a;exact truthy_none ⟨H,I,q⟩
 |bl b=>
  cases f;have a:k=b:=e;subst a;exact za ⟨H,I,q⟩
 |int i=>
  obtain⟨t,rfl⟩:=f;have a:k=(i !=0):=e;subst a;exact PySem.P.truthy_int ⟨H,I,q⟩
 |str y=>
  obtain⟨t,rfl⟩:=f;obtain⟨o,a⟩:y.length<=Yp/\k=((y.length:Int) !=0):=e;subst a;exact PySem.P.truthy_str (by omega) ⟨H,I.tok _,q⟩
 |byt y=>
  obtain⟨t,rfl⟩:=f;obtain⟨o,a⟩:y.size<=Yp/\k=((y.size:Int) !=0):=e;subst a;exact PySem.W.truthy_bytes (by omega) ⟨H,I.tok _,q⟩
 |ref p=>
  cases f;have a:(∃d,bP X.K H p d/\k=!d.isEmpty)∨(∃d,cu X.K H p d/\k=!d.isEmpty)∨∃g,H p=Ya (.dK g)/\k=!g.isEmpty:=e;rcases a with⟨d,j,a⟩|⟨d,j,a⟩|⟨g,j,a⟩
  ·subst a;obtain⟨u,r,l,n⟩:=I.list j;have c:=r.length;exact wpAny_truthy_list l.isList (by simp only[Ys];omega) ⟨H,I.tok _,by rw[jQ r];exact q⟩
  ·subst a;obtain⟨u,r,l,n⟩:=I.tuple j;have c:=r.length;exact truthy_tuple l (by simp only[Ys];omega) ⟨H,I.tok _,by rw[jQ r];exact q⟩
  ·subst a;obtain⟨n,w,vs,r,m⟩:g.length<=Yp/\(p==zl)=false/\∃vs,KV g vs/\s.heap.DictOf (dQ X.prog X.w) p vs:=I.hok p _ j;have c:g.length=vs.length:=Aq r;exact wpAny_truthy_dict w m (by omega) ⟨H,I.tok _,by rw[nO r];exact q⟩
 |_=>exact(show False from e).elim
theorem m6(d:PE X a ta)(e:∀b,CC a X.env b=(do let v←b;CS a.pos;B9 [v] (truthy v))):
  PT X a (λσ H Q=>ta σ H λx H'=>∃k,qN X.K x H' k/\Q k H'):=by
 intro c s σ H Q I h;exact isTrue_plain (bZ (d c s σ H _ I h) λv f ⟨x,g,i,j,l⟩=>uk c f σ g x v Q i j l) (e _)
theorem bb:iY X (zo .Add) (λx y H Q=>∃i j,x=.str i/\y=.str j/\i.length+ j.length<=Yp/\Q (.str (i++j)) H):=by
 intro d s σ H x y v u Q I a b h;obtain⟨i,j,rfl,rfl,c,q⟩:=h;obtain⟨t,rfl⟩:=a;obtain⟨t',rfl⟩:=b;exact add_str (λt' e=>⟨.str (i++j),H,I.tok _,⟨_,rfl⟩,q⟩) c
theorem eM{x:V}(r:Vals [x] us):∃u,us=[u]/\RelV x u:=by
 cases r with
 |cons r1 r2=>cases r2;exact⟨_,rfl,r1⟩
theorem tH{x:V}(r:Vals [x,y] us):∃u a,us=[u,a]/\RelV x u/\RelV y a:=by
 cases r with
 |cons r1 r2=>
  cases r2 with
  |cons r3 r4=>cases r4;exact⟨_,_,rfl,r1,r3⟩
theorem qr:cU X (.builtin "abs") (λxs H Q=>∃i,xs=[.int i]/\Q (.int (if i<0 then-i else i)) H):=by
 intro a s σ H xs b Q I r h;obtain⟨i,rfl,q⟩:=h;obtain⟨u,rfl,t,rfl⟩:=eM r;exact call_abs_int λu c=>⟨.int (if i<0 then-i else i),H,I.tok _,⟨_,rfl⟩,q⟩
theorem pG(b:X.calm=true):cU X (.builtin "max") (λxs H Q=>∃i j,xs=[.int i,.int j]/\Q (.int (if j>i then j else i)) H):=by
 intro c s σ H xs d Q I r h;obtain⟨i,j,rfl,q⟩:=h;obtain⟨u,e,rfl,⟨t,rfl⟩,⟨f,rfl⟩⟩:=tH r;refine max_two_ints (I.ok.hd b) λg l k=>⟨_,H,I.kept k,?_,q⟩;by_cases a:j>i
 ·rw[if_pos a,if_pos a];exact⟨_,rfl⟩
 ·rw[if_neg a,if_neg a];exact⟨_,rfl⟩
theorem bw:cU X (.type "str") (λxs H Q=>∃i,xs=[.int i]/\i.natAbs.log2<1920/\Q (.str (toString i)) H):=by
 intro b s σ H xs c Q I r h;obtain⟨i,rfl,a,q⟩:=h;obtain⟨u,rfl,t,rfl⟩:=eM r;exact PySem.P.str_of_int a ⟨.str _,H,I.tok _,⟨_,rfl⟩,q⟩
end
structure nJ(h:YC)(x dx C:Ye)(mA:Yh->Option Yd):Prop where
 obj:h.get? x=Ya (uc C dx)
 ns:h.Ns1 dx mA
 ne:dx≠x
theorem pE(n:h.Ns1 dx mA):∃c,h.get? dx=Ya c/\∀name,Ai name c=Ya (mA name):=by
 obtain⟨o,d,j,f,hd,hk,_,hm⟩:=n;refine⟨o,f,λname=>?_⟩;have e:=hm name;unfold nsFind findBy at e;rw[←Array.find?_toList]at e;unfold Ai;rw[hd];dsimp only;split
 ·rename_i y q;rw[q]at e;exact congrArg Ya e
 ·rename_i q;rw[q]at e;have a:d.toList.any (·.refKey)=false:=by
   rw[List.any_eq_false];intro y g;obtain⟨z,t,b⟩:=hk y (Array.mem_toList_iff.mp g);simp[DictEntry.refKey,b]
  have i:¬ d.toList.any (·.refKey)=true:=by rw[a];exact Yt
  rw[if_neg i];exact congrArg Ya e
theorem nJ.look{x:Ye}(I:nJ h x dx C mA):∃a,PySem.W.InstAt h x (uc C dx) C (Ya a)/\∀name,Ai name a=Ya (mA name):=
 let ⟨a,ho,hl⟩:=pE I.ns
 ⟨a,⟨I.obj,rfl,rfl,ho⟩,hl⟩
section
variable{K:Yc}{x f:Ye}{v:Yd}
theorem rE{a:Bool}(X:K.In s.heap)(I:nJ s.heap x dx C mA)(c:zS K C name=true)(d:AD K C=true)(e:dk K (.ref C) name=Ya Yb)(f:mA name=Ya v)(b:AK v=true)(h:Q v {s with toks:=s.toks+ 1}):
  Yj (Yn prog w) A (DC (.ref x) name a) Q E s:=by
 obtain⟨i,J,g⟩:=I.look;exact PySem.W.get_value X J (Ab c).1 (PySem.W.findObj_own d e rfl (by rw[g,f])) b h
theorem qR{Q:Yd×List Yd->Yg->Prop}(X:K.In s.heap)(I:nJ s.heap x dx C mA)(a:zS K C name=true)(b:dk K (.ref C) name=Ya (Ya (.ref f)))(c:B0 K (.ref f)=true)(d:mA name=Yb)(h:Q (.ref f,[.ref x]) s):
  Yj (Yn prog w) A (B1 (.ref x) name pl) Q E s:=by
 obtain⟨e,J,g⟩:=I.look;exact PySem.W.method_fn X J (Ab a).1 (Ab a).2 b (beq_iff_eq.mp c) (by show(Ai name e).map (·.isSome)=Ya false;rw[g,d];rfl) h
theorem sV{ns:List Yh}{Q:Unit->Yg->Prop}(X:K.In s.heap)(I:nJ s.heap x dx C mA)
  (j:dk K (.ref C) "__setattr__"=Ya (Ya (.builtin "object.__setattr__"))) (hp:Cd K C=true) (k:AZ K C name=Ya Yb) (l:AD K C=true)
  (hw:BW mA ns) (m:ns.length<=Yp)
  (h:∀h',nJ h' x dx C (λy=>if y=name then Ya v else mA y)->yI dx s.heap h'->Q () {s with heap:=h',toks:=s.toks+ 2}):
  Yj (Yn prog w) A (setAttr (.ref x) name v) Q E s:=by
 obtain⟨t,J,u⟩:=I.look;refine PySem.W.set_plain X J j (PySem.W.osa_open (s:={s with toks:=s.toks+ 1}) (r:=Yb) X J hp k λb=>?_);obtain⟨z,n,e⟩:=PySem.W.any_some l;have o:s.heap.get? x=Ya ⟨.ref C,Ya dx,.plain,#[]⟩:=I.obj;refine Yf (Yl (Yf (Yf (wpAny_loadPart o (Yf (PySem.W.Looks.here (s:={s with toks:=s.toks+ 1}) (PySem.W.looks_clsIn X n) ?_))))));rw[e];refine Yl (a:=Ya dx) (Yf (Yl (Yf ?_)));refine wpAny_nsSet1 (s:={s with toks:=s.toks+ 1}) I.ns λh' c d=>?_;obtain⟨B,p,q,f,g,i⟩:=c.count (PySem.Within.cons name v hw);refine Yf (wpAny_lookBehind f (by rw[g];exact pastItsLine_dict (YJ i (by rw[YD];omega))) ?_);exact Yl (h _ ⟨(d.2 _ (Ne.symm I.ne)).trans I.obj,c,I.ne⟩ d)
theorem q9{R:AL->Yg->Prop}{vs:List Yd}(X:K.In s.heap)(hm:CG K C=true)(a:dk K (.ref C) "__init__"=Ya (Ya (.ref f)))(b:PySem.W.typeIn K (.ref f)=Ya (.type "function"))(h:yC (Yn prog w) (A.under (.builtin "type.__call__" ⟨.ref C::vs,kw⟩)) (.call (.ref f) ⟨.ref (s.heap.objs.size+ 1)::vs,kw⟩) (PySem.W.InitBack (s.heap.objs.size+ 1) R)
   {s with heap:=(s.heap.push cf).push (uc C s.heap.objs.size)}):
  yC (Yn prog w) A (.call (.ref C) ⟨vs,kw⟩) R s:=by
 obtain⟨c,g,d,t,os⟩:=s;exact PySem.W.make_core (PySem.W.makes_of X hm) (PySem.W.looks_findIn X a) (λself=>PySem.W.bind_fn X self b) (.inl rfl) h
end
noncomputable def da(f:Yh)(v:V):List (Yh×V)->List (Yh×V)
 |[]=>[(f,v)]
 |(g,x)::r=>if g=f then(g,v)::r else(g,x)::da f v r
theorem jj(f g:Yh)(v:V):∀fs:List (Yh×V),(da f v fs).lookup g=if g=f then Ya v else fs.lookup g
 |[]=>by
  show zx g [(f,v)]=_;by_cases h:g=f
  ·have a:(g==f)=true:=beq_iff_eq.mpr h;simp only[zx,a,if_pos h]
  ·have a:(g==f)=false:=beq_eq_false_iff_ne.mpr h;simp only[zx,a,if_neg h]
 |(k,x)::r=>by
  have b:=jj f g v r;rw[show da f v ((k,x)::r)=(if k=f then(k,v)::r else(k,x)::da f v r)from rfl];by_cases hk:k=f
  ·rw[if_pos hk];by_cases h:g=k
   ·have a:(g==k)=true:=beq_iff_eq.mpr h;simp only[zx,a,if_pos (h.trans hk)]
   ·have a:(g==k)=false:=beq_eq_false_iff_ne.mpr h;simp only[zx,a,if_neg (λe:g=f=>h (e.trans hk.symm))]
  ·rw[if_neg hk];by_cases h:g=k
   ·have a:(g==k)=true:=beq_iff_eq.mpr h;simp only[zx,a,if_neg (λe:g=f=>hk (h.symm.trans e))]
   ·have a:(g==k)=false:=beq_eq_false_iff_ne.mpr h;simp only[zx,a];exact b
theorem iR(f:Yh)(v:V):∀fs:List (Yh×V),f∈(da f v fs).map (·.1)/\∀g,g∈fs.map (·.1)->g∈(da f v fs).map (·.1)
 |[]=>⟨by simp[da],λg h=>by simp at h⟩
 |(k,x)::r=>by
  obtain⟨a,b⟩:=iR f v r;rw[show da f v ((k,x)::r)=(if k=f then(k,v)::r else(k,x)::da f v r)from rfl];by_cases hk:k=f
  ·rw[if_pos hk];subst hk;exact⟨by simp,λg h=>by simpa using h⟩
  ·rw[if_neg hk];refine⟨?_,λg h=>?_⟩
   ·rw[ar];exact Yw _ a
   ·rw[ar]at h⊢;rcases YF.mp h with e|e
    ·exact YF.mpr (.inl e)
    ·exact Yw _ (b g e)
theorem jg(f:Yh)(v:V):∀fs:List (Yh×V),(da f v fs).length<=fs.length+ 1
 |[]=>by simp[da]
 |(k,x)::r=>by
  have a:=jg f v r;rw[show da f v ((k,x)::r)=(if k=f then(k,v)::r else(k,x)::da f v r)from rfl];by_cases hk:k=f
  ·rw[if_pos hk,YD,YD];omega
  ·rw[if_neg hk,YD,YD];omega
theorem gG.some_of{o:Option Yd}(r:gG (Ya v) o):∃u,o=Ya u/\RelV v u:=by
 cases o with
 |none=>exact(show False from r).elim
 |some u=>exact⟨u,rfl,r⟩
theorem gG.none_of{o:Option Yd}(r:gG Yb o):o=none:=by
 cases o with
 |none=>rfl
 |some u=>exact(show False from r).elim
theorem pj(r:RelV v u):AK u=true:=by
 cases v with
 |non=>cases (show u=zk from r);rfl
 |bl b=>cases (show u=zJ b from r);rfl
 |int i=>obtain⟨t,e⟩:=(show∃t,u=BV i t from r);cases e;rfl
 |str x=>obtain⟨t,e⟩:=(show∃t,u=AW x t from r);cases e;rfl
 |byt b=>obtain⟨t,e⟩:=(show∃t,u=DA b t from r);cases e;rfl
 |flt b=>obtain⟨t,e⟩:=(show∃t,u=Cn b t from r);cases e;rfl
 |ref a=>cases (show u=Y7 a from r);rfl
 |ty n=>cases (show u=y2 n from r);rfl
section
variable{fs':List (Yh×V)}
theorem jL(hok:gF P w H h)(e:H a=Ya (.ins C dx fs)):∃mA,nJ h a dx C mA/\(∀f,gG (fs.lookup f) (mA f))/\BW mA (fs.map (·.1))/\fs.length<=1000/\H dx=Ya (.own a):=by
 obtain⟨d,z,ne,ob,mA,n,r,q⟩:=(show bM P w H h a (.ins C dx fs)from hok a _ e);exact⟨mA,⟨ob,n,ne⟩,r,q,z,d⟩
end
structure nV(K:Yc)(C:Ye):Prop where
 pg:zS K C DN=true
 hd:AD K C=true
 po:Cd K C=true
 sa:dk K (.ref C) "__setattr__"=Ya (Ya (.builtin "object.__setattr__"))
theorem nV.get{K:Yc}(c:nV K C)(f:Yh):zS K C f=true:=c.pg
def cp(K:Yc)(C:Ye)(f:Yh):Prop:=dk K (.ref C) f=Ya Yb
theorem cp.taker{K:Yc}{f:Yh}(n:cp K C f):AZ K C f=Ya none:=by
 unfold AZ;rw[show dk K (.ref C) f=Ya Yb from n];rfl
structure cH(K:Yc)(C:Ye)(m:Yh)(f:Ye):Prop where
 at_:dk K (.ref C) m=Ya (Ya (.ref f))
 fn:B0 K (.ref f)=true
 kp:yP K (.ref f)=true
section
variable{f:Yh}
theorem nF{b:Bool}(I:au X Za σ H s)(e:H a=Ya (.ins C dx fs))(c:nV X.K C)(n:cp X.K C f)(l:fs.lookup f=Ya v)(h:∀u s',au X Za σ H s'->RelV v u->Q u s'):Yj (Yn X.prog X.w) A (DC (.ref a) f b) Q E s:=by
 obtain⟨g,O,r,_,_,_⟩:=jL I.hok e;obtain⟨u,i,d⟩:=gG.some_of (v:=v) (o:=g f) (by rw[←l];exact r f);exact rE I.kIn O (c.get f) c.hd n i (pj d) (h u _ (I.tok _) d)
theorem oy{g:Ye}{Q:Yd×List Yd->Yg->Prop}(I:au X Za σ H s)(e:H a=Ya (.ins C dx fs))(c:nV X.K C)(k:cH X.K C m g)(l:fs.lookup m=Yb)(h:Q (.ref g,[.ref a]) s):Yj (Yn X.prog X.w) A (B1 (.ref a) m pl) Q E s:=by
 obtain⟨b,O,r,_,_,_⟩:=jL I.hok e;have hn:b m=none:=gG.none_of (by rw[←l];exact r m);exact qR I.kIn O (c.get m) k.at_ k.fn hn h
theorem ou{Q:Unit->Yg->Prop}(I:au X Za σ H s)(e:H a=Ya (.ins C dx fs))(c:nV X.K C)(n:cp X.K C f)(B:fs.length<1000)(l:RelV y u)(h:∀s',au X Za σ (upd H a (.ins C dx (da f y fs))) s'->Q () s'):Yj (Yn X.prog X.w) A (setAttr (.ref a) f u) Q E s:=by
 obtain⟨i,O,r,j,_,k⟩:=jL I.hok e;have m:(fs.map (·.1)).length<=Yp:=by rw[Yk,Co];omega
 refine sV I.kIn O c.sa c.po n.taker c.hd j m λp d t=>h _ ?_;have hd:∃o,p.get? dx=Ya o:=let ⟨o,_,_,e',_⟩:=d.ns;⟨o,e'⟩;refine I.write (x:=a) (e:=dx) (by rw[e];exact zp) (.inr k) (λb q v z=>(t.2 b v).trans z) hd ?_;refine⟨by rw[aA O.ne];exact k,?_,O.ne,d.obj,_,d.ns,λg=>?_,λg w=>?_⟩
 ·have:=jg f y fs;omega
 ·show gG ((da f y fs).lookup g) (if g=f then Ya u else i g);rw[jj];by_cases q:g=f
  ·rw[if_pos q,if_pos q];exact l
  ·rw[if_neg q,if_neg q];exact r g
 ·by_cases q:g=f
  ·rw[q];exact(iR f y fs).1
  ·refine(iR f y fs).2 g (j g λz=>w ?_);show(if g=f then Ya u else i g)=Yb;rw[if_neg q];exact z
theorem au.made(I:au X Za σ H s):au X Za σ (upd (upd H s.heap.objs.size (.own (s.heap.objs.size+ 1))) (s.heap.objs.size+ 1) (.ins C s.heap.objs.size []))
  {s with heap:=(s.heap.push cf).push (uc C s.heap.objs.size)}:=by
 have c:(s.heap.push cf).get? s.heap.objs.size=Ya cf:=Yo s.heap rfl;have d:((s.heap.push cf).push (uc C s.heap.objs.size)).get? (s.heap.objs.size+ 1)=Ya (uc C s.heap.objs.size):=by
  have:=Yo (s.heap.push cf) (o:=uc C s.heap.objs.size) rfl;rwa [zd]at this
 have f:(s.heap.push cf).Ns s.heap.objs.size (λ_=>Yb):=⟨cf,#[],_,c,rfl,(λe g=>absurd g (by simp)),λ_=>rfl⟩;have h:=I.laid (a:=s.heap.objs.size) (o:=.own (s.heap.objs.size+ 1)) (h':=s.heap.push cf) (t':=s.toks) (λb u q=>Yi _ q) (Ym _) ⟨_,c⟩;refine h.laid (a:=s.heap.objs.size+ 1) (o:=.ins C s.heap.objs.size []) (t':=s.toks) (λb u q=>Yi _ q) (z1 (zd _ _)) ?_;have ne:s.heap.objs.size≠s.heap.objs.size+ 1:=YE (zq _);refine⟨by rw[aA ne,ao],Y5 _,ne,d,λ_=>Yb,(Heap.Ns1.of_empty f).at λo q=>Yi _ q,λ_=>zp,λy i=>absurd rfl i⟩
theorem sS{env:zg}{f:Yh}(a:Au e f env (Y4 e env)=Y4 e env)(h:Yj (Yn prog w) A (Y4 e env) (λo b=>Yj (Yn prog w) A (DC o f true) Q E b) E s):Yj (Yn prog w) A (Y4 (.Attribute e f Zc) env) Q E s:=
 Attribute_any_ h (by rw[arm_eval_Attribute,a])
end
def u0(K:Yc)(c:TE)(f:Yh):TE:=λσ H Q=>c σ H λx b=>∃a C d fs v,x=.ref a/\b a=Ya (.ins C d fs)/\nV K C/\cp K C f/\fs.lookup f=Ya v/\Q v b
def rf(K:Yc)(d e:TE)(f:Yh):TS:=λD σ H=>e σ H λy g=>d σ g λx b=>∃a C c fs,x=.ref a/\b a=Ya (.ins C c fs)/\nV K C/\cp K C f/\fs.length<1000/\
 D.nx σ (upd b a (.ins C c (da f y fs)))
section
variable{o:YL}{f:Yh}
theorem uz(b:PE X e ta)(d:Au e f X.env (Y4 e X.env)=Y4 e X.env):PE X (.Attribute e f Zc) (u0 X.K ta f):=by
 intro g s σ H Q I h;refine sS d (bZ (b g s σ H _ I h) λu t i=>?_);obtain⟨x,j,k,m,a,C,w,fs,v,ex,o,c,n,l,q⟩:=i;subst ex;obtain rfl:u=Y7 a:=m;exact nF k o c n l λy z p r=>⟨v,j,p,r,q⟩
theorem vy(e:PE X o ta)(g:PE X Zg tv)(i:AY Zg (Ya (.Attribute o f Zn)) Zc.line X.env=pure false):PS X (.Assign [.Attribute o f Zn] Zg Zc) (rf X.K ta tv f):=by
 intro d s σ H D I h;refine plainObj_wpAny_Assign_Attribute (bZ (g d s σ H _ I h) λu j b=>?_) i;obtain⟨y,k,m,p,q⟩:=b;refine bZ (e d j σ k _ m q) λr B b=>?_;obtain⟨x,E,t,v,a,C,F,fs,ex,w,c,n,l,z⟩:=b;subst ex;obtain rfl:r=Y7 a:=v;exact ou t w c n l p λG A=>⟨σ,_,A,z⟩
end
section
variable{c:Yd}{b:Bool}
inductive gX (K:Yc) (H:Hp):V->Yd->Prop where
 |non:gX K H .non (.type "NoneType")
 |bl (x:Bool):gX K H (.bl x) (.type "bool")
 |int (i:Int):gX K H (.int i) (.type "int")
 |str (x:Yh):gX K H (.str x) (.type "str")
 |flt (x:UInt64):gX K H (.flt x) (.type "float")
 |lst {a:Ye} {xs:List V} (e:H a=Ya (.lst xs)):gX K H (.ref a) (.type "list")
 |frz {a:Ye} {o:YY} {xs:List V} (e:H a=Ya (.frz o (.lst xs))):gX K H (.ref a) (.type "list")
 |tup {a:Ye} {xs:List V} (e:H a=Ya (.tup xs)):gX K H (.ref a) (.type "tuple")
 |dK {a:Ye} {Zd:List (fP×V)} (e:H a=Ya (.dK Zd)):gX K H (.ref a) (.type "dict")
 |dT {a:Ye} {Zd:List (List fP×V)} (e:H a=Ya (.dT Zd)):gX K H (.ref a) (.type "dict")
 |ins {a C dx:Ye} {fs:List (Yh×V)} (e:H a=Ya (.ins C dx fs)) (cl:nV K C) (ha:dk K (.ref C) "__class__"=Ya (Ya (.builtin "object.__class__")))
   (hn:Ce K (.builtin "object.__class__") "__get__"=Ya (Ya (.builtin "getset_descriptor.__get__"))) (htk:PySem.W.takesIn K (.builtin "object.__class__")=Ya true)
   (hm:PySem.W.mroIn K C (.type "object")=Ya true):gX K H (.ref a) (.ref C)
theorem pd{x:V}{t:Yd}(I:au X Za σ H s)(d:RelV x u)(ty:gX X.K H x t)(e:Bn X.K t c=Ya b)(h:∀tk,Q (.bool b) {s with toks:=tk}):
  Yj (Yn X.prog X.w) A (call (.builtin "isinstance") [u,c]) Q E s:=by
 cases ty with
 |non=>cases (show u=zk from d);exact Y6 PySem.W.kitx_none I.kIn zp e (λz=>nomatch z) h
 |bl y=>cases (show u=zJ y from d);exact Y6 PySem.W.kitx_bool I.kIn zp e (λz=>nomatch z) h
 |int i=>obtain⟨t,q⟩:=(show∃t,u=BV i t from d);cases q;exact Y6 PySem.W.kitx_int I.kIn zp e (λz=>nomatch z) h
 |str y=>obtain⟨t,q⟩:=(show∃t,u=AW y t from d);cases q;exact Y6 PySem.W.kitx_str I.kIn zp e (λz=>nomatch z) h
 |flt y=>obtain⟨t,q⟩:=(show∃t,u=Cn y t from d);cases q;exact Y6 PySem.W.kitx_float I.kIn zp e (λz=>nomatch z) h
 |@lst a xs ea=>
  cases (show u=Y7 a from d);obtain⟨_,_,n,_,h1⟩:=(show bM X.prog X.w H s.heap a (.lst xs)from I.hok a _ ea);exact Y6 Cf I.kIn ⟨_,h1,rfl⟩ e (λz=>nomatch z) h
 |@frz a ob xs ea=>
  cases (show u=Y7 a from d);obtain⟨_,_,_,n,_,h1⟩:=(show bM X.prog X.w H s.heap a (.frz ob (.lst xs))from I.hok a _ ea);exact Y6 Cf I.kIn ⟨_,h1,rfl⟩ e (λz=>nomatch z) h
 |@tup a xs ea=>
  cases (show u=Y7 a from d);obtain⟨_,_,_,p⟩:=(show bM X.prog X.w H s.heap a (.tup xs)from I.hok a _ ea);obtain⟨o,h1,h2,_⟩:=p;exact Y6 PySem.W.kitx_tuple I.kIn ⟨o,h1,h2⟩ e (λz=>nomatch z) h
 |@dK a Zd ea=>
  cases (show u=Y7 a from d);obtain⟨_,_,j,_,p⟩:=(show bM X.prog X.w H s.heap a (.dK Zd)from I.hok a _ ea);obtain⟨o,f,g,h1,h2,_⟩:=p;exact Y6 Cg I.kIn ⟨o,h1,h2.1⟩ e (λz=>nomatch z) h
 |@dT a Zd ea=>
  cases (show u=Y7 a from d);obtain⟨_,_,xs,_,o,f,g,h1,h2,_⟩:=(show bM X.prog X.w H s.heap a (.dT Zd)from I.hok a _ ea);exact Y6 Cg I.kIn ⟨o,h1,h2.1⟩ e (λz=>nomatch z) h
 |@ins a C dx fs ea cl ha hn htk hm=>
  cases (show u=Y7 a from d);obtain⟨k,O,_⟩:=jL I.hok ea;obtain⟨l,J,_⟩:=O.look;exact Y6 (PySem.W.kitx_own (cl.get _) cl.hd ha hn htk hm) I.kIn J e (λz=>nomatch z) h
end
structure cv(k:Nat)(A:YX):Prop where
 hd:A.handled=Yb
 dp:A.depth+ 3*k+ 5<CT
 un:A.units+ 16*k+ 200<zL
theorem cv.mono(r:cv k A)(h:j<=k):cv j A:=⟨r.hd,by have:=r.dp;omega,by have:=r.un;omega⟩
theorem cv.deeper(r:cv (k+ 1) A)(env:zg):cv k (A.deeper env):=
 ⟨r.hd,by have:=r.dp;show A.depth+ 1+ 3*k+ 5<_;omega,by have:=r.un;show A.units+ 3+ 16*k+ 200<_;omega⟩
theorem ng:(A.under (.builtin "type.__call__" ⟨.ref C::us,kw⟩)).depth=A.depth+ 1:=by
 first|rfl|simp[Around.under,Code.weight,Code.isCreation,Code.isGuard,Code.isCaller,Code.frames,Code.isFrame,guardIds]
theorem nA:(A.under (.builtin "type.__call__" ⟨.ref C::us,kw⟩)).units=A.units+ 1:=by
 first|rfl|simp[Around.under,Code.cUnits,Code.frames,Code.isFrame]
theorem cv.make(r:cv (k+ 1) A)(C:Ye)(us:List Yd)(a:List (Yh×Yd)):cv k (A.under (.builtin "type.__call__" ⟨.ref C::us,a⟩)):=
 ⟨r.hd,by have:=r.dp;rw[ng];omega,by have:=r.un;rw[nA];omega⟩
theorem cv.depth(r:cv k A):A.depth<CT:=by have:=r.dp;omega
theorem cv.units(r:cv k A):A.units+ 64<zL:=by have:=r.un;omega
theorem cv.units0(r:cv k A):A.units<zL:=by have:=r.un;omega
def sG:TA:=λ_ H Q=>Q [] H
def qU(a:TE)(b:TA):TA:=λσ H Q=>a σ H λx c=>b σ c λd e=>Q (x::d) e
section
theorem af:PA X [] sG:=λ_ _ _ _ H Q I h=>Calls.spliced_nil ⟨[],H,I,.nil,h⟩
theorem aa(c:PE X e te)(d:PA X es t)(f:YK (e::es) X.env=(false,Y4 e X.env)::YK es X.env:=by rfl):PA X (e::es) (qU te t):=by
 intro a b s σ H Q I h;rw[f];show Yj _ _ (spliced ((false,Y4 e X.env)::zt a (YK es X.env))) _ _ s;refine Calls.spliced_cons (bZ (c b s σ H _ I h) λu g i=>?_);obtain⟨x,j,k,l,m⟩:=i;exact bZ (d a b g σ j _ k m) λv w ⟨n,o,p,q,r⟩=>⟨x::n,o,p,.cons l q,r⟩
def wb(t:TA):TE:=λσ H Q=>t σ H λa b=>a.length<=Yp/\∀p,b p=Yb->Q (.ref p) (upd b p (.tup a))
def wV(t:TA):TE:=λσ H Q=>t σ H λa b=>a.length<=Yp/\∀p,b p=Yb->Q (.ref p) (upd b p (.lst a))
theorem fx{f}(h:PA X es t):PE X (.Tuple es f Zc) (wb t):=by
 intro g s σ H Q I i;refine wpAny_Tuple_spliced (bZ (h Zc g s σ H _ I i) λj a ⟨k,c,d,r,z,q⟩=>⟨by rw[←r.length];exact z,?_⟩);have l:c a.heap.objs.size=none:=d.hok.fresh (Ym _);refine⟨.ref a.heap.objs.size,upd c a.heap.objs.size (.tup k),d.laid (t':=a.toks) (λb u e=>Yi _ e) (Ym _) ?_,rfl,q _ l⟩;exact⟨z,j,r,iD.new _ _⟩
theorem nQ(h:PA X es t):PE X (.List es Zc) (wV t):=by
 intro f s σ H Q I g;refine wpAny_List_spliced (bZ (h Zc f s σ H _ I g) λi a ⟨j,c,d,r,z,q⟩=>⟨by rw[←r.length];exact z,?_⟩);have k:c a.heap.objs.size=none:=d.hok.fresh (Ym _);refine⟨.ref a.heap.objs.size,upd c a.heap.objs.size (.lst j),d.laid (t':=a.toks) (λb u e=>Yi _ e) (Ym _) ?_,rfl,q _ k⟩;exact⟨z,i,0,r,Yo _ rfl⟩
end
abbrev Sp:=List V->Hp->VK->XK->Prop
variable{sp:Sp}
abbrev rB:=List zg->Hp->Yg->XK->Yd->Yg->Prop
variable{CX:rB}
structure nP(P:Yx)(w:YA)(K:Yc)(mg:Yh->Option Yd)(base:YC)(A:YX)(outer:List zg)(s:Yg)(H:Hp):Prop where
 frames:A.frames=Ya outer
 mod:Mod K mg base
 bs:∀b o,base.get? b=Ya o->s.heap.get? b=Ya o/\H b=Yb
 bsz:base.objs.size<=s.heap.objs.size
 funs:s.heap.FunFrames base outer
 frf:∀b∈q5 outer,H b=Yb
 hok:gF P w H s.heap
 bare:zV s.gens
def CE(outer:List zg)(P:Yx)(w:YA)(H:Hp)(s:Yg)(Q:VK)(u:Yd)(s':Yg):Prop:=
 ∃v a,s'.os=s.os/\zV s'.gens/\Un (q5 outer) [] H a s.heap s'.heap/\gF P w a s'.heap/\RelV v u/\Q v a
def CR(CX:rB)(outer:List zg)(P:Yx)(w:YA)(H:Hp)(s:Yg)(Q:VK)(E:XK)(r:AL)(s':Yg):Prop:=
 match r with
 | .ok (.ret u)=>CE outer P w H s Q u s'
 | .ok _=>False
 | .error e=>CX outer H s E e s'
structure az(P:Yx)(w:YA)(K:Yc)(mg:Yh->Option Yd)(base:YC)(CX:rB)(k:Nat)(f:Ye)(fd:Yu)(ps:List Yh)(sp:Sp):Prop where
 len:∀vs H Q E,sp vs H Q E->vs.length=ps.length
 run:∀(A:YX) (outer:List zg) (s:Yg) (H:Hp) (args:Args) (us:List Yd) (vs:List V) (Q:VK) (E:XK),cv k A->nP P w K mg base A outer s H->Bo s fd args (ps.zip us)->Vals vs us->sp vs H Q E->
  yC (Yn P w) A (.call (.ref f) args) (CR CX outer P w H s Q E) s
theorem az.mono{K:Yc}{f:Ye}(F:az P w K mg base CX j f fd ps sp)(h:j<=k):
  az P w K mg base CX k f fd ps sp:=⟨F.len,λA outer s H a b c Q E d=>F.run A outer s H a b c Q E (d.mono h)⟩
theorem nP.make{K:Yc}(e:nP P w K mg base A outer s H)(C:Ye)(us:List Yd)(a:List (Yh×Yd)):
  nP P w K mg base (A.under (.builtin "type.__call__" ⟨.ref C::us,a⟩)) outer s H:=⟨by first|exact e.frames|(simpa [Around.under,Code.envs,Code.isFrame,pushEnvs]using e.frames),e.mod,e.bs,e.bsz,e.funs,e.frf,e.hok,e.bare⟩
section
theorem au.env0(I:au X Za σ H s):nP X.prog X.w X.K X.mg X.base X.A X.stack s H:=
 ⟨I.ok.frames,I.ok.mod,I.bs,YJ I.ok.bsz I.sz,I.stack,I.stkFree,I.hok,I.bare⟩
theorem au.after{Q:VK}(I:au X Za σ H s)(h:CE X.stack X.prog X.w H s Q u s'):EP X Za σ Q u s':=by
 obtain⟨v,c,os,bare,un,hok,r,q⟩:=h;obtain⟨e,g,d,t,a⟩:=s';obtain rfl:a=s.os:=os;exact⟨v,c,I.call (h':=e) (g':=g) (d':=d) (t':=t) (ch:=[]) un hok bare (λb z=>absurd z (by simp)),r,q⟩
end
def oC(sp:Sp)(a:List V)(E:XK)(t:TA):TE:=λσ H Q=>t σ H λb c=>sp (b++a) c Q E
def tR(C:Ye)(sp:Sp)(c:List V)(E:XK)(t:TA):TE:=λσ H Q=>t σ H λd b=>∀x a,b x=Yb->b a=Yb->a≠x->
 sp (.ref x::(d++c)) (upd (upd b a (.own x)) x (.ins C a [])) (λv e=>v=.non/\Q (.ref x) e) E
def Binds(K:Yc)(fd:Yu)(b:List Yh)(c:List Yd):Prop:=
 ∀(s:Yg) (a:List Yd),K.In s.heap->(a++c).length=b.length->Bo s fd ⟨a,[]⟩ (b.zip (a++c))
theorem Binds.all{K:Yc}(h:∀us:List Yd,us.length=ps.length->Cr fd ⟨us,[]⟩=pure (ps.zip us)):Binds K fd ps []:=λs us _ a=>by
 rw[CH]at a⊢;exact .of_eq (h us a)
def jS(CX:rB)(X:Cx)(E:XK):Prop:=∀(a:List (Ye×YY)) (σ:St) (H:Hp) (s:Yg) (e:Yd) (s':Yg),au X a σ H s->CX X.stack H s E e s'->X.xe e s'
section
variable{f:Ye}{Zl:List V}{ds:List Yd}{E:XK}{o:YL}
theorem nh{Q:VK}(F:az X.prog X.w X.K X.mg X.base CX k f fd ps sp)(c:cv k X.A)(d:Binds X.K fd ps ds)(hd:Vals Zl ds)(g:jS CX X E)(I:au X Za σ H s)(r:Vals vs us)(h:sp (vs++Zl) H Q E):Yj (Yn X.prog X.w) X.A (call (.ref f) us) (EP X Za σ Q) X.xe s:=by
 have b:Vals (vs++Zl) (us++ds):=r.append hd;have i:(us++ds).length=ps.length:=by rw[←b.length];exact F.len _ _ _ _ h
 refine CI (codeAny_mono (F.run X.A X.stack s H ⟨us,[]⟩ (us++ds) (vs++Zl) Q E c I.env0 (d s us I.kIn i) b h) λr s' a=>?_);cases r with
 |error e=>exact g Za σ H s e s' I a
 |ok fl=>
  cases fl with
  |ret u=>exact I.after a
  |next=>exact pe a
  |brk=>exact pe a
  |cont=>exact pe a
theorem sX(F:az X.prog X.w X.K X.mg X.base CX k f fd ps sp)(d:cv k X.A)(g:Gl X x)(hm:X.mg x=Ya (.ref f))(hk:yP X.K (.ref f)=true)(i:Binds X.K fd ps ds)(hd:Vals Zl ds)(j:jS CX X E)
  (l:PA X (e::es) t) (a:(x==("__debug__":Yh))=false:=by decide) (m:YK (e::es) X.env=(false,Y4 e X.env)::YK es X.env:=by rfl) (b:(zt Zc (YK es X.env)).any (·.1)=false:=by rfl):
  PE X (.Call (.Name x p) (e::es) [] Zc) (oC sp Zl E t):=by
 intro n s σ H Q I h;refine zF (l5 I g hm ?_ a);refine Ao (h₀:=X.base) I.ok.mod.kin hk (bZ (l Zc n s σ H _ I h) λo u ⟨v,w,c,r,q⟩=>⟨c.kIn,?_⟩) m b;exact nh F d i hd j c r q
structure Mk(K:Yc)(C f:Ye):Prop where
 makes:CG K C=true
 init:dk K (.ref C) "__init__"=Ya (Ya (.ref f))
 fn:B0 K (.ref f)=true
 kp:yP K (.ref C)=true
theorem qj{Q:VK}(M:Mk X.K C f)(F:az X.prog X.w X.K X.mg X.base CX k f fd ps sp)(g:cv (k+ 1) X.A)(i:Binds X.K fd ps ds)(hd:Vals Zl ds)(j:jS CX X E)(I:au X Za σ H s)(r:Vals vs us)(h:∀x dx,H x=Yb->H dx=Yb->dx≠x->sp (.ref x::(vs++Zl)) (upd (upd H dx (.own x)) x (.ins C dx [])) (λv l=>v=.non/\Q (.ref x) l) E):
  Yj (Yn X.prog X.w) X.A (call (.ref C) us) (EP X Za σ Q) X.xe s:=by
 have c:=h (s.heap.objs.size+ 1) s.heap.objs.size (I.hok.fresh (y6 _)) (I.hok.fresh (Ym _)) (YE (zq _));have b:=au.made (C:=C) I;have d:Vals (V.ref (s.heap.objs.size+ 1)::(vs++Zl)) (Y7 (s.heap.objs.size+ 1)::(us++ds)):=.cons rfl (r.append hd);have m:(Y7 (s.heap.objs.size+ 1)::us++ds).length=ps.length:=by
  have e:=d.length;rw[F.len _ _ _ _ c]at e;exact e.symm
 refine CI (q9 (f:=f) I.kIn M.makes M.init (beq_iff_eq.mp M.fn) (codeAny_mono (F.run _ X.stack _ _ ⟨Y7 (s.heap.objs.size+ 1)::us,[]⟩ (Y7 (s.heap.objs.size+ 1)::(us++ds)) _ _ E (g.make C us [])
  (b.env0.make C us []) (i _ (Y7 (s.heap.objs.size+ 1)::us) b.kIn m) d c) λr s' a=>?_))
 cases r with
 |error e=>exact j Za σ _ _ e s' b a
 |ok fl=>
  cases fl with
  |ret u=>
   obtain⟨v,n,o,p,q,t⟩:=b.after a;subst q;exact⟨p,⟨V.ref (s.heap.objs.size+ 1),n,o,rfl,t⟩⟩
  |next=>exact pe a
  |brk=>exact pe a
  |cont=>exact pe a
theorem k8(M:Mk X.K C f)(F:az X.prog X.w X.K X.mg X.base CX k f fd ps sp)(d:cv (k+ 1) X.A)(g:Gl X x)(hm:X.mg x=Ya (.ref C))(i:Binds X.K fd ps ds)(hd:Vals Zl ds)(j:jS CX X E)
  (l:PA X (e::es) t) (a:(x==("__debug__":Yh))=false:=by decide) (m:YK (e::es) X.env=(false,Y4 e X.env)::YK es X.env:=by rfl) (b:(zt Zc (YK es X.env)).any (·.1)=false:=by rfl):
  PE X (.Call (.Name x p) (e::es) [] Zc) (tR C sp Zl E t):=by
 intro n s σ H Q I h;refine zF (l5 I g hm ?_ a);refine Ao (h₀:=X.base) I.ok.mod.kin M.kp (bZ (l Zc n s σ H _ I h) λo u ⟨v,w,c,r,q⟩=>⟨c.kIn,?_⟩) m b;exact qj M F d i hd j c r q
end
section
variable{f:Ye}{ks:List Yh}{E:XK}{kpos:zP}{o:YL}{kws:List CU}{tk:TA}{nm:Option Yh}
variable{g:List Yd->List Yd->List Yd}{gV:List V->List V->List V}
end
structure ax(N P:List Yh)(sc:y1):Prop where
 kind:sc.kind=.function
 co:sc.isCoroutine=false
 gen:sc.isGenerator=false
 nd:N.Nodup
 pre:N.take P.length=P
 par:∀x∈P,sc.names.lookup x=Ya .local∨sc.names.lookup x=Ya .cell
 nofree:∀y∈sc.names,y.2≠.free
theorem kJ{kindOf:Yh->Option zT}{x:Yh}:∀{binds:List (Yh×Yd)} {m:Yh->Option Yd},(∀v,(x,v)∉binds)->BF kindOf binds m x=m x
 |[],_,_=>rfl
 |(n,v)::r,m,h=>by
  unfold BF;rw[kJ λw hw=>h w (Yw _ hw)];split
  ·have:x≠n:=by rintro rfl;exact h v Yv
   simp[this]
  ·rfl
theorem kO{kindOf:Yh->Option zT}{x:Yh}:∀{binds:List (Yh×Yd)} {m:Yh->Option Yd},(∀v,(x,v)∉binds)->BG kindOf binds m x=m x
 |[],_,_=>rfl
 |(n,v)::r,m,h=>by
  unfold BG;rw[kO λw hw=>h w (Yw _ hw)];split
  ·rfl
  ·have:x≠n:=by rintro rfl;exact h v Yv
   simp[this]
theorem kM{kindOf:Yh->Option zT}{x:Yh}{v:Yd}:∀{P:List Yh} {vs:List Yd} {i:Nat} {m:Yh->Option Yd},P.Nodup->P[i]?=Ya x->vs[i]?=Ya v->kindOf x=Ya .local->
  BF kindOf (P.zip vs) m x=Ya v
 |[],_,_,_,_,h,_,_=>by simp at h
 |_::_,[],_,_,_,_,h,_=>by simp at h
 |p::P,w::vs,0,m,nd,h1,h2,hk=>by
  simp at h1 h2;subst h1;subst h2;show BF kindOf ((p,w)::P.zip vs) m p=_;unfold BF;rw[kJ λv a=>(zE.mp nd).1 (A0 a).1,if_pos hk];simp
 |p::P,w::vs,i+ 1,m,nd,h1,h2,hk=>by
  show BF kindOf ((p,w)::P.zip vs) m x=_;unfold BF;exact kM (i:=i) (zE.mp nd).2 (by simpa using h1) (by simpa using h2) hk
theorem kQ{kindOf:Yh->Option zT}{x:Yh}{v:Yd}:∀{P:List Yh} {vs:List Yd} {i:Nat} {m:Yh->Option Yd},P.Nodup->P[i]?=Ya x->vs[i]?=Ya v->kindOf x≠Ya .local->
  BG kindOf (P.zip vs) m x=Ya v
 |[],_,_,_,_,h,_,_=>by simp at h
 |_::_,[],_,_,_,_,h,_=>by simp at h
 |p::P,w::vs,0,m,nd,h1,h2,hk=>by
  simp at h1 h2;subst h1;subst h2;show BG kindOf ((p,w)::P.zip vs) m p=_;unfold BG;rw[kO λv a=>(zE.mp nd).1 (A0 a).1,if_neg hk];simp
 |p::P,w::vs,i+ 1,m,nd,h1,h2,hk=>by
  show BG kindOf ((p,w)::P.zip vs) m x=_;unfold BG;exact kQ (i:=i) (zE.mp nd).2 (by simpa using h1) (by simpa using h2) hk
noncomputable def ia(N:List Yh)(vs:List V):St:=vs.map Ya++List.replicate (N.length-vs.length) Yb
noncomputable def nG(CX:rB)(P:Yx)(w:YA)(K:Yc)(mg:Yh->Option Yd)(base:YC)(N:List Yh)(c:Yh)(a:y1)(f:Ye)(d:Yd)(A:YX)(outer:List zg)(s:Yg)(H:Hp)(E:XK):Cx where
 prog:=P
 w:=w
 K:=K
 mg:=mg
 base:=base
 A:=A.deeper (zv c a s.heap.objs.size f d)
 N:=N
 s₀:=s
 H₀:=H
 env:=zv c a s.heap.objs.size f d
 outer:=outer
 stack:=zv c a s.heap.objs.size f d::outer
 ex:=[]
 calm:=true
 fn:=λ_=>true
 pn:=[]
 xe:=λe s'=>Yj (Yn P w) (A.deeper (zv c a s.heap.objs.size f d)) (leaving (zv c a s.heap.objs.size f d) e) (λ_ b=>CX outer H s E e b) (λg b=>CX outer H s E g b) s'
theorem mQ{sc:y1}(h:sc.names.lookup x=Ya .cell):∃c,(C2 n sc.names []).lookup x=Ya c:=by
 have q:=Bg sc.names n [] (.inl h);exact AM.mp q
theorem pX{K:Yc}{f:Ye}{m:Yd}{t:Yg}{E:XK}(S:ax N ps scope)(hd:A.handled=Yb)(d:nP P w K mg base A outer s H)(G:vs.length=ps.length)(r:Vals vs us)(x:InCallC s s.heap.objs.size (BF (zv Ze scope s.heap.objs.size f m).kindOf (ps.zip us) λ_=>Yb) (C2 (s.heap.objs.size+ 1) scope.names []) (BG (zv Ze scope s.heap.objs.size f m).kindOf (ps.zip us) λ_=>Yb) t):
  au (nG CX P w K mg base N Ze scope f m A outer s H E) [] (ia N vs) H t:=by
 have C:ps.length<=N.length:=by have:=congrArg List.length S.pre;rw[Y9]at this;omega
 obtain⟨h1,I,rfl,hk⟩:=x.done;have g:∀b:Ye,b∉(nG CX P w K mg base N Ze scope f m A outer s H E).ex:=λb z=>absurd (show b∈([]:List Ye)from z) (by simp);refine⟨⟨d.mod,S.kind,rfl,rfl,Ym _,λy z c h1 h2=>?_,λy j=>?_,λy c _ h=>?_,λ_=>hd,Around.frames_deeper d.frames,.inr ⟨rfl,rfl⟩,λb z=>absurd z (g b),d.bs,d.bsz,λb _ _=>g b,λb z=>absurd z (g b),d.funs,d.frf⟩,
  rfl,d.bare,Un.kept hk,⟨_,x.toInCall.ns,λi y v h1 h2 h3=>?_⟩,λy c h=>⟨_,x.cell y c h⟩,d.hok.fresh (Ym _),λy c h=>?_,λp hp=>absurd (show p∈([]:List (Ye×YY))from hp) (by simp),d.hok.kept hk,?_⟩
 ·exact name_of_addr x.apart (cw h1) (cw h2)
 ·have j:scope.names.lookup y=Ya .cell∨scope.names.lookup y=Ya .free:=j;rcases j with j|j
  ·exact mQ j
  ·exact absurd rfl (S.nofree _ (cw j))
 ·exact yH (x.above y c (cw h))
 ·have o:i<vs.length:=by
   unfold ia at h2;by_cases o:i<vs.length
   ·exact o
   ·rw[List.getElem?_append_right (by simpa using o)]at h2;rw[List.getElem?_replicate]at h2;split at h2<;>cases h2
  have D:vs[i]?=Ya v:=by
   unfold ia at h2;rw[List.getElem?_append_left (by simpa using o),YG]at h2;cases e:vs[i]? with
   |none=>rw[e]at h2;cases h2
   |some a=>rw[e]at h2;cases h2;rfl
  obtain⟨u,B,F⟩:=r.get D;have hp:ps[i]?=Ya y:=by
   rw[←S.pre,List.getElem?_take_of_lt (by omega)];exact h1
  have l:ps.Nodup:=by rw[←S.pre];exact S.nd.sublist (AE _ _)
  refine⟨u,F,?_⟩;rcases S.par y (Y2 hp)with k|k
  ·exact .inl ⟨k,kM l hp B k⟩
  ·obtain⟨c,e⟩:=mQ (n:=s.heap.objs.size+ 1) k;refine .inr ⟨.inl k,c,e,?_⟩;have q:=x.cell y c e;rw[kQ l hp B (by show scope.names.lookup y≠_;rw[k];decide)]at q;exact q
 ·exact d.hok.fresh (yH (x.above y c (cw h)))
 ·unfold ia;show _=N.length;rw[Y8,Yk,List.length_replicate];omega
theorem xv{K:Yc}{f:Ye}{c:Arguments}{G kV i L a ct U:Yd}{M W:Option Ye}{z:Array (Option Yd)}(X:K.lookup f=Ya ⟨U,W,.func (yS name Ze c Zo scope G kV i L M a ct),z⟩)(B:Bp K a Ze=true)(S:ax N ps scope)(len:∀vs H Q E,sp vs H Q E->vs.length=ps.length)(d:∀(A:YX) (outer:List zg) (s:Yg) (H:Hp) (vs:List V) (Q:VK) (E:XK),cv k (A.deeper (zv Ze scope s.heap.objs.size f a))->sp vs H Q E->
   ∃t,pz (nG CX P w K mg base N Ze scope f a A outer s H E) Zo t/\t {nx:=λ_ H'=>Q .non H',rt:=Q} (ia N vs) H):
  az P w K mg base CX (k+ 1) f (yS name Ze c Zo scope G kV i L M a ct) ps sp:=by
 refine⟨len,λA outer s H O Y vs Q E C j Z r l=>?_⟩;have hl:=len _ _ _ _ l;have R:K.In s.heap:=j.mod.kin.keeps λb o e=>(j.bs b o e).1;have D:s.heap.NoLimit:=j.mod.nolimit.keeps λb o e=>(j.bs b o e).1;have g:∀y∈ps.zip Y,scope.names.lookup y.1=Ya .local∨(scope.names.lookup y.1=Ya .cell/\((C2 (s.heap.objs.size+ 1) scope.names []).lookup y.1).isSome=true):=fun⟨n,v⟩ hy=>by
  rcases S.par n (A0 hy).1 with q|q
  ·exact .inl q
  ·exact .inr ⟨q,Bg _ _ _ (.inl q)⟩
 refine codeAny_call_function C.depth (R _ _ X) rfl S.co S.gen rfl (PySem.W.codeRec_of R B) (Z _ _ _ _ ?_);refine wpAny_newFunctionEnv_cells S.kind g λenv he T x=>?_;subst he;refine⟨D.keeps x.toInCall.keep,codeAny_func ?_⟩;obtain⟨t,ht,hq⟩:=d A outer s H vs Q E (C.deeper _) l;have I:au (nG CX P w K mg base N Ze scope f a A outer s H E) [] (ia N vs) H T:=pX S C.hd j hl r x;refine zm (ht [] T (ia N vs) H _ I hq) (λfl s' h=>?_) λe s' h=>h;have m:∀{p:St} {H':Hp} {v:V} {u:Yd},au (nG CX P w K mg base N Ze scope f a A outer s H E) [] p H' s'->RelV v u->Q v H'->CE outer P w H s Q u s':=
  fun{p H' v u} J F q=>⟨v,H',J.os,J.bare,J.base,J.hok,F,q⟩
 cases fl with
 |ret u=>
  obtain⟨v,p,H',J,F,q⟩:=h;exact m J F q
 |next=>
  obtain⟨p,H',J,q⟩:=h;exact m (v:=V.non) (u:=zk) J rfl q
 |brk=>
  obtain⟨_,_,_,q⟩:=h;exact pe q
 |cont=>
  obtain⟨_,_,_,q⟩:=h;exact pe q
section
variable{id T:String}{r:List V->Hp->VK->Prop}
def xC(r:List V->Hp->VK->Prop)(t:TA):TE:=λσ H Q=>t σ H λa b=>r a b Q
theorem bf(d:cU X (.builtin id) r)(f:Gl X x)(hm:X.mg x=Yb)(g:yR x=Ya (.builtin id))(i:PA X (e::es) t)(hn:x≠"__name__":=by decide)(a:(x==("__debug__":Yh))=false:=by decide)
  (j:YK (e::es) X.env=(false,Y4 e X.env)::YK es X.env:=by rfl) (b:(zt Zc (YK es X.env)).any (·.1)=false:=by rfl):PE X (.Call (.Name x p) (e::es) [] Zc) (xC r t):=by
 intro c s σ H Q I h;refine zF (jZ I f hm g ?_ hn a);exact CJ (bZ (i Zc c s σ H _ I h) λk l ⟨m,n,o,q,u⟩=>d c l σ n m k Q o q u) j b
theorem bp(d:cU X (.type T) r)(f:Gl X x)(hm:X.mg x=Yb)(g:yR x=Ya (.type T))(i:PA X (e::es) t)(hn:x≠"__name__":=by decide)(a:(x==("__debug__":Yh))=false:=by decide)
  (j:YK (e::es) X.env=(false,Y4 e X.env)::YK es X.env:=by rfl) (b:(zt Zc (YK es X.env)).any (·.1)=false:=by rfl):PE X (.Call (.Name x p) (e::es) [] Zc) (xC r t):=by
 intro c s σ H Q I h;refine zF (jZ I f hm g ?_ hn a);exact zh (bZ (i Zc c s σ H _ I h) λk l ⟨m,n,o,q,u⟩=>d c l σ n m k Q o q u) j b
end
section
variable{κ:Type}[DecidableEq κ]
noncomputable def dG(a:List (κ×V))(k:κ):Option V:=(a.find? λb=>decide (b.1=k)).map (·.2)
noncomputable def iL(b:List (κ×V))(k:κ)(v:V):List (κ×V):=
 if(b.any λa=>decide (a.1=k))=true then b.map (λa=>if a.1=k then(a.1,v)else a)else b++[(k,v)]
theorem b9{p:κ×V}{r:List (κ×V)}{k:κ}(e:p.1=k):dG (p::r) k=Ya p.2:=by simp[dG,z3,e]
theorem b8{p:κ×V}{r:List (κ×V)}{k:κ}(e:¬ p.1=k):dG (p::r) k=dG r k:=by simp[dG,z3,e]
theorem kf(k:κ):∀Zd:List (κ×V),(Zd.any λa=>decide (a.1=k))=(dG Zd k).isSome
 |[]=>rfl
 |p::r=>by
  rw[BM];by_cases e:p.1=k
  ·simp only[b9 e,decide_eq_true e,Bool.true_or,Option.isSome_some]
  ·rw[b8 e,decide_eq_false e,Bool.false_or];exact kf k r
theorem mm(k j:κ)(y:V):∀Zd:List (κ×V),dG (Zd.map λa=>if a.1=k then(a.1,y)else a) j=(dG Zd j).map λx=>if j=k then y else x
 |[]=>rfl
 |p::r=>by
  have b:=mm k j y r;rw[ar];by_cases h:p.1=k
  ·rw[if_pos h];by_cases e:p.1=j
   ·rw[b9 (p:=(p.1,y)) e,b9 e,y3,if_pos (e.symm.trans h)]
   ·rw[b8 (p:=(p.1,y)) e,b8 e,b]
  ·rw[if_neg h];by_cases e:p.1=j
   ·rw[b9 (p:=p) e,b9 e,y3,if_neg (λz=>h (e.trans z))]
   ·rw[b8 (p:=p) e,b8 e,b]
theorem kH(k j:κ)(y:V):∀Zd:List (κ×V),dG Zd k=Yb->dG (Zd++[(k,y)]) j=if j=k then Ya y else dG Zd j
 |[],_=>by
  by_cases e:k=j
  ·rw[if_pos e.symm];exact b9 (p:=(k,y)) e
  ·rw[if_neg (λz=>e z.symm)];exact b8 (p:=(k,y)) e
 |p::r,hn=>by
  rw[List.cons_append];have hk:¬ p.1=k:=λz=>by rw[b9 z]at hn;cases hn
  rw[b8 hk]at hn;have a:=kH k j y r hn;by_cases e:p.1=j
  ·rw[b9 e,b9 e,if_neg (λz=>hk (e.trans z))]
  ·rw[b8 e,b8 e,a]
theorem qD(b:List (κ×V))(k j:κ)(y:V):dG (iL b k y) j=if j=k then Ya y else dG b j:=by
 unfold iL;by_cases a:(b.any λc=>decide (c.1=k))=true
 ·rw[if_pos a,mm];rw[kf]at a;by_cases e:j=k
  ·obtain⟨x,d⟩:=AM.mp a;rw[if_pos e,e,d,y3,if_pos rfl]
  ·rw[if_neg e];cases dG b j with
   |none=>rfl
   |some x=>rw[y3,if_neg e]
 ·rw[if_neg a];refine kH k j y b ?_;rw[kf]at a;cases q:dG b k with
  |none=>rfl
  |some x=>rw[q]at a;exact(a rfl).elim
theorem dJ(a:List (κ×V))(k:κ)(v:V):(iL a k v).length<=a.length+ 1:=by
 unfold iL;split
 ·rw[Yk];omega
 ·rw[Y8,YD,ir];omega
theorem KV.val{c:List (κ×V)}{vs:List (κ×Yd)}(r:KV c vs)(k:κ):gG (dG c k) (Bq vs k):=by
 unfold KV at r
 induction r with
 |nil=>exact zp
 |@cons p q ps qs h t ih=>
  obtain⟨h1,h2⟩:=h;by_cases e:p.1=k
  ·have a:q.1=k:=h1.symm.trans e;have b:Bq (q::qs) k=Ya q.2:=by simp[Bq,z3,a]
   rw[b9 e,b];exact h2
  ·have a:¬ q.1=k:=λz=>e (h1.trans z);have b:Bq (q::qs) k=Bq qs k:=by simp[Bq,z3,a]
   rw[b8 e,b];exact ih
theorem KV.any{b:List (κ×V)}{vs:List (κ×Yd)}(r:KV b vs)(k:κ):(b.any λa=>decide (a.1=k))=vs.any λa=>decide (a.1=k):=by
 unfold KV at r
 induction r with
 |nil=>rfl
 |cons h t ih=>rw[BM,BM,ih,h.1]
theorem KV.repl{b:List (κ×V)}{vs:List (κ×Yd)}(r:KV b vs)(k:κ)(c:RelV y u):
  KV (b.map λa=>if a.1=k then(a.1,y)else a) (vs.map λa=>if a.1=k then(a.1,u)else a):=by
 unfold KV at r⊢
 induction r with
 |nil=>exact .nil
 |@cons p q ps qs h t ih=>
  rw[ar,ar];refine .cons ?_ ih;obtain⟨h1,h2⟩:=h;by_cases e:p.1=k
  ·rw[if_pos e,if_pos (h1.symm.trans e)];exact⟨h1,c⟩
  ·rw[if_neg e,if_neg (λz=>e (h1.trans z))];exact⟨h1,h2⟩
theorem KV.put{a:List (κ×V)}{vs:List (κ×Yd)}(r:KV a vs)(k:κ)(b:RelV y u):KV (iL a k y) (stored vs k u):=by
 unfold iL stored;rw[r.any k];by_cases e:(vs.any λc=>decide (c.1=k))=true
 ·rw[if_pos e,if_pos e];exact r.repl k b
 ·rw[if_neg e,if_neg e];exact Paired.snoc r ⟨rfl,b⟩
theorem KV.length{a:List (κ×V)}{vs:List (κ×Yd)}(r:KV a vs):a.length=vs.length:=Aq r
end
section
theorem vX{u:HO}(ok:gF P w H h)(e:Rd H a u):bM P w H h a u:=e.ok ok
theorem wM(ok:gF P w H h)(e:Rd H a (.dK Zd)):Zd.length<=Yp/\(a==zl)=false/\∃vs,KV Zd vs/\h.DictOf (dQ P w) a vs:=
 show bM P w H h a (.dK Zd)from vX ok e
theorem vY(ok:gF P w H h)(e:H a=Ya (.dK Zd)):Zd.length<=Yp/\(a==zl)=false/\∃vs,KV Zd vs/\h.DictOf (dQ P w) a vs:=wM ok (.inl e)
end
section
variable{r:Yd}{o:Option V}
theorem au.big(I:au X Za σ H s):zl<s.heap.objs.size:=by
 have h:Yz<s.heap.objs.size:=(I.mod.glob.keeps I.bk).lt;exact Nat.lt_trans (by decide) h
theorem vh{vs:List (fP×Yd)}(z:Zd.length<=Yp)(hd:(a==zl)=false)(b:KV Zd vs)(c:h'.DictOf (dQ P w) a vs):
  bM P w H' h' a (.dK Zd):=⟨z,hd,vs,b,c⟩
end
section
variable{k:fP}
end
section
variable{o i:YL}
end
theorem qO(h:YC)(a:zl<h.objs.size):bM P w H (h.push {cls:=.type "dict",data:=.dict #[]}) h.objs.size (.dK []):=
 ⟨Y5 _,beq_eq_false_iff_ne.mpr (Ne.symm (YE a)),[],.nil,Heap.DictOf.new h⟩
def q8:TE:=λ_ H Q=>∀p,H p=Yb->Q (.ref p) (upd H p (.dK []))
section
theorem qJ:PE X (.Dict [] [] Zc) q8:=λb s σ H Q I h=>
 wpAny_Dict_empty ⟨.ref s.heap.objs.size,_,I.laid (a:=s.heap.objs.size) (o:=.dK []) (t':=s.toks) (λ_ _ q=>Yi _ q) (Ym _) (qO s.heap I.big),rfl,h _ (I.hok.fresh (Ym _))⟩
end
section
variable{d:V}{r:Yd}{o:Option V}
end
section
variable{o f:YL}{Zi:zP}{tx:TE}
end
section
end
section
end
end L2
namespace HT
open PySem PyProof.Rows
section
open PySem.SeqAt
open PySem.AutoSeq1 (wpAny_loadPart')
open PySem.MeetsSeq PySem.MeetsSeq2 PySem.MeetsSeq3
end
section
variable{prog:Yx}{w:YA}{A:YX}{E:Yd->Yg->Prop}{s:Yg}
noncomputable def mL(n d:Nat):Option Int->Nat
 |none=>d
 |some v=>if v<0 then(v+ (n:Int)).toNat else min v.toNat n
end
end HT
namespace L2
open PySem PySem.Spec PyProof.Rows
variable{X:Cx}{e:YL}{Zc:zP}{n j t':Nat}{i:Int}{Za:List (Ye×YY)}{σ:St}{H:Hp}{s:Yg}{T:String}{Zb:List Yd}
abbrev TO:=St->Hp->(Option Int->Hp->Prop)->Prop
def PO(X:Cx)(e:Option YL)(t:TO):Prop:=
 ∀(a:List (Ye×YY)) (s:Yg) (σ:St) (H:Hp) (Q:Option Int->Hp->Prop),au X a σ H s->t σ H Q->
  Yj (Yn X.prog X.w) X.A (evalPart e X.env) (λu s'=>∃o b,au X a σ b s'/\IsPart u o/\Q o b) X.xe s
def oT:TO:=λ_ H Q=>Q Yb H
def tI(t:TE):TO:=λσ H Q=>t σ H λx a=>∃i,x=.int i/\Q (Ya i) a
theorem nN{ns:List Int}:∀{us:List Yd},Vals (ns.map V.int) us->yM us ns:=by
 induction ns with
 |nil=>intro us r;rw[B2]at r;cases r;exact .nil
 |cons n ns ih=>
  intro us r;rw[ar]at r;cases r with
  |cons r1 r2=>
   obtain⟨t,e⟩:=r1;subst e;exact .cons n t (ih r2)
section
variable{te:TE}{lo hi:Option YL}{tl th:TO}{p2:zP}
theorem lC:PO X Yb oT:=by
 intro a s σ H Q I h;rw[Dc];exact Yl ⟨Yb,H,I,.none,h⟩
theorem lz(h:PE X e te):PO X (Ya e) (tI te):=by
 intro a s σ H Q I hw;rw[evalPart_some];refine bZ (h a s σ H _ I hw) λu j b=>?_;obtain⟨x,c,d,f,g⟩:=b;obtain⟨i,rfl,q⟩:=g;obtain⟨t,rfl⟩:=f;exact⟨Ya i,c,d,.int i t,q⟩
def xD(X:Cx)(r:V->Option Int->Option Int->Hp->VK->Prop):Prop:=
 ∀(a:List (Ye×YY)) (s:Yg) (σ:St) (H:Hp) (x:V) (v b c:Yd) (lo d:Option Int) (e:Ye) (Q:VK),au X a σ H s->RelV x v->s.heap.IsSliceOf e b c .none->IsPart b lo->IsPart c d->r x lo d H Q->
  ∃T id,typeLookup (.type T) "__getitem__"=pure (Ya (.builtin id))/\s.TypeIs v T/\Yj (Yn X.prog X.w) X.A (DD v (.ref e)) (EP X a σ Q) X.xe s
def ym(r:V->Option Int->Option Int->Hp->VK->Prop)(a:TE)(b c:TO):TE:=λσ H Q=>a σ H λx d=>b σ d λl e=>c σ e λu f=>r x l u f Q
theorem kg{r:V->Option Int->Option Int->Hp->VK->Prop}(j:xD X r)(k:PE X e te)(m:PO X lo tl)(n:PO X hi th):PE X (.Subscript e (.Slice lo hi Yb p2) Zc) (ym r te tl th):=by
 intro c s σ H Q I h;refine Subscript_ (bZ (k c s σ H _ I h) λv o d=>?_);obtain⟨x,p,t,w,y⟩:=d;refine wpAny_Slice (bZ (m c o σ p _ t y) λf z d=>?_);obtain⟨l,A,B,C,D⟩:=d;refine bZ (n c z σ A _ B D) λg a d=>?_;obtain⟨u,i,E,F,G⟩:=d;rw[Dc];refine Yl ?_;have J:au X c σ i {a with heap:=a.heap.push {cls:=.type "slice",data:=.fields #[f,g,.none]}}:=E.kept (t':=a.toks) λb ob q=>Yi _ q;obtain⟨T,id,K,L,M⟩:=j c {a with heap:=a.heap.push {cls:=.type "slice",data:=.fields #[f,g,.none]}} σ i x v f g l u a.heap.objs.size Q J w (Heap.IsSliceOf.new ..) C F G;show Yj (Yn X.prog X.w) X.A (Dd e (.Slice lo hi Yb p2) v (.ref a.heap.objs.size)) (EP X c σ Q) X.xe {a with heap:=a.heap.push {cls:=.type "slice",data:=.fields #[f,g,.none]}};exact tail_any (ops:=[.ref a.heap.objs.size,v]) L K M (by with_unfolding_all rfl)
noncomputable def m3(xs:List V)(lo a:Option Int):List V:=(xs.drop (HT.mL xs.length 0 lo)).take (HT.mL xs.length xs.length a-HT.mL xs.length 0 lo)
theorem jq(xs:List V)(lo a:Option Int):(m3 xs lo a).length<=xs.length:=by
 unfold m3;rw[Y9,Cs];omega
end
noncomputable def vG(n:Nat)(i:Int):Option Nat:=if 0<=i then(if i<n then Ya i.toNat else Yb)else if-(n:Int)<=i then Ya (i+ n).toNat else Yb
noncomputable def dH{α:Type}(xs:List α)(i:Int):Option α:=(vG xs.length i).bind λj=>xs[j]?
theorem sN(h:vG n i=Ya j):seqIndex? i n=Ya j/\j<n/\-(n:Int)<=i/\i<n:=by
 unfold vG at h;by_cases h0:0<=i
 ·rw[if_pos h0]at h;by_cases h1:i<n
  ·rw[if_pos h1]at h;have e:i.toNat=j:=YS h;exact⟨by rw[seqIndex_of h0 h1,e],by omega,by omega,h1⟩
  ·rw[if_neg h1]at h;cases h
 ·rw[if_neg h0]at h;by_cases h1:-(n:Int)<=i
  ·rw[if_pos h1]at h;have e:(i+ n).toNat=j:=YS h;exact⟨by rw[Dk (by omega) h1,e],by omega,h1,by omega⟩
  ·rw[if_neg h1]at h;cases h
theorem kY{α:Type}{xs:List α}{v:α}(h:dH xs i=Ya v):∃j,seqIndex? i xs.length=Ya j/\xs[j]?=Ya v/\j<xs.length/\-(xs.length:Int)<=i/\i<xs.length:=by
 unfold dH at h;cases e:vG xs.length i with
 |none=>rw[e]at h;cases h
 |some j=>
  rw[e]at h;obtain⟨h1,h2,h3,h4⟩:=sN e;exact⟨j,h1,h,h2,h3,h4⟩
theorem ak{α:Type}{xs:List α}{v:α}(h:xs[j]?=Ya v):dH xs (j:Int)=Ya v:=by
 have a:j<xs.length:=(YW.mp h).1;have e:vG xs.length (j:Int)=Ya j:=by
  unfold vG;rw[if_pos (by omega),if_pos (by omega)];simp
 unfold dH;rw[e];exact h
def sQ(b:YL):Prop:=∀o i,subscripted b false o i=operate [o,i] (DD o i)
def vE(X:Cx)(r:R2):Prop:=
 ∀(c a:YL) (b:List (Ye×YY)) (s:Yg) (σ:St) (H:Hp) (x y:V) (v u:Yd) (Q:VK),au X b σ H s->RelV x v->RelV y u->r x y H Q->
  subscripted a false v u=operate [v,u] (DD v u)->Yj (Yn X.prog X.w) X.A (Dd c a v u) (EP X b σ Q) X.xe s
def wj(X:Cx)(id:String)(r:V->List V->Hp->VK->Prop):Prop:=
 ∀(a:List (Ye×YY)) (s:Yg) (σ:St) (H:Hp) (x:V) (b:List V) (v:Yd) (c:List Yd) (Q:VK),au X a σ H s->RelV x v->Vals b c->r x b H Q->
  Yj (Yn X.prog X.w) X.A (call (.builtin id) (v::c)) (EP X a σ Q) X.xe s
section
variable{a b:YL}{ta tb:TE}
theorem a7{r:R2}(c:vE X r)(d:PE X a ta)(e:PE X b tb)(f:sQ b):PE X (.Subscript a b Zc) (wU r ta tb):=by
 intro g s σ H Q I h;exact Subscript_ (ug d e I h λv u i x y j k l m q=>c a b g i σ j x y v u Q k l m q (f _ _))
def uX(K:Yc):R2:=λx y H Q=>∃p a i v,x=.ref p/\y=.int i/\bP K H p a/\dH a i=Ya v/\Q v H
def vm(K:Yc):R2:=λx y H Q=>∃p a i v,x=.ref p/\y=.int i/\cu K H p a/\dH a i=Ya v/\Q v H
def xU:R2:=λx y H Q=>∃z i c,x=.str z/\y=.int i/\z.length<=Yp/\dH z.cps.toList i=Ya c/\Q (.str ⟨#[c]⟩) H
theorem rW:vE X (uX X.K):=by
 intro C b f s σ H x y v u Q I l m h g;obtain⟨p,D,i,z,rfl,rfl,n,o,q⟩:=h;cases l;obtain⟨t,rfl⟩:=m;obtain⟨A,r,c,E⟩:=I.list n;obtain⟨j,h1,h2,h3,h4,h5⟩:=kY o;obtain⟨w,k,d⟩:=r.get h2;have B:=r.length;have hn:=i0;have a:EP X f σ Q w s:=⟨z,H,I,d,q⟩;by_cases h0:0<=i
 ·have e:i.toNat=j:=by
   rw[seqIndex_of h0 h5]at h1;exact YS h1
  exact item_listR c.isList h0 (by omega) (by rw[e];simpa using k) a g
 ·have e:(i+ (A.toArray.size:Int)).toNat=j:=by
   rw[Dk (by omega) h4]at h1;rw[Ys,←B];exact YS h1
  exact Bh (x:=w) c.isList.typeIs Ci.lookup
   (wpAny_getItem_list_neg (Q:=λr s'=>r=w/\EP X f σ Q r s') c.isList (by omega) (by rw[Ys]<;>omega) (by omega) (by rw[e];simpa using k) ⟨rfl,a⟩) g
theorem tV:vE X (vm X.K):=by
 intro A a d s σ H x y v u Q I f g h k;obtain⟨p,B,i,z,rfl,rfl,l,m,q⟩:=h;cases f;obtain⟨t,rfl⟩:=g;obtain⟨C,r,e,D⟩:=I.tuple l;obtain⟨j,h1,h2,h3,h4,h5⟩:=kY m;obtain⟨w,n,b⟩:=r.get h2;have o:=r.length;have hn:=i0;have c:EP X d σ Q w s:=⟨z,H,I,b,q⟩;exact Bh (x:=w) e.typeIs slot_tuple_getitem.lookup
  (getItem_tuple (j:=j) (Q:=λr s'=>r=w/\EP X d σ Q r s') e (by omega) (by omega) (by rw[Ys,←o];exact h1) (by simpa using n) ⟨rfl,c⟩) k
theorem u5:vE X xU:=by
 intro m a n s σ H x y v u Q I b d h e;obtain⟨z,i,c,rfl,rfl,o,f,q⟩:=h;obtain⟨t,rfl⟩:=b;obtain⟨p,rfl⟩:=d;obtain⟨j,h1,h2,h3,h4,h5⟩:=kY f;have g:z.cps.toList.length=z.length:=by simp[Str.length]
 rw[g]at h1 h4 h5;have hn:=i0;exact tail_any (z4 s z t) slot_str_getitem.lookup (getItem_str (c:=c) (by
  have k:decide (i< -(2^63:Int))=false:=decide_eq_false (by omega);have l:decide (i≥2^63)=false:=decide_eq_false (by omega);rw[k,l,BN]) (by rw[h1];simpa using h2) ⟨.str ⟨#[c]⟩,H,I.tok _,⟨_,rfl⟩,q⟩) e
theorem mh(lo a:Option Int)(n:Nat):(zy lo a Yb n).1=((HT.mL n 0 lo:Nat):Int)/\(zy lo a Yb n).2.1=((HT.mL n n a:Nat):Int)/\(zy lo a Yb n).2.2=1:=by
 refine⟨?_,?_,rfl⟩
 ·cases lo with
  |none=>simp[zy,HT.mL]
  |some i=>
   simp only[zy,HT.mL,Ct,show(1:Int)>0 by decide,if_true];by_cases h:i<0
   ·simp only[h,if_true]<;>omega
   ·simp only[h,if_false]<;>omega
 ·cases a with
  |none=>simp[zy,HT.mL]
  |some i=>
   simp only[zy,HT.mL,Ct,show(1:Int)>0 by decide,if_true];by_cases h:i<0
   ·simp only[h,if_true]<;>omega
   ·simp only[h,if_false]<;>omega
theorem kl(a:List Yd)(lo b:Option Int):slicePick a.toArray lo b Yb=((a.drop (HT.mL a.length 0 lo)).take (HT.mL a.length a.length b-HT.mL a.length 0 lo)).toArray:=by
 obtain⟨h1,h2,h3⟩:=mh lo b a.toArray.size;unfold slicePick;rw[h1,h2,h3];simp only[sliceRange_one,pick_run,Ys]<;>rfl
def vi(K:Yc):V->Option Int->Option Int->Hp->VK->Prop:=λx lo c H Q=>∃a b,x=.ref a/\bP K H a b/\∀p,H p=Yb->Q (.ref p) (upd H p (.lst (m3 b lo c)))
theorem sj:xD X (vi X.K):=by
 intro n s σ H x v p t lo e u Q I g i j k h;obtain⟨a,c,rfl,l,q⟩:=h;cases g;obtain⟨w,r,f,m⟩:=I.list l;have d:=r.length;refine⟨"list",_,Ci.lookup,f.isList.typeIs,?_⟩;refine wpAny_getItem_list_slice f.isList i j k .none (by simp) ?_ (by rw[Ys]<;>omega);rw[kl,←d];refine⟨.ref s.heap.objs.size,_,I.laid (t':=s.toks) (o:=.lst (m3 c lo e)) (λb ob q=>Yi _ q) (Ym _) ?_,rfl,q _ (I.hok.fresh (Ym _))⟩;exact⟨YJ (jq c lo e) m,_,0,(r.drop (HT.mL c.length 0 lo)).take (HT.mL c.length c.length e-HT.mL c.length 0 lo),Yo _ rfl⟩
theorem l7:cU X (.builtin "len") (λxs H Q=>∃p b,xs=[.ref p]/\(bP X.K H p b∨cu X.K H p b)/\Q (.int b.length) H):=by
 intro j s σ H xs k Q I r h;obtain⟨p,b,rfl,c,q⟩:=h;obtain⟨u,rfl,f⟩:=eM r;cases f;have hn:=i0;rcases c with c|c
 ·obtain⟨g,d,e,i⟩:=I.list c;have a:=d.length;exact Calls.call_len_list e.isList (by simp only[Ys]<;>omega) ⟨.int b.length,H,I.tok _,⟨s.toks+ 1,by rw[Ys,a]⟩,q⟩
 ·obtain⟨g,d,e,i⟩:=I.tuple c;have a:=d.length;exact len_tuple e (by simp only[Ys]<;>omega) ⟨.int b.length,H,I.tok _,⟨s.toks+ 1,by rw[Ys,a]⟩,q⟩
theorem lQ:cU X (.builtin "len") (λxs H Q=>∃z,xs=[.str z]/\z.length<=Yp/\Q (.int z.length) H):=by
 intro a s σ H xs b Q I r h;obtain⟨z,rfl,c,q⟩:=h;obtain⟨u,rfl,t,rfl⟩:=eM r;have hn:=i0;exact len_str (by omega) ⟨.int z.length,H,I.tok _,⟨_,rfl⟩,q⟩
theorem km:cU X (.type "tuple") (λxs H Q=>∃p a,xs=[.ref p]/\((bP X.K H p a/\∀l,H l=Yb->Q (.ref l) (upd H l (.tup a)))∨(cu X.K H p a/\Q (.ref p) H))):=by
 intro j s σ H xs w Q I r h;obtain⟨p,a,rfl,h⟩:=h;obtain⟨u,rfl,t⟩:=eM r;cases t;rcases h with⟨d,q⟩|⟨d,q⟩
 ·obtain⟨f,g,i,k⟩:=I.list d;have m:=g.length;refine call_tuple_list i.isList (λc kp=>?_) (by simp only[Ys]<;>omega);have n:au X j σ H {s with heap:=c}:=I.kept (t':=s.toks) kp;have v:au X j σ (upd H c.objs.size (.tup a)) {s with heap:=c.push {cls:=.type "tuple",data:=.seq f.toArray}}:=
   n.laid (t':=s.toks) (λb o e=>Yi _ e) (Ym _) (show bM X.prog X.w _ _ _ (.tup a)from⟨k,f,g,iD.new _ _⟩)
  exact⟨.ref c.objs.size,_,v,rfl,q _ (n.hok.fresh (Ym _))⟩
 ·obtain⟨f,g,i,k⟩:=I.tuple d;exact call_tuple_same i ⟨.ref p,H,I,rfl,q⟩
def vD(K:Yc)(T:String)(x:V)(H:Hp):Prop:=match x with
 | .str _=>T="str"
 | .int _=>T="int"
 | .ref p=>(T="list"/\∃b,bP K H p b)∨(T="tuple"/\∃o,K.lookup p=Ya o/\o.cls=.type "tuple"/\o.dict=Yb)∨
   (T="dict"/\((∃a,H p=Ya (.dK a))∨∃a,H p=Ya (.dT a)))∨(T="set"/\∃S n,H p=Ya (.set S n))
 |_=>False
theorem qW{x:V}{v:Yd}(I:au X Za σ H s)(r:RelV x v)(ty:vD X.K T x H):
  s.TypeIs v T/\∀a,v=.ref a->∃ob,s.heap.get? a=Ya ob/\ob.dict=none:=by
 cases x with
 |str z=>
  obtain⟨t,rfl⟩:=r;cases (show T="str"from ty);exact⟨z4 s z t,λ_ e=>nomatch e⟩
 |int i=>
  obtain⟨t,rfl⟩:=r;cases (show T="int"from ty);exact⟨typeIs_int s i t,λ_ e=>nomatch e⟩
 |ref p=>
  cases r;rcases ty with⟨rfl,j,f⟩|⟨rfl,o,hk,g,hd⟩|⟨rfl,hk⟩|⟨rfl,S,n,hk⟩
  ·obtain⟨k,_,d,_⟩:=I.list f;refine⟨d.isList.typeIs,λa e=>?_⟩;cases e;obtain⟨o,n,e,c,hd,_⟩:=d;exact⟨o,e,hd⟩
  ·refine⟨⟨o,I.kIn p o hk,g⟩,λa e=>?_⟩;cases e;exact⟨o,I.kIn _ o hk,hd⟩
  ·have z:∃o,s.heap.get? p=Ya o/\o.ExactDict:=by
    rcases hk with⟨h,hk⟩|⟨h,hk⟩
    ·obtain⟨_,_,_,_,o,_,_,e,ex,_⟩:=I.hok p _ hk;exact⟨o,e,ex⟩
    ·obtain⟨_,_,_,_,o,_,_,e,ex,_⟩:=I.hok p _ hk;exact⟨o,e,ex⟩
   obtain⟨o,e,ex⟩:=z;refine⟨⟨o,e,ex.1⟩,λa b=>?_⟩;cases b;exact⟨o,e,ex.2.1⟩
  ·obtain⟨o,_,_,_,e,ex,_⟩:=I.hok p _ hk;refine⟨⟨o,e,ex.1⟩,λa b=>?_⟩;cases b;exact⟨o,e,ex.2.1⟩
 |_=>exact pe ty
def xF(K:Yc)(T:String)(r:V->List V->Hp->VK->Prop)(b:TE)(t:TA):TE:=λσ H Q=>b σ H λx a=>vD K T x a/\t σ a λc d=>r x c d Q
variable{o:YL}{es:List YL}{to:TE}{t:TA}{name:Yh}{Zh Zi:zP}{id:String}{r:V->List V->Hp->VK->Prop}
theorem jd(l:PlainAttrs T)(slot:Slot T name id)(f:typeOf (.builtin id)=pure (.type "method_descriptor"))(hm:wj X id r)(m:PE X o to)(n:PA X (e::es) t)
  (b:Au o name X.env (Y4 o X.env)=Y4 o X.env:=by rfl)
  (d:((zt Zi (YK (e::es) X.env)).all (λx=>!x.1)&&(Dm Zi (Cp [] X.env)).all (λx=>x.1.isSome)
   &&decide ((e::es).length+ ([]:List CU).length+ (if([]:List CU).isEmpty then 0 else 1)<30))=true:=by rfl)
  (c:(Zh.endLine==Zi.line)=true:=by rfl) (p:YK (e::es) X.env=(false,Y4 e X.env)::YK es X.env:=by rfl) (a:(zt Zi (YK es X.env)).any (·.1)=false:=by rfl):
  PE X (.Call (.Attribute o name Zh) (e::es) [] Zi) (xF X.K T r to t):=by
 intro g s σ H Q I h;refine wpAny_Call_method_late b d c rfl (bZ (m g s σ H _ I h) λv q u=>?_);obtain⟨x,w,i,j,ty,y⟩:=u;obtain⟨h1,h2⟩:=qW i j ty;refine⟨T,id,l,slot,f,h1,h2,?_⟩;have k:=n Zi g q σ w _ i y;rw[p]at k⊢;refine Calls.callWith_builtin (by show(false||(zt Zi (YK es X.env)).any (·.1))=false;rw[a]<;>rfl) (Calls.evalArgs_plain ?_);exact bZ k λz A ⟨B,C,D,E,F⟩=>hm g A σ C x B v z Q D j E F
end
def yk(X:Cx)(id:String)(r:V->List V->Hp->VK->Prop):Prop:=
 ∀(a:List (Ye×YY)) (s:Yg) (σ:St) (H:Hp) (x:V) (b:List V) (v:Yd) (c:List Yd) (Q:VK),au X a σ H s->RelV x v->Vals b c->r x b H Q->
  Yj (Yn X.prog X.w) X.A (call (.builtin id) (v::c)) (EP X a σ Q) X.xe s
theorem Vals.one:∀{x:V} {us:List Yd},Vals [x] us->∃u,us=[u]/\RelV x u:=by
 intro x us h;cases h with|cons r t=>
 cases t;exact⟨_,rfl,r⟩
theorem Vals.two:∀{x y:V} {us:List Yd},Vals [x,y] us->∃u v,us=[u,v]/\RelV x u/\RelV y v
 |_,_,_,.cons r (.cons q .nil)=>⟨_,_,rfl,r,q⟩
section
variable{l b:Ye}{xs ys zs:List V}
theorem au.lset{its':List Yd}{f:Array Yd->Array Yd}(I:au X Za σ H s)(a:H l=Ya (.lst xs))(e:s.heap.get? l=Ya {cls:=.type "list",data:=.seq Zb.toArray n})(b:f Zb.toArray=its'.toArray)(c:Vals ys its')(hz:ys.length<=Yp):
  au X Za σ (upd H l (.lst ys)) {s with heap:=s.heap.update l (z5 f),toks:=t'}:=by
 have q:=PySem.IsL.update e f;rw[b]at q;refine I.write (x:=l) (e:=l) (by rw[a];exact trivial) (.inl rfl) (λh u d g=>(lr s.heap (z5 f) (Ne.symm d)).trans g) ⟨_,q⟩ ?_;exact⟨hz,its',_,c,q⟩
theorem au.lnew(I:au X Za σ H s)(a:Vals ys Zb)(hz:ys.length<=Yp):
  au X Za σ (upd H s.heap.objs.size (.lst ys)) {s with heap:=s.heap.push {cls:=.type "list",data:=.seq Zb.toArray},toks:=t'}:=
 I.laid (λ_ _ q=>Yi _ q) (Ym _) ⟨hz,Zb,0,a,Yo _ rfl⟩
theorem au.fresh(I:au X Za σ H s):H s.heap.objs.size=none:=I.hok.fresh (Ym _)
theorem au.lstM(I:au X Za σ H s)(a:H l=Ya (.lst xs)):xs.length<=Yp/\∃(Zb:List Yd) (n:Nat),Vals xs Zb/\xs.length=Zb.length/\s.heap.get? l=Ya {cls:=.type "list",data:=.seq Zb.toArray n}:=by
 obtain⟨z,Zb,n,r,e⟩:=I.hok l _ a;exact⟨z,Zb,n,r,r.length,e⟩
theorem qy(h:n<=Yp):zG n=false:=by
 unfold zG;exact decide_eq_false (by omega)
end
section
def jM:V->List V->Hp->VK->Prop:=λx b H Q=>∃l a y,x=.ref l/\b=[y]/\H l=Ya (.lst a)/\a.length<Yp/\Q .non (upd H l (.lst (a++[y])))
theorem kG:yk X "list.append" jM:=by
 intro g s σ H x i v j Q I c d h;obtain⟨l,k,y,rfl,rfl,a,m,q⟩:=h;cases c;obtain⟨u,rfl,f⟩:=d.one;obtain⟨z,b,n,r,o,e⟩:=I.lstM a;refine AH F.slot_list_append ⟨_,e,rfl⟩ F.entry_list_append (F.args_list_append_2 _ _) (PySem.list_append l b.toArray n u (by rw[Ys];omega)) ⟨e,?_⟩;refine⟨.non,_,I.lset (its':=b++[u]) a e (by simp) (r.append (.cons f .nil)) ?_,rfl,q⟩;rw[Y8,List.length_singleton];omega
def rY:V->List V->Hp->VK->Prop:=λx d H Q=>∃l b a c,x=.ref l/\d=[.ref b]/\H l=Ya (.lst a)/\H b=Ya (.lst c)/\a.length+ c.length<=Yp/\Q .non (upd H l (.lst (a++c)))
theorem vF:yk X "list.extend" rY:=by
 intro w s σ H x y v A Q I i j h;obtain⟨l,b,B,C,rfl,rfl,g,k,D,q⟩:=h;cases i;obtain⟨u,rfl,m⟩:=j.one;cases m;obtain⟨z,d,n,r,E,e⟩:=I.lstM g;obtain⟨G,a,n2,o,p,t⟩:=I.lstM k;have f:d.toArray.size+ a.toArray.size<=Yp:=by rw[Ys,Ys];omega
 have c:¬ (!d.toArray.isEmpty&&zG (d.toArray.size+ a.toArray.size))=true:=by
  rw[qy f,Bool.and_false];exact Yt
 refine AH F.slot_list_extend ⟨_,e,rfl⟩ F.entry_list_extend (F.args_list_extend_2 _ _)
  (AutoSeq1.list_extend_list_list_0 l d.toArray n b a.toArray n2 c (by rw[Ys];omega) (by omega)) ⟨e,t,?_⟩
 refine⟨.non,_,I.lset (its':=d++a) g e (by simp) (r.append o) ?_,rfl,q⟩;rw[Y8];omega
def xo:R2:=λx y H Q=>∃l b a c,x=.ref l/\y=.ref b/\H l=Ya (.lst a)/\H b=Ya (.lst c)/\a.length+ c.length<=Yp/\∀p,H p=Yb->Q (.ref p) (upd H p (.lst (a++c)))
theorem va:iY X (zo .Add) xo:=by
 intro p s σ H x y v u Q I d f h;obtain⟨l,b,t,w,rfl,rfl,g,i,A,q⟩:=h;cases d;cases f;obtain⟨z,c,n,r,B,e⟩:=I.lstM g;obtain⟨C,a,n2,j,k,m⟩:=I.lstM i;refine PySem.P.add_list e m ?_ (by rw[Ys,Ys];omega);have o:c.toArray++a.toArray=(c++a).toArray:=by simp
 rw[o];exact⟨.ref _,_,I.lnew (t':=s.toks) (r.append j) (by rw[Y8];omega),rfl,q _ I.fresh⟩
end
section
variable{prog:Yx}{w:YA}{A:YX}{E:Yd->Yg->Prop}
end
section
end
end L2
namespace Att
open PySem PySem.W PySem.Calls PyProof.Rows
variable{P:Params}{h:YC}{l:OpenLaw}{n:Nat}
theorem jC:∀(ns:List Int) (vs:List Yd),WellAll P h vs (ns.map WData.int)->yM vs ns:=by
 intro ns
 induction ns with
 |nil=>
  intro vs w;rw[B2]at w;cases w;exact .nil
 |cons n ns ih=>
  intro vs w;rw[ar]at w;cases w with
  |cons a b=>
   cases a;exact .cons _ _ (ih _ b)
theorem o4(hn:l.most=Ya n){b:List WData}{i:List Yd}(c:l.row.toRowW.claim.pre b=true)(f:WellAll P h i b):
  ∃a vs ns,i=[Y7 a]/\b=[WData.list (ns.map WData.int)]/\h.get? a=Ya {cls:=.type "list",data:=.seq vs.toArray}/\yM vs ns/\ns.length<=n:=by
 have g:WShape.hasAll [] b [.list .int]=true:=(pre_splitW c).1;have j:l.pre.holds [] {args:=b}=true:=(pre_splitW c).2;obtain⟨d,r,rfl,h1,h2⟩:=hasAllW_cons g;obtain rfl:=hasAllW_nil h2;obtain⟨m,rfl,h3⟩:=hasW_list h1;obtain⟨ns,rfl⟩:=items_int h3;have e:ns.length<=n:=by
  unfold OpenLaw.pre at j;have h4:(WTm.not (.lt (.lit (.int (n:Int))) (.len (.arg 0)))).holds [] {args:=[.list (ns.map .int)]}=true:=by
   have h4:=(holds_andW j).1;rw[hn]at h4;exact h4
  have h5:=condW_of h4 (w_not (w_lt w_lit (w_len_list (w_arg rfl))));rw[Yk]at h5;refine Nat.le_of_not_lt λq=>?_;have k:(n:Int)<((ns.length:Nat):Int):=by omega
  first
   |(rw[decide_eq_true k]at h5;exact absurd h5 (by decide))
   |(simp at h5;omega)
 cases f with
 |cons w1 w2=>
  cases w2;cases w1 with
  |list ho hall=>exact⟨_,_,ns,rfl,rfl,ho,jC ns _ hall,e⟩
theorem pO(l:OpenLaw)(a:List WData):l.row.toRowW.claim.post a (.bool true) a=true:=
 postW_of (r:=l.row.toRowW) (X:=(true==true))
  (show WShape.has [] (.bool true) .bool=true by first|rfl|decide|simp[WShape.has,WShape.arms,WShape.armsAll])
  (show(WTm.eq .res (.lit (.bool true))).value [] {args:=a,res:=Ya (.bool true),after:=a}=Ya (.bool (true==true))from w_eq_bool (w_res rfl) w_lit) rfl
theorem attach_call{q:Yx}{b:List Yh}{y:(Yh->Option Yd)->YC->Prop}{z:YA->YC->Prop}{d:DefRec}(hn:l.most=Ya n)(p:d.params.defaults=[])(call:∀(w:YA) (s₀ c:Yg) (mg s:Yh->Option Yd) (h:Ye) (o:YY) (t m e:Yd) (a:Ye) (vs:List Yd) (ns:List Int),
   Ground q b [] y w s₀ mg s c.heap->z w c.heap->
   c.heap.get? h=Ya o->o.data=.func (docDef d.name d.params d.body d.scope t m e)->c.heap.CodeRec m d.name->mg d.name=Ya (.ref h)->
   c.heap.get? a=Ya {cls:=.type "list",data:=.seq vs.toArray}->yM vs ns->ns.length<=n->c.gens=#[]->
   yC (Yn l.prog w) AI (.call (.ref h) ⟨[.ref a],[]⟩) (λr s'=>r=.ok (.ret (.bool true))/\OldK c.heap s'.heap/\s'.os=c.os/\zV s'.gens) c):
  WalkO q b y z l.row.toRowW d [] (λf vs=>PySem.call f vs):=by
 intro w s₀ c mg s G Y h o t m e D kV E hd u A v F B K L i C H x I;obtain rfl:D=.none:=Dflts.none A p;obtain rfl:kV=.none:=Dflts.noKw A;obtain⟨a,vs,ns,rfl,rfl,j,g,k⟩:=o4 hn i x;refine enter_call (codeAny_mono (call w s₀ c mg s h o t m e a vs ns G Y E (fd_plain hd) u v j g k F) λr s' J=>?_);obtain⟨rfl,h2,h3,h4⟩:=J;exact⟨.inl ⟨.bool true,.bool true,[],rfl,λ_=>rfl,.bool true,pO l _,λ_=>⟨List.Pairwise.nil,λ_ hm=>(nomatch hm)⟩⟩,h2,h3,h4⟩
section
variable{prog:Yx}{w:YA}{A:YX}{E:Yd->Yg->Prop}{s:Yg}{K:Frag}
end
end Att
namespace L2
open PySem PySem.Spec PyProof.Rows
variable{P:Yx}{w:YA}{mg:Yh->Option Yd}{k n:Nat}{a f:Ye}{fd:Yu}{x Ze:Yh}{sp:Sp}{X:Cx}{ps:List Yh}{A B:Prop}{H:Hp}
theorem iM:∀{vs:List Yd} {ns:List Int},yM vs ns->Vals (ns.map V.int) vs
 |_,_,.nil=>.nil
 |_,_,.cons n t h=>.cons ⟨t,rfl⟩ (iM h)
def u3(H:Hp):Prop:=∀b,H b=Yb∨∃o a,H b=Ya (.frz o (.lst a))
theorem qq{K:Yc}{I:Yh->Option Yd}{CX:rB}{J:Ye}{c:Yg}{vs:List Yd}{ns:List Int}(R:K.In c.heap)(p:c.heap.Ns Yz mg)(g:c.heap.Ns CB I)(L:∀x:Yh,x≠"__name__"->I x=yR x)(t:c.heap.NoLimit)(Z:c.gens=#[])(G:c.heap.get? a=Ya {cls:=.type "list",data:=.seq vs.toArray})(S:yM vs ns)(T:ns.length<=Yp)(hr:cv k AI)(F:∀base:YC,K.In base->base.Ns Yz mg->az P w K mg base CX k J fd [x] sp)(l:∀(s:Yg) (u:Yd),Bo s fd ⟨[u],[]⟩ [(x,u)])(M:∀H:Hp,u3 H->bP K H a (ns.map V.int)->sp [.ref a] H (λv _=>v=.bl true) λ_ _ _=>False)(N:∀H e s',CX [] H c (λ_ _ _=>False) e s'->False):
  yC (Yn P w) AI (.call (.ref J) ⟨[.ref a],[]⟩) (λr s'=>r=.ok (.ret (.bool true))/\OldK c.heap s'.heap/\s'.os=c.os/\zV s'.gens) c:=by
 have U:=iM S;have y:=S.length
 -- from an abstract heap in which nothing but the script may be tracked
 have j:∀H:Hp,u3 H->bP K H a (ns.map V.int)->gF P w H c.heap->(∀b,H b≠Yb->b=a)->(H a≠Yb->K.lookup a=Yb)->
   yC (Yn P w) AI (.call (.ref J) ⟨[.ref a],[]⟩) (λr s'=>r=.ok (.ret (.bool true))/\OldK c.heap s'.heap/\s'.os=c.os/\zV s'.gens) c:=by
  intro H W hS hok X hK;have f:∀{b:Ye} {o:YY},c.heap.get? b=Ya o->H b=Yb->(lB c.heap H).get? b=Ya o:=λe n=>qt e n;have O:∀{b:Ye} {o:YY} {A:Array C3} {B:Nat},c.heap.get? b=Ya o->o.data=.dict A B->H b=none:=fun{b o A B} e d=>by
   cases q:H b with
   |none=>rfl
   |some u=>
    have Q:b=a:=X b (by rw[q];simp);subst Q;rw[G]at e;cases e;have d':Data.seq vs.toArray _=Data.dict A B:=d;cases d'
  have i:∀{b:Ye} {m:Yh->Option Yd},c.heap.Ns b m->(lB c.heap H).Ns b m:=fun{b m} ⟨o,A,B,e,d,r⟩=>⟨o,A,B,f e (O e d),d,r⟩;have C:K.In (lB c.heap H):=λb o e=>f (R b o e) (by
   cases q:H b with
   |none=>rfl
   |some u=>
    have Q:b=a:=X b (by rw[q];simp);subst Q;rw[hK (by rw[q];simp)]at e;cases e)
  have hM:Mod K mg (lB c.heap H):=⟨C,i p,⟨I,i g,L⟩,let ⟨mc,h1,h2⟩:=t;⟨mc,i h1,h2⟩⟩;have e0:nP P w K mg (lB c.heap H) AI [] c H:=⟨rfl,hM,λb o e=>se e,z1 (o6 _ _),trivial,λb g=>absurd (show b∈([]:List Ye)from g) (by simp),hok,.of_eq Z⟩;refine codeAny_mono ((F _ C (i p)).run AI [] c H ⟨[.ref a],[]⟩ [.ref a] [.ref a] _ _ hr e0 (l c (.ref a)) (.cons rfl .nil) (M H W hS)) λr s' h=>?_;cases r with
  |error e=>exact(N H e s' h).elim
  |ok fl=>
   cases fl with
   |next=>exact pe h
   |brk=>exact pe h
   |cont=>exact pe h
   |ret u=>
    obtain⟨v,H',os,bare,un,D,r',q⟩:=h;have q':v=.bl true:=q;subst q';obtain rfl:u=zJ true:=r';refine⟨rfl,OldK.of_keep λb o e=>?_,os,bare⟩;cases q:H b with
    |none=>exact un.keep b o e q (by intro z;exact absurd (show b∈([]:List Ye)from z) (by simp)) (by simp)
    |some u=>
     rcases W b with z|⟨ob,xs,z⟩
     ·rw[q]at z;cases z
     ·have z2:=un.frzs b ob _ z;obtain⟨Y,_⟩:=hok b _ z;obtain⟨e2,_⟩:=D b _ z2;rw[e]at Y;cases Y;exact e2
 cases hk:K.lookup a with
 |some o=>
  -- the script is one of the module's own objects
  have e:=R a o hk;rw[G]at e;cases e;refine j (λ_=>Yb) (λ_=>.inl rfl) (.inr ⟨_,vs.toArray,_,hk,rfl,rfl,rfl,by rw[Ys,y];exact T,by simpa using U⟩) (λb u z=>by have E:(Yb:Option HO)=Ya u:=z;cases E) (λb z=>absurd rfl z) λz=>absurd rfl z
 |none=>
  refine j (λb=>if b=a then Ya (.frz {cls:=.type "list",data:=.seq vs.toArray} (.lst (ns.map V.int)))else Yb) (λb=>?_) (.inl (.inr ⟨{cls:=.type "list",data:=.seq vs.toArray},if_pos rfl⟩)) (λb u z=>?_) (λb z=>?_) λ_=>hk
  ·by_cases g:b=a
   ·exact .inr ⟨_,_,if_pos g⟩
   ·exact .inl (if_neg g)
  ·by_cases g:b=a
   ·have E:=(if_pos g).symm.trans z;cases E;subst g;exact⟨G,by rw[Yk];exact T,vs,_,U,G⟩
   ·have E:=(if_neg g).symm.trans z;cases E
  ·by_cases g:b=a
   ·exact g
   ·exact absurd (if_neg g) z
theorem sM{l:CK}{q:Yx}{c:List Yh}{B:(Yh->Option Yd)->YC->Prop}{z:YA->YC->Prop}{d:DefRec}{K:Params->Yc}{CX:YA->rB}{sp:YA->Sp}(hn:l.most=Ya n)(m:n<=Yp)(p:d.params.defaults=[])(C:cv k AI)(D:∀(w:YA) (h:YC),z w h->(K w.params).In h)(F:∀(w:YA) (mg:Yh->Option Yd) (j:Ye) (h:YC),(K w.params).In h->h.Ns Yz mg->mg d.name=Ya (.ref j)->
   ∃fd:Yu,(∀(s:Yg) (u:Yd),Bo s fd ⟨[u],[]⟩ [(x,u)])/\
    ∀base:YC,(K w.params).In base->base.Ns Yz mg->az l.prog w (K w.params) mg base (CX w) k j fd [x] (sp w)) (r:∀(w:YA) (H:Hp) (a:Ye) (ns:List Int),ns.length<=n->u3 H->bP (K w.params) H a (ns.map V.int)->sp w [.ref a] H (λv _=>v=.bl true) λ_ _ _=>False) (t:∀(w:YA) (H:Hp) (s:Yg) (e:Yd) (s':Yg),CX w [] H s (λ_ _ _=>False) e s'->False):
  De q c B z l.row.toRowW d [] (λf vs=>PySem.call f vs):=by
 refine Att.attach_call hn p λw s₀ E mg Q j o R S I a vs ns G Y T hd J y i g b L=>?_;have A:=D w _ Y;obtain⟨fd,M,N⟩:=F w mg j _ A G.T.g y;exact qq A G.T.g G.T.b G.T.builtins G.T.nolimit L i g (YJ b m) C N M (λH O P=>r w H a ns b O P) λH e s'=>t w H E e s'
noncomputable def dY(s:YZ)(j:Nat):YZ:=match s with
 | .ClassDef _ _ _ Zo _ _ _ _ _ _ _=>Zo.getD j (.Pass ⟨0,0,0,0⟩)
 |_=>.Pass ⟨0,0,0,0⟩
noncomputable def er(s:YZ):Arguments:=match s with
 | .FunctionDef _ a _ _ _ _ _ _ _ _=>a
 |_=>{posonlyargs:=[],args:=[],vararg:=Yb,kwonlyargs:=[],kw_defaults:=[],kwarg:=Yb,defaults:=[]}
noncomputable def c8(s:YZ):List YZ:=match s with
 | .FunctionDef _ _ b _ _ _ _ _ _ _=>b
 |_=>[]
noncomputable def aj(s:YZ):y1:=match s with
 | .FunctionDef _ _ _ _ _ _ sc _ _ _=>sc
 |_=>{kind:=.function,names:=[],isGenerator:=false,isCoroutine:=false}
abbrev bN:rB:=λ_ _ _ _ _ _=>False
abbrev E0:XK:=λ_ _ _=>False
theorem kS:jS bN X E0:=λ_ _ _ _ _ _ _ h=>h.elim
structure b7(K:Yc)(x Ze:Yh)(st:YZ)(f:Ye)(fd:Yu):Prop where
 ex:∃(oc:Yd) (od:Option Ye) (kV doc pm:Yd) (an:Option Ye) (cdv ct:Yd) (osl:Array (Option Yd)),
  fd=yS x Ze (er st) (c8 st) (aj st) .none kV doc pm an cdv ct/\K.lookup f=Ya ⟨oc,od,.func fd,osl⟩/\Bp K cdv Ze=true
 kp:yP K (.ref f)=true
section
variable{K:Yc}{base:YC}
theorem b7.ok{st:YZ}{N:List Yh}(F:b7 K x Ze st f fd)(S:ax N ps (aj st))(len:∀vs H Q E,sp vs H Q E->vs.length=ps.length)(b:∀(a:Yd) (A:YX) (outer:List zg) (s:Yg) (H:Hp) (vs:List V) (Q:VK) (E:XK),cv k (A.deeper (zv Ze (aj st) s.heap.objs.size f a))->sp vs H Q E->
   ∃t,pz (nG bN P w K mg base N Ze (aj st) f a A outer s H E).nox (c8 st) t/\t {nx:=λ_ e=>Q .non e,rt:=Q} (ia N vs) H):az P w K mg base bN (k+ 1) f fd ps sp:=by
 obtain⟨m,n,kV,g,o,p,a,ct,i,rfl,j,c⟩:=F.ex;refine xv j c S len λA outer s H vs Q E l d=>?_;obtain⟨t,h,q⟩:=b a A outer s H vs Q E l d;exact⟨t,h.nox,q⟩
theorem b7.binds{st:YZ}(F:b7 K x Ze st f fd)(h:∀(kV a c:Yd) (d:Option Ye) (b ct:Yd) (us:List Yd),us.length=ps.length->Cr (yS x Ze (er st) (c8 st) (aj st) .none kV a c d b ct) ⟨us,[]⟩=pure (ps.zip us)):Binds K fd ps []:=by
 obtain⟨i,j,kV,a,c,d,b,ct,e,rfl,k,g⟩:=F.ex;exact .all (h kV a c d b ct)
theorem uB{st:YZ}{h:Yd}{i e:Option Ye}{d:Array (Option Yd)}{kV b g a ct:Yd}(l:K.lookup f=Ya ⟨h,i,.func (yS x Ze (er st) (c8 st) (aj st) .none kV b g e a ct),d⟩)(c:Bp K a Ze=true)(k:yP K (.ref f)=true):b7 K x Ze st f (yS x Ze (er st) (c8 st) (aj st) .none kV b g e a ct):=⟨⟨h,i,kV,b,g,e,a,ct,d,rfl,l,c⟩,k⟩
end
theorem wO{A:YX}(a:cv k A):A.units+ 1<zL:=B3 (Nat.add_le_add_left (by decide:1<=64) _) a.units
theorem aX(h:n<=1000):n<Yp:=B3 h (by decide)
section
theorem pv(i:Nat){b:zP}(c:X.N[i]?=Ya x:=by rfl)(d:xP X.env.scope x:=by first|exact Or.inl rfl|exact Or.inr (Or.inl rfl)|exact Or.inr (Or.inr rfl))(hd:(x==("__debug__":Yh))=false:=by decide)(a:(x==("__classdict__":Yh))=false:=by decide):PE X (.Name x b) (sE i):=vk c d hd a
end
theorem xW(h:B):if false=true then A else B:=by
 rw[if_neg Yt];exact h
theorem xI(h:A):if true=true then A else B:=by
 rw[if_pos rfl];exact h
theorem cI{c:Prop}[Decidable c](h1:c->A)(h2:¬ c->B):if c then A else B:=by
 by_cases h:c
 ·rw[if_pos h];exact h1 h
 ·rw[if_neg h];exact h2 h
def aJ(H a:Hp):Prop:=∀b o,H b=Ya o->a b=Ya o
theorem aJ.trans{d e:Hp}(a:aJ H d)(b:aJ d e):aJ H e:=λc o h=>b c o (a c o h)
theorem aJ.seq{K:Yc}{b:Hp}{xs:List V}(e:aJ H b)(h:bP K H a xs):bP K b a xs:=by
 rcases h with(h|⟨o,h⟩)|h
 ·exact .inl (.inl (e _ _ h))
 ·exact .inl (.inr ⟨o,e _ _ h⟩)
 ·exact .inr h
section
variable{κ:Type}[DecidableEq κ]
end
end L2
namespace GX
open PySem
variable{env:zg}{sc:y1}{n:Yh}{c:Ye}
theorem jR{α β:Type}{f:α->β->BU (ForInStep β)}(g:α->β->β):∀(l:List α) (b:β),(∀x∈l,∀b,f x b=pure (.yield (g x b)))->
  forIn l b f=pure (l.foldl (λb x=>g x b) b)
 |[],b,_=>rfl
 |x::l,b,h=>by
  simp only[List.forIn_cons,h x (.head _),pure_bind];exact jR g l (g x b) λy a=>h y (Yw _ a)
noncomputable def gz(env:zg)(x:Yh×zT)(a:List (Yh×Ye)):List (Yh×Ye):=if x.2==.free then(x.1,(env.cells.lookup x.1).getD 0)::a else a
theorem nR(h:∀y∈sc.names,y.2=.free->∃c,env.cells.lookup y.1=Ya c):
  CL sc env=pure (sc.names.foldl (λb x=>gz env x b) []):=by
 simp only[CL];rw[jR (gz env) sc.names [] (λx d b=>by
  obtain⟨n,k⟩:=x;unfold gz;by_cases hk:k=.free
  ·subst hk;obtain⟨c,a⟩:=h _ d rfl;have e:cellOf env n=pure c:=by unfold cellOf;rw[a]
   simp[e,a]
  ·have f:(k==YV)=false:=by simpa using hk
   simp only[f,Ap,if_false])]
 rfl
theorem j4{env:zg}:∀(l:List (Yh×zT)) (a:List (Yh×Ye)),(∀y∈l,y.2=.free->∃c,env.cells.lookup y.1=Ya c)->(∀p∈a,env.cells.lookup p.1=Ya p.2)->
  ∀p∈l.foldl (λb x=>gz env x b) a,env.cells.lookup p.1=Ya p.2
 |[],a,_,ha=>ha
 |x::l,a,h,ha=>by
  refine j4 l _ (λy d=>h y (Yw _ d)) λp hp=>?_;unfold gz at hp;dsimp only at hp;by_cases hk:x.2=.free
  ·obtain⟨c,e⟩:=h x Yv hk;rw[hk]at hp;simp only[beq_self_eq_true,if_true]at hp;rcases YF.mp hp with rfl|hp
   ·rw[e];rfl
   ·exact ha p hp
  ·have f:(x.2==YV)=false:=by simpa using hk
   simp only[f,Ap,if_false]at hp;exact ha p hp
theorem j2{env:zg}{n:Yh}:∀(l:List (Yh×zT)) (a:List (Yh×Ye)),((∃c,(n,c)∈a)∨(n,YV)∈l)->∃c,(n,c)∈l.foldl (λb x=>gz env x b) a
 |[],a,h=>by
  rcases h with h|h
  ·exact h
  ·cases h
 |x::l,a,h=>by
  refine j2 l _ ?_;unfold gz;dsimp only;rcases h with⟨c,h⟩|h
  ·refine .inl ⟨c,?_⟩;split
   ·exact Yw _ h
   ·exact h
  ·rcases YF.mp h with h|h
   ·refine .inl ?_;subst h;exact⟨_,by rw[if_pos (by rfl)];exact .head _⟩
   ·exact .inr h
theorem gn{n:Yh}{c:Ye}:∀{l:List (Yh×Ye)},(n,c)∈l->∃a,l.lookup n=Ya a
 |[],h=>by cases h
 |(m,d)::l,h=>by
  rw[AN];cases e:n==m with
  |true=>exact⟨d,rfl⟩
  |false=>
   rcases YF.mp h with h|h
   ·cases h;simp at e
   ·exact gn h
theorem qb{n:Yh}{c:Ye}:∀{l:List (Yh×Ye)},l.lookup n=Ya c->(n,c)∈l
 |[],h=>by cases h
 |(m,d)::l,h=>by
  rw[AN]at h;cases e:n==m with
  |true=>
   rw[e]at h;have a:n=m:=by simpa using e
   have b:d=c:=YS h;rw[a,b];exact Yv
  |false=>
   rw[e]at h;exact Yw _ (qb h)
theorem jP(h:∀y∈sc.names,y.2=.free->∃c,env.cells.lookup y.1=Ya c):
  ∃cl,CL sc env=pure cl/\(∀x c,cl.lookup x=Ya c->env.cells.lookup x=Ya c)/\(∀n,(n,YV)∈sc.names->∃c,cl.lookup n=Ya c):=by
 refine⟨_,nR h,λx c e=>?_,λn hn=>?_⟩
 ·exact j4 sc.names [] h (λp hp=>by cases hp) (x,c) (qb e)
 ·obtain⟨c,a⟩:=j2 (env:=env) sc.names [] (.inr hn);exact gn a
theorem eW{x:Yh}{a:List (Yh×zT)}:
  (a.map fun(n,k)=>if(k==YV&&env.scope.kind==.function&&env.kindOf n==Ya .cell)then(n,pw)else(n,k)).lookup x
  =(a.lookup x).map λk=>if(k==YV&&env.scope.kind==.function&&env.kindOf x==Ya .cell)then pw else k:=by
 induction a with
 |nil=>rfl
 |cons p r ih=>
  obtain⟨n,k⟩:=p;rw[ar];by_cases e:x=n
  ·subst e;dsimp only;split<;>simp_all
  ·have b:(x==n)=false:=by simpa using e
   dsimp only;split<;>simp only[AN,b]<;>exact ih
noncomputable def l8(d a:YL)(e:List YL)(it b:Yd)(env:zg):BU Bool:=do
 match←zu it with
 |none=>pure false
 |some v=>
  z0 a it v
  Bm a env v
  let ok←forIn e true λc r=>if r=true then do let ok←CC c env (Y4 c env);pure (z6 ok)else pure (z6 r)
  if ok=true then do
   let x←Y4 d env;let _←call (.builtin "list.append") [b,x]
   pure true
  else pure true
theorem sv(d a e:YL)(f:List YL)(b:y1)(g:zP)(it c:Yd)(env:zg):
  compTurn (.ListComp d [⟨a,e,f,0⟩] b g) 0 it c env=(do
   CS e.pos
   let more←l8 d a f it c env
   if more=true then again (.compLoop (.ListComp d [⟨a,e,f,0⟩] b g) 0 it c env)else pure (.done .next)):=by
 rw[compTurn_list,l8];simp only[bind_assoc];congr 1;funext _;congr 1;funext r;cases r with
 |none=>simp
 |some v=>
  simp only[bind_assoc];congr 1;funext _;congr 1;funext _;congr 1;funext ok;cases ok<;>simp
theorem mB{prog:Yx}{w:YA}{A:YX}{R:AL->Yg->Prop}{s:Yg}{e a g:YL}{f:List YL}{b:y1}{i:zP}{it c:Yd}(I:Nat->Yg->Prop)(d:∀n s,I n s->Yj (Yn prog w) A (l8 e a f it c env) (λmore s'=>if more=true then∃m,m<n/\I m s' else R (.ok .next) s') (λ_ _=>False) s)(n:Nat)(h:I n s):
  yC (Yn prog w) A (.compLoop (.ListComp e [⟨a,g,f,0⟩] b i) 0 it c env) R s:=by
 apply codeAny_loop rfl I _ n h;intro n s j;apply wpAny_noted;rw[sv];change Yj _ A _ _ _ _;apply Yf;apply Df;apply Yf;refine zm (d n s j) (λmore s' q=>?_) λ_ _ z=>z.elim;cases more
 ·exact Yl q
 ·exact Yl ⟨rfl,q⟩
end GX
namespace GX
open PySem PySem.Spec PyProof.Rows
variable{B:zA}{A:YX}{R:AL->Yg->Prop}
section
variable{prog:Yx}{w:YA}
theorem enter{id:String}{a:Args}{Sp:PySem.Spec}{s:Yg}(b:BH Dh id=Ya B)(hp:plainId id=true)(m:MeetsIn prog w (B a) Sp)(h:Sp A R s):
  yC (Yn prog w) A (.builtin id a) R s:=A9 b (by rw[Around.under_plainId hp];exact m A R s h)
variable{key:Yd}{op:CmpOp}{lp:String}{l I S:Ye}{vs:List Yd}{bt:Nat->Nat->Bool}{G:List (Nat×Yd)->Yg->Prop}{kw:List (Yh×Yd)}
end
end GX
namespace GX
open PySem
end GX
namespace GB
end GB
namespace GB
end GB
namespace L2
open PySem PySem.Spec PyProof.Rows
variable{X:Cx}{H:Hp}{h:YC}{C D:Ye}{Zm tg Zf:YL}{Zj es:List YL}{sc:y1}{Zc:zP}{g:TG}{tt:TT}{te:TE}{σ:St}{Qe:Hp->Prop}{wi:TI}{x:Yh}
noncomputable def wH(N:List Yh)(sc:y1)(x:Yh):Option Nat->Bool
 |none=>true
 |some j=>decide (N[j]?=Ya x)&&decide (sc.names.lookup x=Ya .free)
def ql(N c:List Yh)(a:List (Option Nat))(b sc:y1):Prop:=
 (∀y∈sc.names,y.2≠.cell)/\(∀y∈sc.names,y.2=.local->sc.names.lookup y.1=Ya .local)/\
 (∀y∈sc.names,y.2=.free->b.names.lookup y.1=Ya .cell∨b.names.lookup y.1=Ya .free)/\
 c.Nodup/\a.length=c.length/\∀p∈c.zip a,wH N sc p.1 p.2=true
noncomputable instance (N N':List Yh) (src:List (Option Nat)) (esc sc:y1):Decidable (ql N N' src esc sc):=by unfold ql;infer_instance
noncomputable def mn(a:List (Option Nat))(σ:St):St:=a.map λo=>o.bind λj=>(σ[j]?).bind λv=>v
noncomputable def Cx.blk(X:Cx)(a:List Yh)(sc:y1)(cl:List (Yh×Ye))(C:Ye)(b:Yg)(c:Hp)(d:List Ye):Cx:=
 {X with N:=a,s₀:=b,H₀:=c,env:=compEnvC sc cl C X.env,outer:=X.stack,ex:=d,fn:=λ_=>false,pn:=[],xe:=λ_ _=>False}
def xG(X:Cx)(b:List YL)(t:TT):Prop:=
 ∀(a:List (Ye×YY)) (s:Yg) (σ:St) (H:Hp) (Q:Bool->Hp->Prop),au X a σ H s->t σ H Q->
  Yj (Yn X.prog X.w) X.A (forIn b true λc r=>if r=true then do let ok←CC c X.env (Y4 c X.env);pure (z6 ok)else pure (z6 r)) (TP X a σ Q) X.xe s
def wZ:TT:=λ_ H Q=>Q true H
theorem fH:xG X [] wZ:=λ_ _ _ H _ I h=>wpAny_tests_nil ⟨H,I,h⟩
theorem Un.but{fs ex:List Ye}{f:Hp}{h1 h2:YC}(u:Un fs ex H f h h1)(c:yI C h1 h2)(g:h.get? C=Yb):Un fs ex H f h h2:=
 have ne:∀b o,h.get? b=Ya o->b≠C:=λb o e z=>by rw[z,g]at e;cases e
 ⟨λb o e n d a=>(c.2 b (ne b o e)).trans (u.keep b o e n d a),λb o e n d a=>let ⟨sl,z⟩:=u.slot b o e n d a;⟨sl,(c.2 b (ne b o e)).trans z⟩,u.free,
  λb o e a=>let ⟨o',z⟩:=u.there b o e a;⟨o',(c.2 b (ne b o e)).trans z⟩,u.tups,u.frzs,u.tbls⟩
theorem gF.but{P:Yx}{w:YA}{h':YC}(x:gF P w H h)(f:yI C h h')(d:H C=Yb):gF P w H h':=λb ob e=>by
 refine(x b ob e).stay (λc v a q=>(f.2 c ?_).trans q) (λ_ q=>q) λ_ _ q=>q;rintro rfl;rcases a with rfl|a
 ·rw[d]at e;cases e
 ·rw[d]at a;cases a
def eN(g:TG)(f:TT)(h:TE)(D:Ye)(N:St->Hp->Prop)(x:V)(σ:St)(H:Hp):Prop:=
 g x σ H λa i=>f a i λb d=>if b=true then h a d λy e=>∃c,e D=Ya (.lst c)/\c.length<Yp/\N a (upd e D (.lst (c++[y])))else N a d
def qo(c:List (Option Nat))(k:TI)(g:TG)(l:TT)(n:TE):TE:=λσ H Q=>k σ H λJ d=>∀D,d D=Yb->∃W:Nat->Nat->St->Hp->Prop,(∃m,W 0 m (mn c σ) (upd d D (.lst [])))/\
 ∀i m e a,W i m e a->(J.stop i a/\Q (.ref D) a)∨(J.go i a/\∃N:St->Hp->Prop,(∀f h,N f h->∃j,j<m/\W (i+ 1) j f h)/\
  ∀x b,J.yld i a x b->eN g l n D N x e b)
theorem kR{t:List Yh}{D:List (Option Nat)}{cl:List (Yh×Ye)}{Za:List (Ye×YY)}{d:Hp}{a:Yg}{it:Ye}{f:List Ye}{tn:Nat->YC->Prop}{J:It}{W:Nat->Nat->St->Hp->Prop}{m0:Nat}{RR:Yd->Ye->AL->Yg->Prop}(hc:X.calm=true)(hk:sc.kind=.function)(hB:ql X.N t D X.env.scope sc)(h:∀x c,cl.lookup x=Ya c->X.env.cells.lookup x=Ya c)(P:∀n,(n,YV)∈sc.names->∃c,cl.lookup n=Ya c)(hg:∀cl C a d f,t.Nodup->PG (X.blk t sc cl C a d f) tg g)(ht:∀cl C a d f,xG (X.blk t sc cl C a d f) Zj tt)(he:∀cl C a d f,PE (X.blk t sc cl C a d f) Zm te)(s:au X Za σ d a)(T:nD X.prog X.w X.K tg J f it tn)(L:tn 0 a.heap)(f2:∀b∈f,mV X Za d b)(w0:W 0 m0 (mn D σ) (upd d a.heap.objs.size (.lst [])))(ab:∀i m Q A,W i m Q A->(J.stop i A/\Qe A)∨(J.go i A/\∃N:St->Hp->Prop,(∀σ2 d,N σ2 d->∃m',m'<m/\W (i+ 1) m' σ2 d)/\
   ∀x ac,J.yld i A x ac->eN g tt te a.heap.objs.size N x Q ac)) (as:∀C s4 U V,a.heap.objs.size<=C->au (X.blk t sc cl C a d f) [] U V s4->Qe V->RR (.ref a.heap.objs.size) C (.ok .next) s4):
  Yj (Yn X.prog X.w) X.A (CV []) (λad s₃=>Yj (Yn X.prog X.w) X.A (newFunctionEnv sc X.env.globals cl [] X.env.qual Yb .none (Ya X.env)) (λR s₄=>
   yC (Yn X.prog X.w) X.A (.compStart (.ListComp Zm [⟨tg,Zf,Zj,0⟩] sc Zc) 0 (.ref it) ad {R with scope:=relabel sc X.env}) (RR ad R.locals) s₄) X.xe s₃) X.xe a:=by
 obtain⟨b1,b2,b3,b4,b5,b6⟩:=hB;refine yO (wpAny_newFunctionEnv b1 (by intro y hy;simp at hy) (λh₁ Y M=>?_) hk);dsimp only at Y M⊢;generalize hP:a.heap.push {cls:=.type "list",dict:=Yb,data:=.seq ([]:List Yd).toArray}=Hl at Y M⊢;have hC:Hl.objs.size=a.heap.objs.size+ 1:=by rw[←hP,zd]
 have ag:a.heap.objs.size≠Hl.objs.size:=by rw[hC];exact YE (zq _)
 have G:∀{b:Ye} {o:YY},a.heap.get? b=Ya o->b≠Hl.objs.size:=fun{b o} z=>by
  have:=Yq z;rw[hC];exact YE (zN this)
 have E:∀b o,a.heap.get? b=Ya o->h₁.get? b=Ya o:=λb o z=>M.extBut b o (G z) (Yi _ (hP▸Yi _ z));have av:h₁.get? a.heap.objs.size=Ya {cls:=.type "list",data:=.seq ([]:List Yd).toArray}:=M.extBut _ _ ag (Yi _ (hP▸Yo _ rfl));have fD:d a.heap.objs.size=none:=s.hok.fresh (Ym _);have fC:d Hl.objs.size=none:=s.hok.fresh (by rw[hC];exact y6 _);have ok:(X.blk t sc cl Hl.objs.size a d f).Ok:=by
  refine⟨s.ok.mod,hk,s.ok.glob,s.ok.blt,?_,λx y c h1 h2=>s.ok.inj x y c (h x c h1) (h y c h2),λx hx=>?_,λx c z=>?_,s.ok.hd,s.ok.frames,.inl rfl,λb l=>⟨?_,λx c z=>(f2 b l).2.2.2.2.1 x c (h x c z)⟩,
   s.bs,YJ s.ok.bsz s.sz,λb o z l=>?_,λb l z=>?_,s.stack,s.stkFree⟩
  ·show a.heap.objs.size<=Hl.objs.size;rw[hC];exact y6 _
  ·have F:(sc.names.map fun(n,k)=>if(k==YV&&X.env.scope.kind==.function&&X.env.kindOf n==Ya .cell)then(n,pw)else(n,k)).lookup x=Ya .cell∨
     (sc.names.map fun(n,k)=>if(k==YV&&X.env.scope.kind==.function&&X.env.kindOf n==Ya .cell)then(n,pw)else(n,k)).lookup x=Ya .free:=hx
   rw[GX.eW]at F;cases e:sc.names.lookup x with
   |none=>
    rw[e]at F;simp at F
   |some k=>
    rw[e]at F;by_cases hf:k=.free
    ·subst hf;exact P x (cw e)
    ·have l:(k==YV)=false:=by simpa using hf
     have O:((Ya k).map λk=>if(k==YV&&X.env.scope.kind==.function&&X.env.kindOf x==Ya .cell)then pw else k)=Ya k:=by
      show Ya (if(k==YV&&X.env.scope.kind==.function&&X.env.kindOf x==Ya .cell)=true then pw else k)=Ya k;rw[l,Ah,Ah];rfl
     rw[O]at F;rcases F with z|z
     ·exact absurd (YS z) (b1 _ (cw e))
     ·exact absurd (YS z) hf
  ·cases z
  ·obtain⟨o,z,_⟩:=T.obj 0 _ L b l;exact G z
  ·rcases(f2 b l).2.2.2.1 with f3|f3
   ·exact s.ok.noex b o z f3
   ·have l1:=Yq z;have l2:=s.ok.bsz;exact absurd (Yy l1 (YJ l2 f3)) (yE _)
  ·rcases YF.mp (s.stkSub b z)with z|z
   ·exact(f2 b l).2.1 z
   ·exact(f2 b l).2.2.1 z
 have IY:au (X.blk t sc cl Hl.objs.size a d f) [] (mn D σ) (upd d a.heap.objs.size (.lst [])) {a with heap:=h₁,toks:=a.toks+ ([]:List (Yh×Yd)).length}:=by
  refine⟨ok,rfl,s.bare,Un.laid E (Ym _) fD,⟨_,Y,λi x v e1 O _=>?_⟩,λx c z=>?_,?_,λx c z=>?_,λp hp=>?_,s.hok.laid E (Ym _) ⟨Y5 _,[],0,.nil,av⟩,?_⟩
  ·have ay:t[i]?=Ya x:=e1;unfold mn at O;rw[YG]at O;cases es:D[i]? with
   |none=>rw[es]at O;cases O
   |some o=>
    rw[es]at O;cases o with
    |none=>cases O
    |some j=>
     have e3:(σ[j]?).bind (λv=>v)=Ya v:=YS O;have e4:σ[j]?=Ya (Ya v):=by
      cases q:σ[j]? with
      |none=>rw[q]at e3;cases e3
      |some w=>rw[q]at e3;exact congrArg Ya e3
     have hz:(x,Ya j)∈t.zip D:=Y2 (i:=i) (by rw[List.getElem?_zip_eq_some];exact⟨ay,es⟩);have al:=b6 _ hz;have B:(decide (X.N[j]?=Ya x)&&decide (sc.names.lookup x=Ya .free))=true:=al;rw[Cu]at B;have c1:X.N[j]?=Ya x:=of_decide_eq_true B.1;have c2:sc.names.lookup x=Ya .free:=of_decide_eq_true B.2;have H:=cw c2;have am:=b3 _ H rfl;obtain⟨m,hn,hl⟩:=s.loc;obtain⟨u,ru,lk⟩:=hl j x v c1 e4 (.inr am);rcases lk with⟨k1,_⟩|⟨_,c,k2,z⟩
     ·have aB:X.env.scope.names.lookup x=Ya .local:=k1;rcases am with v|v<;>(rw[aB]at v;cases v)
     ·obtain⟨c',k3⟩:=P x H;have k4:=h x c' k3;rw[k2]at k4;cases k4;refine⟨u,ru,.inr ⟨?_,c,k3,z.keeps E⟩⟩;show(sc.names.map fun(n,k)=>if(k==YV&&X.env.scope.kind==.function&&X.env.kindOf n==Ya .cell)then(n,pw)else(n,k)).lookup x=Ya .cell∨
       (sc.names.map fun(n,k)=>if(k==YV&&X.env.scope.kind==.function&&X.env.kindOf n==Ya .cell)then(n,pw)else(n,k)).lookup x=Ya .free
      rw[GX.eW,c2];show Ya (if _ then pw else YV)=_∨Ya (if _ then pw else YV)=_;split
      ·exact .inl rfl
      ·exact .inr rfl
  ·obtain⟨v,q⟩:=s.cell x c (h x c z);exact⟨v,q.keeps E⟩
  ·show upd d a.heap.objs.size (.lst []) Hl.objs.size=Yb;rw[aA (Ne.symm ag)];exact fC
  ·obtain⟨v,q⟩:=s.cell x c (h x c z);rw[aA (YE q.lt)];exact s.freeC x c (h x c z)
  ·exact absurd (show p∈([]:List (Ye×YY))from hp) (by simp)
  ·show(D.map _).length=t.length;rw[Yk];exact b5
 have I:∀{A:Hp},(∀b∈f,A b=Yb)->∀b∈f,mV (X.blk t sc cl Hl.objs.size a d f) [] A b:=λhn b l=>
  ⟨hn b l,(ok.exf b l).1,ok.exfs b l,.inl l,(ok.exf b l).2,λp hp=>absurd (show p∈([]:List (Ye×YY))from hp) (by simp)⟩
 have S:yC (Yn X.prog X.w) X.A (.compLoop (.ListComp Zm [⟨tg,Zf,Zj,0⟩] sc Zc) 0 (.ref it) (.ref a.heap.objs.size) (compEnvC sc cl Hl.objs.size X.env))
   (RR (.ref a.heap.objs.size) Hl.objs.size) {a with heap:=h₁,toks:=a.toks+ ([]:List (Yh×Yd)).length}:=by
  refine GX.mB (λn s'=>∃i Q A,au (X.blk t sc cl Hl.objs.size a d f) [] Q A s'/\tn i s'.heap/\(∀b∈f,A b=Yb)/\W i n Q A) ?_ m0
   ⟨0,_,_,IY,T.keep 0 _ _ L (λb _ o z=>E b o z),λb l=>?_,w0⟩
  ·rintro n s3 ⟨i,U,V,I3,an,ap,w3⟩;rcases ab i n U V w3 with⟨stop,qn⟩|⟨go,N,hN,step⟩
   ·refine Yf (bZ (T.done (X.blk t sc cl Hl.objs.size a d f) rfl rfl rfl hc i [] s3 U V (λ_ _=>False) I3 (I ap) an stop) λr s4 K=>?_);obtain⟨hr,I4⟩:=K;subst hr;exact Yl<|as _ s4 U V (by rw[hC];exact y6 _) I4 qn
   ·refine Yf (bZ (T.item (X.blk t sc cl Hl.objs.size a d f) rfl rfl rfl hc i [] s3 U V (λ_ _=>False) I3 (I ap) an go) λr s4 K=>?_);obtain⟨u,hr,h4⟩:=K;subst hr;refine Yf (bZ h4 λ_ s5 K=>?_);obtain⟨x,H5,I5,r5,y5,Z,aE⟩:=K;have aF:=I5.pinned (I aE) (T.obj _ _ Z);have again:∀{σ7:St} {H7:Hp} {s7:Yg},au (X.blk t sc cl Hl.objs.size a d f) ([]++kh f s5.heap) σ7 H7 s7->N σ7 H7->
      ∃m,m<n/\∃i Q A,au (X.blk t sc cl Hl.objs.size a d f) [] Q A s7/\tn i s7.heap/\(∀b∈f,A b=Yb)/\W i m Q A:=fun{σ7 H7 s7} I7 n7=>by
     obtain⟨m',hm,w7⟩:=hN σ7 H7 n7;refine⟨m',hm,i+ 1,σ7,H7,I7.unpinned,T.keep _ _ _ Z λb l o z=>(I7.pin (b,o) (YM _ (YM _ (eK l z)))).1,λb l=>?_,w7⟩;obtain⟨o,z,_⟩:=T.obj _ _ Z b l;exact(I7.pin (b,o) (YM _ (YM _ (eK l z)))).2.1
    refine Yf (bZ (hg cl Hl.objs.size a d f b4 _ s5 U H5 x u _ aF r5 (step x H5 y5)) λ_ s6 K=>?_);obtain⟨σ6,H6,I6,q6⟩:=K;refine Yf (bZ (ht cl Hl.objs.size a d f _ s6 σ6 H6 _ I6 q6) λok s7 K=>?_);obtain⟨H7,I7,q7⟩:=K;cases ok with
    |true=>
     rw[if_pos rfl]at q7⊢;refine Yf (bZ (he cl Hl.objs.size a d f _ s7 σ6 H7 _ I7 q7) λyv s8 K=>?_);obtain⟨y,H8,I8,r8,ys,hD,hz,n8⟩:=K;exact Yf<|bZ (kG (X:=X.blk t sc cl Hl.objs.size a d f) _ s8 σ6 H8 (.ref a.heap.objs.size) [y] (.ref a.heap.objs.size) [yv] (λ_ A=>N σ6 A) I8 rfl (.cons r8 .nil) ⟨_,ys,y,rfl,rfl,hD,hz,n8⟩)
      λ_ s9 ⟨_,H9,I9,_,n9⟩=>Yl (again I9 n9)
    |false=>
     rw[if_neg Yt]at q7⊢;exact Yl (again I7 q7)
  ·obtain⟨o,z,_⟩:=T.obj 0 _ L b l;rw[aA (YE (Yq z))];exact(f2 b l).1
 exact codeAny_compStart_list S (T.self X.A 0 _ _ _ (T.keep 0 _ _ L (λb _ o z=>E b o z)) S)
theorem iv(j:List Yh)(k:List (Option Nat))(D:X.calm=true)(hk:sc.kind=.function)(E:decide (ql X.N j k X.env.scope sc)=true)(F:PI X tg Zf wi)(G:∀cl C a f c,j.Nodup->PG (X.blk j sc cl C a f c) tg g)(K:∀cl C a f c,xG (X.blk j sc cl C a f c) Zj tt)(L:∀cl C a f c,PE (X.blk j sc cl C a f c) Zm te)(M:∀x,AB Zf X.env x=pure x:=by intro _;rfl):
  PE X (.ListComp Zm [⟨tg,Zf,Zj,0⟩] sc Zc) (qo k wi g tt te):=by
 intro z s σ H Q I h;have B:=of_decide_eq_true E;obtain⟨cl,d,l,n⟩:=GX.jP (env:=X.env) (sc:=sc) λy N O=>I.ok.has y.1 (B.2.2.1 y N O);rw[eval_ListComp];refine AO (use:=Yb) rfl M d hk B.2.1 (bZ (F z s σ H _ I h) λv s1 h1=>bZ h1 λP a h2=>?_);obtain⟨it,c,tn,J,f,e,t,T,u,o,q⟩:=h2;subst e;obtain⟨W,⟨m0,w0⟩,p⟩:=q a.heap.objs.size (t.hok.fresh (Ym _));refine kR (RR:=λw C=>compPost (Yn X.prog X.w) X.A X.xe Yb (EP X z σ Q) w C) (Qe:=λR=>Q (.ref a.heap.objs.size) R) D hk B l n G K L t T u o w0 p λC S σ3 U V i Y=>?_;obtain⟨m,hn,_⟩:=i.loc;refine⟨m,hn,λZ A=>⟨.ref a.heap.objs.size,U,?_,rfl,Y⟩⟩;exact t.call' (s':={S with heap:=Z}) (ch:=c) i.os (i.base.but A (BC V)) (i.hok.but A i.free) i.bare λb r=>⟨(o b r).2.2.2.1,(o b r).2.1,(o b r).2.2.2.2.1,(o b r).2.2.2.2.2⟩
theorem sy{n f:zP}{y:Yh}{i:Nat}(w:List Yh)(A:List (Option Nat))(hN:X.N.Nodup)(M:X.N[i]?=Ya y)(hl:wF X.env.scope y)(hc:X.calm=true)(hk:sc.kind=.function)(hB:decide (ql X.N w A X.env.scope sc)=true)(hi:PI X tg Zf wi)(hg:∀cl C d r j,w.Nodup->PG (X.blk w sc cl C d r j) tg g)(ht:∀cl C d r j,xG (X.blk w sc cl C d r j) Zj tt)(he:∀cl C d r j,PE (X.blk w sc cl C d r j) Zm te)(N:AY (.ListComp Zm [⟨tg,Zf,Zj,0⟩] sc Zc) (Ya (.Name y n)) f.line X.env=pure true:=by rfl)(hs:∀x,AB Zf X.env x=pure x:=by intro _;rfl)(O:X.fn y=true∨X.env.scope.names.lookup y=Ya .local:=by first|exact .inl rfl|exact .inr rfl):
  PS X (.Assign [.Name y n] (.ListComp Zm [⟨tg,Zf,Zj,0⟩] sc Zc) f) (sL (qo A wi g tt te) (o1 i)):=by
 intro L s σ H D I h;have B:=of_decide_eq_true hB;obtain⟨cl,k,E,F⟩:=GX.jP (env:=X.env) (sc:=sc) λy M O=>I.ok.has y.1 (B.2.2.1 y M O);rw[exec_Assign_Name_used _ _ _ _ N];refine Yf (Df (Yf ?_));show Yj _ X.A (do let _←comprehension (.ListComp Zm [⟨tg,Zf,Zj,0⟩] sc Zc) sc X.env _ (CV []) false (Y4 Zf X.env) (Ya (Bm (.Name y n) X.env))) _ _ s;refine Yf (zm (AO (use:=Ya (Bm (.Name y n) X.env)) (Q:=λ_ s'=>SP X L D .next s') rfl hs k hk B.2.1
  (bZ (hi L s σ H _ I h) λv s1 h1=>bZ h1 λab d h2=>?_)) (λ_ s' hq=>Yl (Yl hq)) λ_ _ e=>e)
 obtain⟨it,j,tn,J,r,e,l,T,P,G,q⟩:=h2;subst e;obtain⟨W,⟨m0,w0⟩,K⟩:=q d.heap.objs.size (l.hok.fresh (Ym _));refine kR (RR:=λR C=>compPost (Yn X.prog X.w) X.A X.xe (Ya (Bm (.Name y n) X.env)) (λ_ s'=>SP X L D .next s') R C) (Qe:=λH'=>D.nx (σ.set i (Ya (.ref d.heap.objs.size))) H') hc hk B E F hg ht he l T P G w0 K
  λC V σ3 Y S t qn=>?_
 have IX:au X L σ Y V:=l.call' (ch:=j) t.os t.base t.hok t.bare λb u=>⟨(G b u).2.2.2.1,(G b u).2.1,(G b u).2.2.2.2.1,(G b u).2.2.2.2.2⟩;have Z:∀{b:Ye} {o:YY},d.heap.get? b=Ya o->C≠b:=fun{b o} z=>zZ (Yy (Yq z) S);have nL:C≠X.env.locals:=zZ (Yy l.lt S);have nK:∀x c,X.env.cells.lookup x=Ya c->c≠C:=λx c z=>by
  obtain⟨v,o,ho,_⟩:=l.cell x c z;exact Ne.symm (Z ho)
 obtain⟨m,hn,_⟩:=t.loc;show Yj _ X.A (Bm (.Name y n) X.env (.ref d.heap.objs.size)) _ _ V;refine Cc (kU IX hN M hl (v:=.ref d.heap.objs.size) rfl (λs5 I5 h5=>?_) O);obtain⟨a,sb,ha⟩:=h5;have na:C≠a:=by
  rcases ha with z|z
  ·rw[z];exact nL
  ·exact Ne.symm (nK _ _ z)
 refine⟨m,hn.sameBut sb na,λh' U=>⟨_,Y,?_,qn⟩⟩;exact I5.turned (it:=C) (t':=s5.toks) (λb o u z=>(U.2 b u).trans z) t.free nL (.inr (YJ l.sz S)) nK λp hp=>Ne.symm (Z (l.pin p hp).1)
theorem nH{lo:Int}{n:Nat}(c:Nat->St->Hp->Prop)(h0:c 0 σ H)(l:∀i σ H,i<n->c i σ H->eN g tt te D (c (i+ 1)) (.int (lo+ i)) σ H)(hd:∀σ H,c n σ H->Qe H):
  ∃W:Nat->Nat->St->Hp->Prop,(∃m,W 0 m σ H)/\∀i m f a,W i m f a->((rD lo n).stop i a/\Qe a)∨((rD lo n).go i a/\∃N:St->Hp->Prop,(∀h j,N h j->∃k,k<m/\W (i+ 1) k h j)/\
   ∀x d,(rD lo n).yld i a x d->eN g tt te D N x f d):=by
 refine⟨λi m σ H=>m=n-i/\i<=n/\c i σ H,⟨n,by simp,Y5 _,h0⟩,?_⟩;rintro i m σ H ⟨rfl,q,p⟩;by_cases b:i<n
 ·refine .inr ⟨b,c (i+ 1),λf a o=>⟨n-(i+ 1),by omega,rfl,b,o⟩,λx a y=>?_⟩;obtain⟨e,y⟩:=y;subst e y;exact l i σ _ b p
 ·have e:i=n:=by omega
  subst e;exact .inl ⟨Ym _,hd σ H p⟩
theorem kL{K:Yc}{a:Ye}{xs:List V}(b:Nat->St->Hp->Prop)(h0:b 0 σ H)(n:∀i σ H,i<=xs.length->b i σ H->bP K H a xs)(o:∀i x σ H,xs[i]?=Ya x->b i σ H->eN g tt te D (b (i+ 1)) x σ H)(hd:∀σ H,b xs.length σ H->Qe H):
  ∃W:Nat->Nat->St->Hp->Prop,(∃m,W 0 m σ H)/\∀i m h c,W i m h c->((tm K a).stop i c/\Qe c)∨((tm K a).go i c/\∃N:St->Hp->Prop,(∀j k,N j k->∃l,l<m/\W (i+ 1) l j k)/\
   ∀x d,(tm K a).yld i c x d->eN g tt te D N x h d):=by
 refine⟨λi m σ H=>m=xs.length-i/\i<=xs.length/\b i σ H,⟨xs.length,by simp,Y5 _,h0⟩,?_⟩;rintro i m σ H ⟨rfl,r,p⟩;have q:=n i σ H r p;by_cases f:i<xs.length
 ·refine .inr ⟨⟨xs,xs[i],q,by simp[f]⟩,b (i+ 1),λh c s=>⟨xs.length-(i+ 1),by omega,rfl,f,s⟩,λx c y=>?_⟩;obtain⟨e,y⟩:=y;subst e;exact o i x σ _ (y xs q) p
 ·have e:i=xs.length:=by omega
  subst e;exact .inl ⟨⟨xs,q,Ym _⟩,hd σ H p⟩
section
def qY(_ j:Int):Prop:=0<j/\j<18446744073709551616
theorem mF:iY X (zo .FloorDiv) (rI qY λi j=>.int (i / j)):=vT λi j _ _ _ _ _ a q=>by
 have h1:(0:Int)<j:=a.1;have h2:j<18446744073709551616:=a.2;refine Dj (by omega) (by rw[Ar i (by omega)];exact q) (.inl (PyProof.noPylong_of_log2 ?_));have h3:j.natAbs.log2<64:=(DB (by omega)).mpr (by omega);omega
theorem mU:cU X (.builtin "isinstance") (λxs H Q=>∃(x:V) (t:Yd) (T:String) (b:Bool),xs=[x,.ty T]/\gX X.K H x t/\Bn X.K t (.type T)=Ya b/\Q (.bl b) H):=by
 intro g s σ H xs i Q I r h;obtain⟨x,t,T,b,rfl,ty,e,q⟩:=h;obtain⟨u,a,rfl,c,d⟩:=tH r;obtain rfl:a=y2 T:=d;exact pd I c ty e λf=>⟨.bl b,H,I.tok f,rfl,q⟩
theorem pN(bs:List Bool):(zY bs.length).all (λi=>bs.getD i false)=bs.all λb=>b:=by
 have e:(zY bs.length).map (λi=>bs.getD i false)=bs:=List.ext_getElem (by simp) λi h1 h2=>by simp[h2]
 conv=>rhs;rw[←e,List.all_map]
 rfl
theorem qX(l:X.calm=true):cU X (.builtin "all") (λxs H Q=>∃(p:Ye) (bs:List Bool),xs=[.ref p]/\bP X.K H p (bs.map V.bl)/\Q (.bl (bs.all λb=>b)) H):=by
 intro D s σ H xs E Q I r h;obtain⟨p,bs,rfl,m,q⟩:=h;obtain⟨u,rfl,n⟩:=eM r;cases n;obtain⟨a,d,c,F⟩:=I.list m;have f:a.toArray.size=bs.length:=by rw[Ys,←d.length,Yk]
 have hp:p<s.heap.objs.size:=let ⟨_,z,_⟩:=c.isList;Yq z;refine call_all_walk (AA c.isList ?_);refine⟨s.heap.objs.size,[s.heap.objs.size,p],[s.heap.objs.size],a.toArray.size,_,_,λi=>bs.getD i false,rfl,Walks.list (A:=X.A.in1) (I.ok.hd l) _ p (YE hp) a.toArray,
  ⟨⟨_,Yo _ rfl,rfl,rfl⟩,c.isList.push _⟩,λi v s' G J t w=>?_,λK y kp=>?_⟩
 ·have g:a[i]?=Ya v:=by simpa using t
  have j:i<bs.length:=by
   have:=(YW.mp g).1;rw[←f,Ys];exact this
  obtain⟨u,k,B⟩:=d.get (i:=i) (x:=V.bl bs[i]) (by rw[YG,YO j];rfl);rw[g]at k;cases k;obtain rfl:v=zJ bs[i]:=B;refine za ?_;have e:bs.getD i false=bs[i]:=by rw[zw,YO j,Option.getD_some]
  rw[←e];exact w
 ·refine⟨.bl (bs.all λb=>b),H,I.kept (t':=y) λb o e=>kp b o ?_ (Yi _ e),?_,q⟩
  ·intro z;have C:b=s.heap.objs.size:=by simpa using z
   exact absurd (Yq e) (by rw[C];exact yE _)
  ·show zJ _=zJ _;rw[f,pN]
end
structure el(K:Yc)(mg:Yh->Option Yd)(x:Yh)(f:Ye)(fd:Yu)(ps:List Yh):Prop where
 mg:mg x=Ya (.ref f)
 kp:yP K (.ref f)=true
 bd:Binds K fd ps []
theorem bA{k:Nat}{f:Ye}{fd:Yu}{d:List Yh}{sp:Sp}{e:YL}{t:TA}{p:zP}(F:az X.prog X.w X.K X.mg X.base bN k f fd d sp)(c:el X.K X.mg x f fd d)(g:cv k X.A)(h:PA X (e::es) t)(i:Gl X x:=by rfl)(a:(x==("__debug__":Yh))=false:=by decide)(j:YK (e::es) X.env=(false,Y4 e X.env)::YK es X.env:=by rfl)(b:(zt Zc (YK es X.env)).any (·.1)=false:=by rfl):
  PE X (.Call (.Name x p) (e::es) [] Zc) (oC sp [] E0 t):=sX F g i c.mg c.kp c.bd .nil kS h a j b
theorem ij{T:String}(hm:X.mg x=Yb)(b:yR x=Ya (.type T))(c:Gl X x:=by rfl)(hn:x≠"__name__":=by decide)(a:(x==("__debug__":Yh))=false:=by decide):PE X (.Name x Zc) (tC (.ty T)):=
 rR c hm b rfl hn a
def tX(K:Yc)(t:TE):TT:=λσ H Q=>t σ H λx a=>∃k,qN K x a k/\Q k a
theorem ee(K:Yc){f:YL}{a:List CU}{t:TE}(b:X.K=K)(h:PE X (.Call f es a Zc) t):PT X (.Call f es a Zc) (tX K t):=by
 subst b;exact m6 h λ_=>rfl
section
end
end L2
namespace GX
open PySem
variable{prog:Yx}{w:YA}{A:YX}{E:Yd->Yg->Prop}{s:Yg}{n:Nat}
section
variable{l:Ye}{items:Array Yd}{Q:Option Yd->Yg->Prop}
end
section
variable{R:AL->Yg->Prop}{I d:Ye}{fp wr:List Ye}{P:Nat->Yd->Prop}{St:Nat->YC->Prop}{K:Type}[DecidableEq K]{Zu:AJ prog w K}
end
section
variable{K:Type}[DecidableEq K]{Zu:AJ prog w K}
end
end GX
namespace GX
open PySem PyProof.Rows
section
variable{prog:Yx}{w:YA}{A:YX}{E:Yd->Yg->Prop}{s:Yg}
theorem o3{x:Yd}{a:List (Yh×Yd)}{Q:Yd->Yg->Prop}(ok:CM "sorted" ⟨[x],a⟩)
  (h:Yj (Yn prog w) A.in1 (DE x) (λvs b=>Yj (Yn prog w) A.in1 (CV vs >>= λl=>B9 [l] (call (.builtin "list.sort") [l] a) >>= λ_=>ret l) (λf c=>∃v,f=.done (.ret v)/\Q v c) E b) E s):
  Yj (Yn prog w) A (call (.builtin "sorted") [x] a) Q E s:=
 call_function_entry_kw kind_sorted plain_sorted entry_sorted ok (Yf (m:=checkCount _ _ _ _) (Yl (Yf (zm h (λ_ _ q=>q) λ_ _ e=>e))))
end
end GX
namespace L2
open PySem PySem.Spec PyProof.Rows
variable{X:Cx}{s:Yg}{ns:List Int}{σ:St}{H:Hp}{xs:List V}{ps:List (Int×Int)}
noncomputable def dI(m:List (Int×Int)):List (fP×V):=m.map λp=>(Af p.1,V.int p.2)
section
theorem pP{A:YX}{E:Yd->Yg->Prop}{prog:Yx}{w:YA}{vs:List Yd}{Q:Yd->Yg->Prop}(f:yM vs ns)(h64:vs.length<64)(hz:vs.length<=Yp)(h:∀h' out a e,(∀b o,s.heap.get? b=Ya o->h'.get? b=Ya o)->h'.get? s.heap.objs.size=Ya (Dn "list" out e)->yM out.toList a->a.Perm ns->a.Pairwise (·<=·)->Q (.ref s.heap.objs.size) {s with heap:=h'}):
  Yj (Yn prog w) A (do let l←CV vs;let _←B9 [l] (call (.builtin "list.sort") [l] []);ret l) (λc s'=>∃v,c=.done (.ret v)/\Q v s') E s:=by
 refine Yf (wpAny_newList ?_ hz);have d:(s.heap.push (Dn "list" vs.toArray 0)).get? s.heap.objs.size=Ya (Dn "list" vs.toArray 0):=Yo _ rfl;refine Yf (Av (yG slot_list_sort ⟨_,d,rfl⟩ entry_list_sort (list_sort_tree d f h64 λout a g i j=>⟨_,rfl,?_⟩) (args_list_sort _)));obtain⟨e,k⟩:=sortedHeap_at (out:=out) d;refine Yl ⟨_,rfl,h _ out a e (λb o q=>?_) k g i j⟩;have l:=Yq q;rw[sortedHeap_old (YE l) (by rw[size_push'];exact zN l)];exact Yi _ q
theorem au.lay_ints{a:List (Ye×YY)}{h':YC}{out:Array Yd}{e tk:Nat}(I:au X a σ H s)(k:∀b o,s.heap.get? b=Ya o->h'.get? b=Ya o)(c:h'.get? s.heap.objs.size=Ya (Dn "list" out e))(d:yM out.toList ns)(hz:ns.length<=Yp):
  au X a σ (upd H s.heap.objs.size (.lst (ns.map V.int))) {s with heap:=h',toks:=tk}:=
 I.laid k (Ym _) ⟨by rw[Yk];exact hz,out.toList,e,iM d,c⟩
def Pr(H:Hp)(x:V)(p:Int×Int):Prop:=∃a,x=.ref a/\H a=Ya (.tup [.int p.1,.int p.2])
abbrev iT(H:Hp):List V->List (Int×Int)->Prop:=An (Pr H)
theorem iT.mono{b:Hp}(h:∀a xs,H a=Ya (.tup xs)->b a=Ya (.tup xs))(r:iT H xs ps):iT b xs ps:=An.mapP r λ_ _ ⟨a,c,d⟩=>⟨a,c,h a _ d⟩
theorem iT.snoc{x:V}{p:Int×Int}:∀{xs:List V} {ps:List (Int×Int)},iT H xs ps->Pr H x p->iT H (xs++[x]) (ps++[p]):=by
 intro a b w h
 induction w with
 |nil=>exact .cons h .nil
 |cons r _ ih=>exact .cons r ih
theorem iT.get:∀{xs:List V} {ps:List (Int×Int)} {i:Nat} {x:V},iT H xs ps->xs[i]?=Ya x->∃p,ps[i]?=Ya p/\Pr H x p:=by
 intro a b i x w
 induction w generalizing i with
 |nil=>exact λe=>by simp at e
 |cons r _ ih=>
  intro e;cases i with
  |zero=>simp at e;subst e;exact⟨_,rfl,r⟩
  |succ i=>
   obtain⟨p,h1,h2⟩:=ih (i:=i) (by simpa using e);exact⟨p,by simpa using h1,h2⟩
theorem iT.len(r:iT H xs ps):xs.length=ps.length:=Aq r
end
section
end
theorem ip{K:Yc}{a:Ye}{g:TG}{j:TT}{k:TE}{D:Ye}{Qe:Hp->Prop}(b:Nat->St->Hp->Prop)(h0:b 0 σ H)(r:∀i σ H,i<=xs.length->b i σ H->cu K H a xs)(s:∀i x σ H,xs[i]?=Ya x->b i σ H->eN g j k D (b (i+ 1)) x σ H)(hd:∀σ H,b xs.length σ H->Qe H):
  ∃W:Nat->Nat->St->Hp->Prop,(∃m,W 0 m σ H)/\∀i m h c,W i m h c->((tf K a).stop i c/\Qe c)∨((tf K a).go i c/\∃N:St->Hp->Prop,(∀l n,N l n->∃o,o<m/\W (i+ 1) o l n)/\
   ∀x d,(tf K a).yld i c x d->eN g j k D N x h d):=by
 refine⟨λi m σ H=>m=xs.length-i/\i<=xs.length/\b i σ H,⟨xs.length,by simp,Y5 _,h0⟩,?_⟩;rintro i m σ H ⟨rfl,t,p⟩;have q:=r i σ H t p;by_cases f:i<xs.length
 ·refine .inr ⟨⟨xs,xs[i],q,by simp[f]⟩,b (i+ 1),λh c u=>⟨xs.length-(i+ 1),by omega,rfl,f,u⟩,λx c y=>?_⟩;obtain⟨e,y⟩:=y;subst e;exact s i x σ _ (y xs q) p
 ·have e:i=xs.length:=by omega
  subst e;exact .inl ⟨⟨xs,q,Ym _⟩,hd σ H p⟩
section
end
end L2
namespace GX
open PySem PyProof.Rows
variable{xs:Array Nat}{i j sl p n ep c:Nat}{t t':Aj}{h:YC}{b:Bool}{x first:Yd}{prog:Yx}{w:YA}{A:YX}{E Q1:Yd->Yg->Prop}{s:Yg}{a I tp:Ye}{S:Int->Bool}{es Zq:Array (Int×Yd)}{Q:Option Yd->Yg->Prop}{k:Int}{R:AL->Yg->Prop}{ns:List Int}{M:Model}{o:YY}{ps:List Nat}
def qI(xs:Array Nat):Prop:=xs.toList.Pairwise (·<·)
theorem qI.at(h:qI xs)(b:i<j)(a:j<xs.size):xs.getD i 0<xs.getD j 0:=by
 have:=List.pairwise_iff_getElem.mp h i j (by simp;omega) (by simpa using a) b;simp only[z7]at this;rw[YH,YH,Yr (by omega),Yr a];exact this
theorem mH(h:i<xs.size)(a b:Nat):xs.getD i a=xs.getD i b:=by
 rw[YH,YH,Yr h];rfl
theorem j8{xs:Array Nat}(d:qI xs)(j:Nat):∀(a lo b:Nat),lo<=b->b<=xs.size->b-lo<=a->(∀i,i<lo->xs.getD i 0<j)->(∀i,b<=i->i<xs.size->j<=xs.getD i 0)->
  yD xs j a lo b<=xs.size/\(∀i,i<yD xs j a lo b->xs.getD i 0<j)/\(∀i,yD xs j a lo b<=i->i<xs.size->j<=xs.getD i 0)
 |0,lo,b,h1,h2,h3,h4,h5=>by
  have e:lo=b:=by omega
  subst e;unfold yD;exact⟨h2,h4,h5⟩
 |a+ 1,lo,b,h1,h2,h3,h4,h5=>by
  unfold yD;by_cases h:lo<b
  ·rw[if_pos h];have hm:(lo+ b) / 2<xs.size:=by omega
   show(if xs.getD ((lo+ b) / 2) j<j then yD xs j a ((lo+ b) / 2+ 1) b else yD xs j a lo ((lo+ b) / 2))<=_/\_;by_cases c:xs.getD ((lo+ b) / 2) j<j
   ·simp only[if_pos c];rw[mH hm j 0]at c;refine j8 d j a _ b (by omega) h2 (by omega) (λi f=>?_) h5;rcases zH i ((lo+ b) / 2)with z|z
    ·have:=d.at z hm;omega
    ·have:i=(lo+ b) / 2:=by omega
     rw[this];exact c
   ·simp only[if_neg c];rw[mH hm j 0]at c;refine j8 d j a lo _ (by omega) (by omega) (by omega) h4 (λi f g=>?_);rcases zH ((lo+ b) / 2) i with z|z
    ·have:=d.at z g;omega
    ·have:i=(lo+ b) / 2:=by omega
     rw[this];omega
  ·rw[if_neg h];have e:lo=b:=by omega
   subst e;exact⟨h2,h4,h5⟩
theorem hZ(a:qI xs)(j:Nat):YI xs j<=xs.size/\(∀i,i<YI xs j->xs.getD i 0<j)/\(∀i,YI xs j<=i->i<xs.size->j<=xs.getD i 0):=by
 unfold YI;exact j8 a j _ 0 _ (Y5 _) (Ym _) (by omega) (λi h=>by omega) (λi h1 h2=>by omega)
theorem oa(a:qI xs)(b:i<xs.size):YI xs (xs.getD i 0+ 1)=i+ 1:=by
 obtain⟨h1,h2,h3⟩:=hZ a (xs.getD i 0+ 1);rcases Nat.lt_trichotomy (YI xs (xs.getD i 0+ 1)) (i+ 1)with z|z|z
 ·have:=h3 i (by omega) b;omega
 ·exact z
 ·have q:=h2 (i+ 1) z;have:=a.at (i:=i) (j:=i+ 1) (by omega) (by omega);omega
theorem nM(a:qI xs):YI xs 0=0:=by
 obtain⟨h1,h2,h3⟩:=hZ a 0;rcases B4 (YI xs 0)with z|z
 ·exact z
 ·have:=h2 0 z;omega
def Off(xs:Array Nat)(d:Nat):Prop:=xs[YI xs d]?≠Ya d
theorem Off.no(b:qI xs){d:Nat}(h:Off xs d):∀i,i<xs.size->xs.getD i 0≠d:=by
 intro i a e;obtain⟨h1,h2,h3⟩:=hZ b d;have f:YI xs d<=i:=by
  rcases zH i (YI xs d)with z|z
  ·have:=h2 i z;omega
  ·exact z
 have c:YI xs d=i:=by
  rcases zH (YI xs d) i with z|z
  ·have:=b.at z a;have:=h3 (YI xs d) (Ym _) (by omega);omega
  ·omega
 apply h;rw[c,Yr a];rw[YH,Yr a]at e;exact congrArg Ya e
theorem m4(h:∀i,t.slot j≠.live i):Off t.place j:=by
 intro z;apply h (YI t.place j);unfold SetTable.slot;simp only[z,beq_self_eq_true,if_true]
theorem kN(t:Aj)(p:CW):(t.advance p).dummy=p.dummy:=by
 unfold SetTable.advance;split<;>rfl
theorem iS{t:Aj}{f:Nat->Int}{h:Int}:∀(a:Nat) (p:CW) (j:Nat) (b:Option Nat),(∀d,p.dummy=Ya d->Off t.place d)->zO t f h a p=Ya (.empty j b)->Off t.place j/\∀d,b=Ya d->Off t.place d
 |0,p,j,b,hp,e=>by
  unfold zO at e;cases e
 |a+ 1,p,j,b,hp,e=>by
  unfold zO at e;cases hs:t.slot p.j with
  |empty=>
   rw[hs]at e;dsimp only at e;cases e;exact⟨m4 (λi z=>by rw[hs]at z;cases z),hp⟩
  |dummy=>
   rw[hs]at e;dsimp only at e;refine iS a _ j b (λd hd=>?_) e;rw[kN]at hd;cases hd;exact m4 (λi z=>by rw[hs]at z;cases z)
  |live i=>
   rw[hs]at e;dsimp only at e;split at e
   ·cases e
   ·exact iS a _ j b (λd hd=>hp d (by rw[kN]at hd;exact hd)) e
theorem qe{h:Int}(e:t.freeSlot h=Ya (sl,b)):Off t.place sl:=by
 unfold SetTable.freeSlot SetTable.probe at e;generalize hg:zO t (λ_=>h+ 1) h (10*SetTable.turns t.mask) (t.probeStart h)=g at e;cases g with
 |none=>cases e
 |some m=>
  cases m with
  |candidate j i n=>cases e
  |empty j dm=>
   obtain⟨h1,h2⟩:=iS _ _ j dm (λd hd=>by cases hd) hg;dsimp only at e;have a:=YS e;cases dm with
   |none=>
    have:j=sl:=congrArg Prod.fst a;rw[←this];exact h1
   |some d=>
    have:d=sl:=congrArg Prod.fst a;rw[←this];exact h2 d rfl
theorem qx{x:Nat}(h:x∈xs.toList.take p):∃i,i<p/\i<xs.size/\xs.getD i 0=x:=by
 obtain⟨i,a,e⟩:=Ac h;rw[Y9,yF]at a;refine⟨i,by omega,by omega,?_⟩;rw[List.getElem_take,z7]at e;rw[YH,Yr (by omega)];exact e
theorem kC{x:Nat}(h:x∈xs.toList.drop p):∃i,p<=i/\i<xs.size/\xs.getD i 0=x:=by
 obtain⟨i,a,e⟩:=Ac h;rw[Cs,yF]at a;refine⟨p+ i,by omega,by omega,?_⟩;rw[List.getElem_drop,z7]at e;rw[YH,Yr (by omega)];exact e
theorem rG(d:qI t.place)(f:Off t.place sl):qI (t.put sl).1.place:=by
 obtain⟨h1,h2,h3⟩:=hZ d sl;show(SetTable.insertAt t.place (YI t.place sl) sl).toList.Pairwise (·<·);rw[SetTable.toList_insertAt,BI];refine⟨d.sublist (AE _ _),?_,?_⟩
 ·rw[List.pairwise_cons];refine⟨λx e=>?_,d.sublist (List.drop_sublist _ _)⟩;obtain⟨i,a,b,c⟩:=kC e;have g:=h3 i a b;have h:=f.no d i b;omega
 ·intro x e y j;obtain⟨i,a,b,c⟩:=qx e;have g:=h2 i a;rcases YF.mp j with z|z
  ·omega
  ·obtain⟨k,l,m,n⟩:=kC z;have h:=h3 k l m;omega
theorem fJ(t:Aj)(n:Nat):qI (t.standIn n).place:=by
 show(Array.range n).toList.Pairwise (·<·);rw[Array.toList_range];exact Bi
def Tb(b:Bool)(t:Aj):Prop:=qI t.place/\t.led=b
theorem tT(h:Tb b t)(a:Array (Int×Yd))(k:Int)(x:Yd):Tb b (layNew t a k x).2.1:=by
 unfold layNew;split
 ·rename_i c d e;dsimp only;unfold SetTable.orStandIn;split
  ·exact⟨rG h.1 (qe e),h.2⟩
  ·exact⟨fJ _ _,h.2⟩
 ·exact⟨fJ _ _,h.2⟩
theorem pC{g:Array Int}{o:Array Nat}(h:Tb b t)(e:t.relaid g n=Ya (t',o)):Tb b t':=by
 unfold SetTable.relaid SetTable.laid at e;cases d:SetTable.layClean (SetTable.sizeAbove n-1) g with
 |none=>rw[d]at e;cases e
 |some ow=>
  rw[d]at e;have k:=YS e;have i:=congrArg Prod.fst k;dsimp only at i;rw[←i];refine⟨?_,h.2⟩;show List.Pairwise _ (BX (List.toArray _));rw[List.toList_toArray,List.map_filterMap];refine List.Pairwise.filterMap (R:=(·<·)) _ (λx y f a j c d=>?_) Bi;simp only[Option.map_map,Option.mem_def,oh]at j d;obtain⟨_,_,rfl⟩:=j;obtain⟨_,_,rfl⟩:=d;exact f
theorem qh(h:Tb b t)(a:Array (Int×Yd))(n:Nat):Tb b (Cv t a n).2.1:=by
 unfold Cv;split
 ·rename_i c o e;dsimp only;split
  ·exact pC h e
  ·exact⟨fJ _ _,h.2⟩
 ·exact⟨fJ _ _,h.2⟩
noncomputable abbrev ox(w:YA):Bool:=w.params.followText "set-order"
section
def gq(prog:Yx)(w:YA)(h:YC)(a:Ye)(S:Int->Bool)(n:Nat):Prop:=
 ∃o b c t,h.get? a=Ya o/\o.ExactSet/\o.data=.set b c t/\DF (ll prog w) b.toList/\(∀k,S k=true↔∃e∈b.toList,(ll prog w).is k e.2=true)/\b.size<zi/\t.fits b.size=true/\b.size=n/\Tb (!ox w) t
theorem gq.at{h':YC}(x:gq prog w h a S n)(k:∀o,h.get? a=Ya o->h'.get? a=Ya o):gq prog w h' a S n:=by
 obtain⟨o,b,c,t,d,r⟩:=x;exact⟨o,b,c,t,k o d,r⟩
theorem gq.congr{b:Int->Bool}{c:Nat}(x:gq prog w h a S n)(e:∀k,S k=b k)(d:n=c):gq prog w h a b c:=by
 have z:S=b:=funext e;rw[←z,←d];exact x
def ff(prog:Yx)(w:YA)(a:Array (Int×Yd))(t:Aj)(S:Int->Bool)(n:Nat):Prop:=
 DF (ll prog w) a.toList/\(∀k,S k=true↔∃e∈a.toList,(ll prog w).is k e.2=true)/\a.size<zi/\t.fits a.size=true/\a.size=n/\Tb (!ox w) t
def mI(h:YC)(a:Ye)(b:Array (Int×Yd))(t:Aj):Prop:=∃o c,h.get? a=Ya o/\o.ExactSet/\o.data=.set b c t
theorem mI.good(r:mI h a es t)(g:ff prog w es t S n):gq prog w h a S n:=by
 obtain⟨o,b,c,d,e⟩:=r;exact⟨o,es,b,t,c,d,e,g⟩
theorem mI.put{Q:Unit->Yg->Prop}(r:mI s.heap a es t)(hz:Zq.size<zi)(h:∀h',yI a s.heap h'->mI h' a Zq t'->Q () {s with heap:=h'}):
  Yj (Yn prog w) A (storeSet a Zq t') Q E s:=by
 obtain⟨⟨c,d,b,i⟩,f,e,g,hd⟩:=r;cases hd;exact wpAny_storeSet_of e rfl (h _ (zB ..) ⟨_,f+ 1,yN _ e rfl,g,rfl⟩) (AF hz)
theorem ff.mix(g:ff prog w es t S n)(p:DO Zq.toList es.toList)(f:t'.fits Zq.size=true)(b:Tb (!ox w) t'):ff prog w Zq t' S n:=by
 obtain⟨a,c,d,_,h,_⟩:=g;have z:Zq.size=es.size:=by simpa using p.length_eq
 exact⟨a.perm p,λk=>(c k).trans ⟨fun⟨e,u,v⟩=>⟨e,p.mem_iff.mpr u,v⟩,fun⟨e,u,v⟩=>⟨e,p.mem_iff.mp u,v⟩⟩,z▸d,f,z.trans h,b⟩
theorem ff.relaid(g:ff prog w es t S n)(m:Nat):ff prog w (Cv t es m).1 (Cv t es m).2.1 S n:=
 g.mix (relayAll_perm t es m) (relayAll_fits t es m) (qh g.2.2.2.2.2 es m)
theorem ff.more(g:ff prog w es t S n)(hk:(ll prog w).is k x=true)(c:x.scannable=true)(a:n+ 1<zi):
  ff prog w (layNew t es ((ll prog w).hash k) x).1 (layNew t es ((ll prog w).hash k) x).2.1 (λb=>S b||decide (b=k)) (n+ 1):=by
 obtain⟨d,e,i,_,f,h⟩:=g;have p:DO _ (es.push ((ll prog w).hash k,x)).toList:=layNew_perm t es ((ll prog w).hash k) x;rw[Cj]at p;have z:(layNew t es ((ll prog w).hash k) x).1.size=n+ 1:=by simpa [f]using p.length_eq
 exact⟨(d.push hk c).perm p,mem_push_iff hk e p,z▸a,layNew_fits t es _ x,z,tT h es _ x⟩
theorem mG{Q:Unit->Yg->Prop}(q:Q () s):Yj (Yn prog w) A (match b with|true=>rule "set.scan.the-table-gave-way"|false=>pure ()) Q E s:=by
 cases b
 ·exact Yl q
 ·exact wpAny_rule q
theorem sW{u:Bl}{Q:Bool->Yg->Prop}(x:gq prog w s.heap a S n)(d:n+ 1<zi)(h:∀h' b,yI a s.heap h'->gq prog w h' a (λc=>S c||decide (c=k)) (if S k then n else n+ 1)->Q b {s with heap:=h'}):
  Yj (Yn prog w) A (Dq a (.int k u) ((ll prog w).hash k)) Q E s:=by
 obtain⟨o,m,q,t,f,r,hd,g⟩:=x;have y:ff prog w m t S n:=g;obtain⟨B,hm,H,C,hn,K⟩:=g;have hk:(ll prog w).is k (.int k u)=true:=intKind_is _ _ _ _;rw[Dq,setAddHashedIn];apply Av;apply Yf;apply gr f hd C;dsimp only;rw[byScan_of rfl H B,if_pos rfl]
 wp_walk using wpAny_setScan_of hk f hd C B
 cases hr:List.findIdx? (λe=>(ll prog w).is k e.2) m.toList with
 |some j=>
  obtain⟨lt,is,_⟩:=List.findIdx?_eq_some_iff_getElem.mp hr;have i:S k=true:=(hm k).mpr ⟨_,AQ lt,is⟩
  wp_walk
  refine h s.heap false (.refl a _) (mI.good ⟨o,q,f,r,hd⟩ ?_);rw[if_pos i,show(λc=>S c||decide (c=k))=S from funext λc=>?_]
  ·exact y
  ·by_cases e:c=k
   ·rw[e,i];rfl
   ·rw[decide_eq_false e,BN]
 |none=>
  have i:¬ S k=true:=λz=>by
   obtain⟨e,u,v⟩:=(hm k).mp z;exact absurd v (by simpa using List.findIdx?_eq_none_iff.mp hr e u)
  have l:=y.more hk rfl d;rw[if_neg i]at h;dsimp only;generalize layNew t m ((ll prog w).hash k) (.int k u)=L at l⊢;obtain⟨p,M,N,O⟩:=L;refine Yf (mG ?_);dsimp only;rw[hashByValue_scannable 8 (x:=.int k u) rfl];split
  all_goals
   refine Yf (Yl ?_);rw[if_pos (by rfl)];refine Yf (mI.put ⟨o,q,f,r,hd⟩ l.2.2.1 λh1 D F=>?_);split
   ·have G:=l.relaid (SetTable.grown p.size);refine Yf (mG (Yf (mI.put (s:={s with heap:=h1}) F G.2.2.1 λh2 I J=>?_)))
    wp_walk
    exact h h2 true (D.trans I) (J.good G)
   ·wp_walk
    exact h h1 true D (F.good l)
theorem mw(S I:Ye):MeetsIn prog w (zA.«set.update.loop» ⟨[.ref S,.ref I],[]⟩) λA R s=>Yj (Yn prog w) A.in1 (zu (.ref I)) (λr s=>match r with
  |none=>R (.ok (.ret .none)) s
  |some v=>Yj (Yn prog w) A.in1 (setAdd S v) (λ_ s=>yC (Yn prog w) A (.builtin "set.update.loop" ⟨[.ref S,.ref I],[]⟩) R s) (λ_ _=>False) s) (λ_ _=>False) s:=by
 intro A R s nx;show Yj _ _ (zu (.ref I) >>= _) _ _ s;apply Yf;refine zm nx (λr a h=>?_) λ_ _ z=>z.elim;rcases r with _|v
 ·wp_walk
  exact h
 ·wp_walk using zm h
  ·exact λ_ _ e=>Yl ⟨BO yK _,e⟩
  ·exact λ_ _ z=>z.elim
theorem rh{S:Ye}{m g:List Ye}{P:Nat->Yd->Prop}{St:Nat->YC->Prop}(W:Di prog w A.in1 I m g n P St)(p:S∉m)(val:Nat->Int)(B:∀i v,P i v->∃t,v=.int (val i) t)(q:n+ 1<zi):
  ∀(k i:Nat) (s:Yg),n=i+ k->St i s.heap->gq prog w s.heap S (λd=>(y7 val i).any (·==d)) (y7 val i).length->
   (∀h' tk,(∀b o,b∉g->b≠S->s.heap.get? b=Ya o->h'.get? b=Ya o)->gq prog w h' S (λd=>(y7 val n).any (·==d)) (y7 val n).length->R (.ok (.ret .none)) {s with heap:=h',toks:=tk})->
   yC (Yn prog w) A (.builtin "set.update.loop" ⟨[.ref S,.ref I],[]⟩) R s:=by
 have r:S∉g:=λz=>p (W.sub _ z);intro k
 induction k with
 |zero=>
  intro i s u st x a;obtain rfl:n=i:=u;exact enter zI yK (mw S I) (W.done s _ _ st λh tk kp=>a h tk (λb o f _ e=>kp b o f e) (x.at λo e=>kp S o r e))
 |succ k ih=>
  intro i s u st x a;refine enter zI yK (mw S I) (W.item i s _ _ (by omega) st λv h tk pv j kp=>?_);obtain⟨t,rfl⟩:=B i v pv;have len:=firstMet_length_le val i;show Yj _ _ (setAdd S (.int (val i) t)) _ _ _;unfold setAdd;refine Av (Yf ((ll prog w).pyHash (k:=val i) (intKind_is _ _ _ _) (sW (s:={s with heap:=h,toks:=tk+ 1}) (x.at λo e=>kp S o r e) (by omega) λh2 b y C=>?_)));refine ih (i+ 1) {s with heap:=h2,toks:=tk+ 1} (by omega) (W.frame _ _ _ j λb q o e=>(y.2 b λz=>p (z▸q)).trans e) (C.congr (λd=>?_) ?_) λh3 l D E=>a h3 l (λb o f c e=>D b o f c ((y.2 b c).trans (kp b o f e))) E
  ·rw[BP,step_any]
  ·rw[BP,step_length]
theorem rP(a:Yd)(h:Q1 (.ref s.heap.objs.size) {s with heap:=s.heap.push {cls:=.type "set",dict:=Yb,data:=.set #[] 0 (.fresh 0 0 (!ox w))}}):
  yC (Yn prog w) A (.call (.builtin "set.__new__") ⟨[.type "set",a],[]⟩) (wants Q1 E) s:=by
 refine BJ PySem.F.plain_set_new PySem.F.entry_set_new (wpAny_of_eq (PySem.F.newCall_set_1 a) ?_);have sub:=sub_set_self;obtain⟨hp,g,d,b,os⟩:=s
 wp_walk using yT
 exact h
theorem mr{T e f:String}{a:List Yd}{Q:Yd->Yg->Prop}(b:TypeCalled T e f)(ct:checkTypeCall T ⟨a,[]⟩=pure ())(new:yC (Yn prog w) A.in1 (.call (.builtin e) ⟨.type T::a,[]⟩) (wants Q1 E) s)(init:∀v d,Q1 v d->d.TypeIs v T/\yC (Yn prog w) A.in1 (.call (.builtin f) ⟨v::a,[]⟩) (wants (λr g=>r=.none/\Q v g) E) d):Yj (Yn prog w) A (call (.type T) a) Q E s:=by
 obtain⟨_,_,_⟩:=b.mro;have:=b.notType;have:=b.canCreate;have:=b.made;have:=b.sub;refine CI (codeAny_of_tree (Yl ⟨Code.quiet_builtin _ (by decide +kernel),A9 PySem.F.entry_type_call ?_⟩));rw[Around.under_plain (weight_type_call_type T a []) rfl]
 repeat' first|assumption|wp_step
 refine codeAny_mono new λr d h=>?_
 match r,h with
 | .error _,h=>exact h
 | .ok (.ret v),h=>
  obtain⟨ty,c⟩:=init v d h;have:=b.init.lookup;have:=b.init.bind v
  repeat' first|assumption|wp_step
  refine codeAny_mono c λr g h=>?_
  match r,h with
  | .error _,h=>exact h
  | .ok (.ret _),h=>
   obtain⟨rfl,_⟩:=h
   repeat' first|assumption|wp_step
end
theorem a6:Slot "set_iterator" "__next__" "set_iterator.__next__":=
 .of (owner:="set_iterator") (n:="__next__") (by rw[CN,Br];kernel_rfl) (by decide +kernel) (by decide +kernel) (by decide +kernel) (by first|exact .inl (by decide +kernel)|exact .inr (by decide +kernel)) (by rw[Bs];kernel_rfl)
theorem dP:BH Dh "set_iterator.__next__"=Ya zA.«set_iterator.__next__»:=entryFor_of_tree (by kernel_rfl)
theorem dU(a:Yd):CM "set_iterator.__next__" ⟨[a],[]⟩:=by unfold CM;kernel_rfl
theorem jc:Slot "set_iterator" "__iter__" "set_iterator.__iter__":=
 .of (owner:="set_iterator") (n:="__iter__") (by rw[CN,Br];kernel_rfl) (by decide +kernel) (by decide +kernel) (by decide +kernel) (by first|exact .inl (by decide +kernel)|exact .inr (by decide +kernel)) (by rw[Bs];kernel_rfl)
theorem mO:BH Dh "set_iterator.__iter__"=Ya zA.«dict_keyiterator.__iter__»:=CY (id':="dict_keyiterator.__iter__") (by kernel_rfl) rfl (by decide +kernel) (by kernel_rfl)
theorem mJ(a:Yd):CM "set_iterator.__iter__" ⟨[a],[]⟩:=by unfold CM;kernel_rfl
theorem my:BH Dh "set.__iter__"=Ya zA.«frozenset.__iter__»:=CY (id':="frozenset.__iter__") (by kernel_rfl) rfl (by decide +kernel) (by kernel_rfl)
noncomputable abbrev oz(w:YA)(h:YC):YC:=h.push {cls:=.type "set",dict:=Yb,data:=.set #[] 0 (.fresh 0 0 (!ox w))}
section
theorem mC{l:Ye}{items:Array Yd}{Q:Yd->Yg->Prop}(t:A.handled=Yb)(u:s.heap.IsList l items)(y:yM items.toList ns)(B:items.size+ 1<zi)(h:∀h' tk,gq prog w h' s.heap.objs.size (λC=>(y7 (λi=>ns.getD i 0) items.size).any (·==C)) (y7 (λi=>ns.getD i 0) items.size).length->(∀b o,s.heap.get? b=Ya o->h'.get? b=Ya o)->Q (.ref s.heap.objs.size) {s with heap:=h',toks:=tk}):
  Yj (Yn prog w) A (call (.type "set") [.ref l]) Q E s:=by
 obtain⟨⟨K,D,F,g⟩,d,j,p,m⟩:=id u;cases j;cases m;have q:l<s.heap.objs.size:=Yq d;refine mr B5 (PySem.F.typeCall_set_1 _) (rP (.ref l) (Q1:=λv G=>v=.ref s.heap.objs.size/\G={s with heap:=oz w s.heap}) ⟨rfl,rfl⟩) ?_;rintro _ _ ⟨rfl,rfl⟩;have new:(oz w s.heap).get? s.heap.objs.size=Ya {cls:=.type "set",dict:=Yb,data:=.set #[] 0 (.fresh 0 0 (!ox w))}:=Yo _ rfl;have f:(oz w s.heap).get? l=Ya {cls:=.type "list",dict:=D,data:=.seq items p,slots:=g}:=Yi _ d;have a:(oz w s.heap).objs.size=s.heap.objs.size+ 1:=zd ..;have ty:Shared.TypeIs {s with heap:=oz w s.heap} (.ref s.heap.objs.size) "set":=⟨_,new,rfl⟩;refine⟨ty,BJ B5.init.plain PySem.F.entry_set_init (check_set_init_1 ty ?_)⟩;have:=PySem.F.sub_list_set;have:=PySem.F.sub_list_frozenset;have nd:(y2 "list"==y2 "dict")=false:=by decide
 have c:∀b o,s.heap.get? b=Ya o->(oz w s.heap).get? b=Ya o:=λb o e=>Yi _ e;generalize oz w s.heap=h1 at new f a ty c⊢;have r:h1.IsList l items:=⟨_,f,rfl,p,rfl⟩
 wp_walk using AA r
 have H:s.heap.objs.size∉[h1.objs.size,l]:=by
  rw[a];intro z;rcases YF.mp z with z|z
  ·exact absurd z (YE (zq _))
  ·exact zZ q (YN.mp z)
 refine rh (Walks.list (by simpa using t) _ l (by rw[a];exact YE (zN q)) items) H (λi=>ns.getD i 0) (λi v I=>IntsAre.int_at y i v (by rw[tB];exact I)) B items.size 0 _ (by omega)
  ⟨⟨_,Yo _ rfl,rfl,rfl⟩,r.push _⟩ ⟨_,#[],0,_,Yi _ new,⟨rfl,rfl,rfl⟩,rfl,λe J=>by simp at J,λk=>by simp[firstMet_zero],by decide,by rfl,rfl,⟨List.Pairwise.nil,rfl⟩⟩ λh2 tk kp x=>?_
 wp_walk
 refine⟨rfl,h h2 tk x λb o e=>?_⟩;have n:=Yq e;refine kp b o (λz=>?_) (YE n) (Yi _ (c b o e));rw[YN.mp z,a]at n;exact absurd n (DJ.mpr (y6 _))
end
section
theorem gp{α:Type}:∀{xs:List α} {i:Nat} (h:i<xs.length),(xs[i]::xs.eraseIdx i).Perm xs
 |x::xs,0,_=>.refl _
 |x::xs,i+ 1,h=>(List.Perm.swap x (xs[i]'(Bj h)) _).trans ((gp (xs:=xs) (i:=i) (Bj h)).cons x)
theorem ph{a:Source}{Q:Nat->Yg->Prop}(hn:n≠0)(h:∀i d,i<n->Q i {s with drawn:=d}):Yj M A (choose a n) Q E s:=fun Γ p _=>by
 unfold choose;rw[Sem.wp_choose];exact⟨hn,h _ _ (DK _ (Nat.pos_of_ne_zero hn))⟩
theorem oI{α:Type}{M:Model}:∀(n:Nat) (xs:List α) (s:Yg) (Q:List α->Yg->Prop),xs.length=n->(∀a d,a.Perm xs->Q a {s with drawn:=d})->Yj M A (C4 n xs) Q E s
 |0,xs,s,Q,hl,h=>by
  have e:xs=[]:=y9 hl;subst e;unfold C4;exact Yl (h [] s.drawn .nil)
 |n+ 1,[],s,Q,hl,h=>by cases hl
 |n+ 1,x::xs,s,Q,hl,h=>by
  unfold C4;refine Yf (ph (by simp) λi d b=>?_);rw[YO b];dsimp only;refine Yf (oI n _ _ _ (by rw[Aw b,hl];rfl) λa c f=>?_);exact Yl (h _ c ((f.cons _).trans (gp b)))
theorem oB{α:Type}(f:Nat->Nat):∀(n k:Nat) (xs:List α) (out:Array α),xs.length=n->(pickOrder.go f n k xs out).toList.Perm (out.toList++xs)
 |0,k,xs,out,hl=>by
  have e:xs=[]:=y9 hl;subst e;unfold pickOrder.go;rw[CH]
 |n+ 1,k,xs,out,hl=>by
  unfold pickOrder.go;have a:f k%xs.length<xs.length:=DK _ (by omega);rw[YO a];dsimp only;refine(oB f n (k+ 1) _ _ (by rw[Aw a,hl];rfl)).trans ?_;rw[Cj,AG];exact List.Perm.append_left _ (gp a)
theorem pB{α:Type}(f:Nat->Nat)(xs:Array α):(zW f xs).toList.Perm xs.toList:=by
 have:=oB f xs.size 0 xs.toList #[] (by simp);simpa [zW]using this
end
section
noncomputable def jF(first:Yd)(i:Nat)(a:Ye)(n b:Nat):YY:={cls:=.type "set_iterator",dict:=Yb,data:=.fields #[first,.int i 0,.ref a,.int n 0,.int b 0],slots:=#[]}
theorem gB(h:YC)(b:h.get? I=Ya (jF first i a n ep))(k:Nat)(x:Yd):(h.update I (BQ (·.setIfInBounds k x))).get? I=Ya {cls:=.type "set_iterator",dict:=Yb,data:=.fields ((#[first,.int i 0,.ref a,.int n 0,.int ep 0]:Array Yd).setIfInBounds k x),slots:=#[]}:=
 yN _ b rfl
theorem bS(b:s.heap.get? I=Ya (jF first i a es.size ep)):s.TypeIs (.ref I) "set_iterator":=⟨_,b,rfl⟩
theorem gN{c:Int}{nx:Nat}(b:s.heap.get? I=Ya (jF (.int c 0) i a es.size ep))(e:s.heap.get? a=Ya o)(hd:o.data=.set es ep t)(f:t.fits es.size=true)(hn:∀(A:YX) (E:Yd->Yg->Prop) (d:Option (Yd×Nat)->Yg->Prop),d (Ya (x,nx)) s->Yj (Yn prog w) A (Ak a c.toNat i ep) d E s)(h:∀h',h'.get? I=Ya (jF (.int nx 0) (i+ 1) a es.size ep)->yI I s.heap h'->Q (Ya x) {s with heap:=h'}):Yj (Yn prog w) A (zu (.ref I)) Q E s:=by
 unfold zu;refine Yf (Ax (yZ (name:=YB "__next__") (bS b) a6 (yG a6 (bS b) dP ?_ (dU _))));unfold zA.«set_iterator.__next__»;refine Yf (Yl (Yf (Al b rfl ?_)));show Yj _ _ (BK a >>= _) _ _ _;refine Yf (yW e hd f ?_);show Yj _ _ (if(((es.size:Nat):Int) !=((es.size:Nat):Int))=true then _ else _) _ _ _;rw[if_neg (by simp)];show Yj _ _ (Ak a c.toNat ((i:Int)).toNat ((ep:Int)).toNat >>= _) _ _ _;rw[Y3,Y3];refine Yf (hn _ _ _ ?_);show Yj _ _ (Cw (.ref I) 0 (yJ nx) >>= _) _ _ _;refine Yf (ze b rfl (by simp) ?_);have h1:=gB s.heap b 0 (yJ nx);refine Yf (ze (s:={s with heap:=s.heap.update I (BQ (·.setIfInBounds 0 (yJ nx)))}) h1 rfl (by simp) ?_);refine Yl ⟨_,rfl,Yl (h _ ?_ ((zB ..).trans (zB ..)))⟩;exact yN _ h1 rfl
theorem mP{Q:Fin->Yg->Prop}(c:A.handled=Yb)(h:∀h' e,(∀b o,s.heap.get? b=Ya o->h'.get? b=Ya o)->(∃o,h'.get? e=Ya o/\o.cls=.type "StopIteration")->E (.ref e) {s with heap:=h'}):
  Yj M A (newExc (.type "StopIteration") [] >>= λe=>raiseNew e) Q E s:=by
 refine Yf ?_;simp only[newExc,newTuple];refine Yf (yO ?_ (by size_fits));refine Yf (m:=CZ _ _) (wpAny_of_eq (a:=zk) (by first|rfl|(simp only[CZ];rfl)) ?_);refine yO ?_ (by size_fits);refine wpAny_raiseNew_none c (h _ _ (λb o e=>Yi _ (Yi _ e)) ⟨_,Yo _ rfl,rfl⟩)
theorem hJ{d:Int}(g:A.handled=Yb)(c:s.heap.get? I=Ya (jF (.int d 0) i a es.size ep))(j:s.heap.get? a=Ya o)(hd:o.data=.set es ep t)(k:t.fits es.size=true)(hn:∀(A:YX) (E:Yd->Yg->Prop) (f:Option (Yd×Nat)->Yg->Prop),f Yb s->Yj (Yn prog w) A (Ak a d.toNat i ep) f E s)(h:∀h',(∀b o,b≠I->s.heap.get? b=Ya o->h'.get? b=Ya o)->Q Yb {s with heap:=h'}):Yj (Yn prog w) A (zu (.ref I)) Q E s:=by
 unfold zu;refine Yf (Ax (yZ (name:=YB "__next__") (bS c) a6 (yG a6 (bS c) dP ?_ (dU _))));unfold zA.«set_iterator.__next__»;refine Yf (Yl (Yf (Al c rfl ?_)));show Yj _ _ (BK a >>= _) _ _ _;refine Yf (yW j hd k ?_);show Yj _ _ (if(((es.size:Nat):Int) !=((es.size:Nat):Int))=true then _ else _) _ _ _;rw[if_neg (by simp)];show Yj _ _ (Ak a d.toNat ((i:Int)).toNat ((ep:Int)).toNat >>= _) _ _ _;rw[Y3,Y3];refine Yf (hn _ _ _ ?_);show Yj _ _ (Cw (.ref I) 2 .none >>= _) _ _ _;refine Yf (ze c rfl (by simp) ?_);refine mP (A:=A.in1) g λh' e kp l=>?_;obtain⟨m,n,p⟩:=l;refine Yf (AR (T:="StopIteration") (b:=true) ⟨m,n,p⟩ C0 ?_);exact Yl (h h' λb ob q e=>kp b ob ((lr _ _ (Ne.symm q)).trans e))
theorem lM{k:Nat}{hk:Int}(b:s.heap.get? I=Ya (jF (.ref tp) i a es.size ep))(d:s.heap.get? a=Ya o)(hd:o.data=.set es ep t)(e:t.fits es.size=true)(f:s.heap.get? tp=Ya {cls:=.type "tuple",dict:=Yb,data:=.seq (ps.map fun(i:Nat)=>yJ i).toArray c,slots:=#[]})(hp:ps[i]?=Ya k)(g:es[k]?=Ya (hk,x))(h:∀h',h'.get? I=Ya (jF (.ref tp) (i+ 1) a es.size ep)->yI I s.heap h'->Q (Ya x) {s with heap:=h'}):Yj (Yn prog w) A (zu (.ref I)) Q E s:=by
 unfold zu;refine Yf (Ax (yZ (name:=YB "__next__") (bS b) a6 (yG a6 (bS b) dP ?_ (dU _))));unfold zA.«set_iterator.__next__»;refine Yf (Yl (Yf (Al b rfl ?_)));show Yj _ _ (BK a >>= _) _ _ _;refine Yf (yW d hd e ?_);show Yj _ _ (if(((es.size:Nat):Int) !=((es.size:Nat):Int))=true then _ else _) _ _ _;rw[if_neg (by simp)];show Yj _ _ (seqItems? (.ref tp) >>= _) _ _ _;refine Yf (C1 f rfl ?_);have j:((ps.map fun(i:Nat)=>yJ i).toArray)[((i:Nat):Int).toNat]?=Ya (.int k 0):=by
  rw[Y3,Bt,YG,hp];rfl
 dsimp only;rw[j];show Yj _ _ (Dr a ((k:Nat):Int).toNat ((ep:Nat):Int).toNat >>= _) _ _ _;rw[Y3,Y3];unfold Dr;refine Yf (Yf (gr d hd e ?_));show Yj _ _ (if(ep !=ep)=true then _ else _) _ _ _;rw[if_neg (by simp)];refine Yf (Yl ?_);rw[g];refine Yl ?_;show Yj _ _ (Cw (.ref I) 1 (yJ ((i:Int)+ 1)) >>= _) _ _ _;refine Yf (ze b rfl (by simp) (Yl ⟨_,rfl,Yl (h _ ?_ (zB ..))⟩));exact gB s.heap b 1 (yJ ((i:Int)+ 1))
theorem lT(g:A.handled=Yb)(d:s.heap.get? I=Ya (jF (.ref tp) i a es.size ep))(j:s.heap.get? a=Ya o)(hd:o.data=.set es ep t)(k:t.fits es.size=true)(l:s.heap.get? tp=Ya {cls:=.type "tuple",dict:=Yb,data:=.seq (ps.map fun(i:Nat)=>yJ i).toArray c,slots:=#[]})(hp:ps[i]?=Yb)(h:∀h',(∀b o,b≠I->s.heap.get? b=Ya o->h'.get? b=Ya o)->Q Yb {s with heap:=h'}):Yj (Yn prog w) A (zu (.ref I)) Q E s:=by
 unfold zu;refine Yf (Ax (yZ (name:=YB "__next__") (bS d) a6 (yG a6 (bS d) dP ?_ (dU _))));unfold zA.«set_iterator.__next__»;refine Yf (Yl (Yf (Al d rfl ?_)));show Yj _ _ (BK a >>= _) _ _ _;refine Yf (yW j hd k ?_);show Yj _ _ (if(((es.size:Nat):Int) !=((es.size:Nat):Int))=true then _ else _) _ _ _;rw[if_neg (by simp)];show Yj _ _ (seqItems? (.ref tp) >>= _) _ _ _;refine Yf (C1 l rfl ?_);have m:((ps.map fun(i:Nat)=>yJ i).toArray)[((i:Nat):Int).toNat]?=none:=by
  rw[Y3,Bt,YG,hp];rfl
 dsimp only;rw[m];show Yj _ _ (Cw (.ref I) 0 (yJ 0) >>= _) _ _ _;refine Yf (ze d rfl (by simp) ?_);have h1:=gB s.heap d 0 (yJ 0);refine Yf (ze (s:={s with heap:=s.heap.update I (BQ (·.setIfInBounds 0 (yJ 0)))}) h1 rfl (by simp) ?_);refine mP (A:=A.in1) g λh' e kp n=>?_;obtain⟨p,q,r⟩:=n;refine Yf (AR (T:="StopIteration") (b:=true) ⟨p,q,r⟩ C0 ?_);exact Yl (h h' λb ob f e=>kp b ob ((lr _ _ (Ne.symm f)).trans ((lr _ _ (Ne.symm f)).trans e)))
theorem kz{Q:Option (Yd×Nat)->Yg->Prop}(b:ox w=true)(c:s.heap.get? a=Ya o)(hd:o.data=.set es ep t)(d:t.fits es.size=true)(h:Q (((zW (w.params.setOrder a ep) es)[i]?).map λe=>(e.2,sl)) s):Yj (Yn prog w) A (Ak a sl i ep) Q E s:=by
 have f:w.params.followText "set-order"=true:=b;unfold Ak;refine Yf (gr c hd d (Yf (Yf (yT (Yl ?_)))));show Yj _ _ (if w.params.followText "set-order"=true then _ else _) _ _ _;rw[f,if_pos rfl];show Yj _ _ (if(ep !=ep)=true then _ else _) _ _ _;rw[if_neg (by simp)];refine Yf ?_;unfold setWalk;refine Yf (gr c hd d (Yf (Yf (yT (Yl ?_)))));show Yj _ _ (if w.params.followText "set-order"=true then _ else _) _ _ _;rw[f,if_pos rfl];exact Yf (yT (Yl (Yl h)))
theorem mS{Q:Option (Yd×Nat)->Yg->Prop}(b:ox w=false)(d:(!t.plain&&decide (es.size>1))=false)(c:t.led=true)(e:s.heap.get? a=Ya o)(hd:o.data=.set es ep t)(f:t.fits es.size=true)(h:Q (match es[YI t.place sl]?,t.place[YI t.place sl]? with|some (_,x),Ya j=>Ya (x,j+ 1)|_,_=>Yb) s):Yj (Yn prog w) A (Ak a sl i ep) Q E s:=by
 have g:w.params.followText "set-order"=false:=b;unfold Ak;refine Yf (gr e hd f (Yf (Yf (yT (Yl ?_)))));show Yj _ _ (if w.params.followText "set-order"=true then _ else _) _ _ _;rw[g,if_neg Yt];refine Yf (Yl ?_);show Yj _ _ (if(!t.plain&&decide (es.size>1))=true then _ else _) _ _ _;rw[d,if_neg Yt];refine Yf ?_;show Yj _ _ (if(!t.led&& !es.isEmpty)=true then _ else _) _ _ _;rw[c];show Yj _ _ (if(false&& !es.isEmpty)=true then _ else _) _ _ _;rw[Ah,if_neg Yt];exact Yl (Yl h)
end
section
theorem j5{Q:Yd->Yg->Prop}(b:s.heap.get? I=Ya (jF first i a es.size ep))(h:Q (.ref I) s):Yj (Yn prog w) A (CF (.ref I)) Q E s:=by
 refine Ck (bS b) jc (yG jc (bS b) mO ?_ (mJ _));show Yj _ _ (ret (.ref I)) _ _ s;exact Yl ⟨_,rfl,"set_iterator",_,bS b,a6.lookup,h⟩
theorem pf(u:A.handled=Yb)(b:ox w=true)(hd:o.data=.set es ep t)(k:t.fits es.size=true)(ne:a≠I):
  Di prog w A I [I,a] [I] ((zW (w.params.setOrder a ep) es).toList.map (·.2)).length (λi v=>((zW (w.params.setOrder a ep) es).toList.map (·.2))[i]?=Ya v)
   (λi h=>(∃sl:Nat,h.get? I=Ya (jF (.int sl 0) i a es.size ep))/\h.get? a=Ya o) where
 sub:=λb y=>YN.mp y▸Yv
 frame:=λi h l st hk=>⟨let ⟨sl,e⟩:=st.1;⟨sl,hk I (by simp) _ e⟩,hk a (by simp) _ st.2⟩
 item:=λi s _ _ B st f=>by
  obtain⟨⟨sl,g⟩,d⟩:=st;have j:i<(zW (w.params.setOrder a ep) es).size:=by simpa using B
  refine gN (x:=((zW (w.params.setOrder a ep) es)[i]).2) (nx:=sl) g d hd k (λA E C q=>kz b d hd k ?_) λl e p=>f _ l s.toks ?_ ⟨⟨sl,e⟩,(p.2 a ne).trans d⟩ λc r m n=>(p.2 c (λz=>m (by simp[z]))).trans n
  ·rw[Yr j];exact q
  ·rw[YG,tB,Yr j];rfl
 done:=λs Q E st f=>by
  obtain⟨⟨sl,g⟩,d⟩:=st;refine hJ u g d hd k (λA E C q=>kz b d hd k ?_) λl kp=>f l s.toks λc r m n=>kp c r (λz=>m (by simp[z])) n;rw[y8 (by simp)];exact q
 self:=λi s Q E st f=>let ⟨⟨_,g⟩,_⟩:=st;j5 g f
theorem qF(F:A.handled=Yb)(b:ox w=false)(d:(!t.plain&&decide (es.size>1))=false)(r:Tb (!ox w) t)(hd:o.data=.set es ep t)(g:t.fits es.size=true)(ne:a≠I):
  Di prog w A I [I,a] [I] (es.toList.map (·.2)).length (λi v=>(es.toList.map (·.2))[i]?=Ya v)
   (λi h=>(∃sl:Nat,YI t.place sl=i/\h.get? I=Ya (jF (.int sl 0) i a es.size ep))/\h.get? a=Ya o) where
 sub:=λb G=>YN.mp G▸Yv
 frame:=λi h p st hk=>⟨let ⟨sl,k,e⟩:=st.1;⟨sl,k,hk I (by simp) _ e⟩,hk a (by simp) _ st.2⟩
 item:=λi s _ _ H st l=>by
  obtain⟨⟨sl,k,m⟩,j⟩:=st;have n:i<es.size:=by simpa using H
  have u:t.led=true:=by rw[r.2,b];rfl
  have hp:t.place.size=es.size:=by
   simp only[SetTable.fits,Cu,beq_iff_eq,decide_eq_true_eq]at g;exact g.1
  have f:i<t.place.size:=by omega
  refine gN (x:=(es[i]).2) (nx:=t.place.getD i 0+ 1) m j hd g (λA E J q=>mS b d u j hd g ?_) λp e C=>l _ p s.toks ?_ ⟨⟨t.place.getD i 0+ 1,oa r.1 f,e⟩,(C.2 a ne).trans j⟩ λc D y B=>(C.2 c (λz=>y (by simp[z]))).trans B
  ·rw[Y3,k,Yr n,Yr f];rw[YH,Yr f]at q;exact q
  ·rw[YG,tB,Yr n];rfl
 done:=λs Q E st l=>by
  obtain⟨⟨sl,k,m⟩,j⟩:=st;have u:t.led=true:=by rw[r.2,b];rfl
  refine hJ F m j hd g (λA E J q=>mS b d u j hd g ?_) λp kp=>l p s.toks λc D y B=>kp c D (λz=>y (by simp[z])) B;rw[Y3,k,y8 (by simp)];exact q
 self:=λi s Q E st l=>let ⟨⟨_,_,m⟩,_⟩:=st;j5 m l
theorem om(u:A.handled=Yb)(y:ps.Perm (zY es.size))(hd:o.data=.set es ep t)(q:t.fits es.size=true)(ne:a≠I)(B:tp≠I):
  Di prog w A I [I,a,tp] [I] (ps.map λi=>(es.getD i (0,.none)).2).length (λi v=>(ps.map λi=>(es.getD i (0,.none)).2)[i]?=Ya v)
   (λi h=>h.get? I=Ya (jF (.ref tp) i a es.size ep)/\h.get? a=Ya o/\h.get? tp=Ya {cls:=.type "tuple",dict:=Yb,data:=.seq (ps.map fun(i:Nat)=>yJ i).toArray c,slots:=#[]}) where
 sub:=λb C=>YN.mp C▸Yv
 frame:=λi h f st hk=>⟨hk I (by simp) _ st.1,hk a (by simp) _ st.2.1,hk tp (by simp) _ st.2.2⟩
 item:=λi s _ _ g st d=>by
  obtain⟨l,j,k⟩:=st;rw[Yk]at g;have hm:ps[i]<es.size:=Ag.mp (y.mem_iff.mp (AQ g));refine lM (x:=(es[ps[i]]).2) (hk:=(es[ps[i]]).1) l j hd q k (YO g) (Yr hm) λf e m=>d _ f s.toks ?_ ⟨e,(m.2 a ne).trans j,(m.2 tp B).trans k⟩ λc r n p=>(m.2 c (λz=>n (by simp[z]))).trans p;rw[YG,YO g,y3,YH,Yr hm];rfl
 done:=λs Q E st d=>by
  obtain⟨l,j,k⟩:=st;exact lT u l j hd q k (zX (by rw[Yk];exact Ym _)) λf kp=>d f s.toks λc r n p=>kp c r (λz=>n (by simp[z])) p
 self:=λi s Q E st d=>j5 st.1 d
theorem nv(a:Array (Int×Yd)):(zY a.size).map (λi=>(a.getD i (0,zk)).2)=a.toList.map (·.2):=by
 apply Cm;intro i;rw[YG,YG,tB (xs:=a)];by_cases h:i<a.size
 ·rw[YO (by rw[zb];exact h),List.getElem_range,y3,YH,Yr h];rfl
 ·rw[zX (by rw[zb];omega),y8 (by omega)];rfl
theorem qk(B:A.handled=Yb)(d:s.heap.get? a=Ya o)(y:o.ExactSet)(hd:o.data=.set es ep t)(g:t.fits es.size=true)(j:es.size<zi)(r:Tb (!ox w) t){Q:Yd->Yg->Prop}
  (h:∀(h':YC) (d':Dg) (I:Ye) (u:List Ye) (vs:List Yd) (St:Nat->YC->Prop),(∀b o,s.heap.get? b=Ya o->h'.get? b=Ya o)->s.heap.objs.size<=I->(∀b∈u,b=a∨s.heap.objs.size<=b)->vs.Perm (es.toList.map (·.2))->
   (∀A:YX,A.handled=Yb->Di prog w A I u [I] vs.length (λi v=>vs[i]?=Ya v) St)->St 0 h'->Q (.ref I) {s with heap:=h',drawn:=d'}):Yj (Yn prog w) A (CF (.ref a)) Q E s:=by
 have k:s.TypeIs (.ref a) "set":=⟨o,d,y.1⟩;have x:=Yq d;refine Ck k Bu (yG Bu k my ?_ (PySem.F.args_set_iter_1 _));unfold zA.«frozenset.__iter__» Builtin.Frozenset.slot0 Builtin.Frozenset.addrOf Builtin.Frozenset.sizeOf;refine Yf (Yf (Yl (Yl (Yf (Yf (yW d hd g (Yl ?_)))))));refine Yf ?_;unfold setDrawn;refine Yf (gr d hd g (Yf (Yf (yT (Yl (Yl ?_))))));show Yj _ _ (if(!ox w&&(!t.plain&&decide (es.size>1)))=true then _ else _) _ _ _;cases hc:(!ox w&&(!t.plain&&decide (es.size>1)))with
 |false=>
  rw[if_neg Yt];refine Yf (Yl (Yf ?_));unfold setEpoch;refine Yf (gr d hd g (Yl ?_));refine Yf (yO (Yl ⟨_,rfl,"set_iterator",_,⟨_,Yo _ rfl,rfl⟩,a6.lookup,?_⟩));have nI:a≠s.heap.objs.size:=YE x;have f:∀b∈[s.heap.objs.size,a],b=a∨s.heap.objs.size<=b:=λb j=>by
   simp only[YF,rl,or_false]at j;rcases j with z|z
   ·exact .inr (z1 z.symm)
   ·exact .inl z
  cases k:ox w with
  |true=>
   refine h _ s.drawn s.heap.objs.size [s.heap.objs.size,a] _ _ (λb o e=>Yi _ e) (Ym _) f ((pB (w.params.setOrder a ep) es).map _) (λA l=>pf l k hd g nI) ⟨⟨0,Yo _ rfl⟩,Yi _ d⟩
  |false=>
   have p:(!t.plain&&decide (es.size>1))=false:=by rw[k]at hc;exact hc
   refine h _ s.drawn s.heap.objs.size [s.heap.objs.size,a] _ _ (λb o e=>Yi _ e) (Ym _) f (.refl _) (λA l=>qF l k p r hd g nI) ⟨⟨0,nM r.1,Yo _ rfl⟩,Yi _ d⟩
 |true=>
  rw[if_pos rfl];refine Yf (oI es.size (zY es.size) s _ (by rw[zb]) λm d' q=>Yf ?_);refine wpAny_newTuple (Yf ?_) ?_
  ·unfold setEpoch;have n:(s.heap.push {cls:=.type "tuple",data:=.seq (m.map fun(i:Nat)=>yJ i).toArray}).get? a=Ya o:=Yi _ d;refine Yf (gr n hd g (Yl ?_));refine Yf (yO (Yl ⟨_,rfl,"set_iterator",_,⟨_,Yo _ rfl,rfl⟩,a6.lookup,?_⟩));have sz:(s.heap.push {cls:=.type "tuple",data:=.seq (m.map fun(i:Nat)=>yJ i).toArray}).objs.size=s.heap.objs.size+ 1:=zd ..;refine h _ d' (s.heap.push {cls:=.type "tuple",data:=.seq (m.map fun(i:Nat)=>yJ i).toArray}).objs.size [(s.heap.push {cls:=.type "tuple",data:=.seq (m.map fun(i:Nat)=>yJ i).toArray}).objs.size,a,s.heap.objs.size] (m.map λi=>(es.getD i (0,.none)).2) _
    (λb o e=>Yi _ (Yi _ e)) (by rw[sz];exact y6 _) (λb j=>?_) ?_ (λA l=>om (c:=0) l q hd g (by rw[sz];exact YE (zN x)) (by rw[sz];exact YE (zq _)))
    ⟨Yo _ rfl,Yi _ n,Yi _ (Yo _ rfl)⟩
   ·simp only[YF,rl,or_false]at j;rcases j with z|z|z
    ·exact .inr (by rw[z,sz];exact y6 _)
    ·exact .inl z
    ·exact .inr (z1 z.symm)
   ·exact(q.map _).trans (by rw[nv])
  ·rw[Yk,q.length_eq,zb];exact AF j
end
theorem j6{α:Type}[DecidableEq α]:∀{l m:List α},l.Nodup->(∀x∈l,x∈m)->m.length<=l.length->m.Perm l
 |[],m,_,_,h=>by
  have e:m=[]:=y9 (Nat.le_zero.mp h);rw[e]
 |x::l,m,nd,sub,h=>by
  rw[zE]at nd;have d:=sub x Yv;have b:=List.perm_cons_erase d;refine b.trans (List.Perm.cons x (j6 nd.2 (λy c=>?_) ?_))
  ·have a:=sub y (Yw _ c);exact(List.mem_erase_of_ne (show y≠x from λz=>nd.1 (z▸c))).mpr a
  ·have:=b.length_eq;rw[YD]at this h;omega
theorem jl(val:Nat->Int):∀i,(y7 val i).Nodup
 |0=>List.nodup_nil
 |i+ 1=>by
  rw[BP];unfold step_dedup;have a:=jl val i;by_cases h:List.any (y7 val i) (·==val i)
  ·rw[if_pos h];exact a
  ·rw[if_neg h,List.nodup_append];refine⟨a,by simp,λx b y c e=>h ?_⟩;rw[zU];refine⟨x,b,?_⟩;have d:=YN.mp c;rw[e,d,beq_self_eq_true]
theorem lZ(val:Nat->Int)(i:Nat)(k:Int):k∈y7 val i↔∃j,j<i/\val j=k:=by
 have h:=firstMet_any val i k;rw[zD,zU,zU]at h;constructor
 ·intro z;obtain⟨x,a,e⟩:=h.mp ⟨k,z,by simp⟩;obtain⟨j,b,c⟩:=yU.mp a;exact⟨j,Ag.mp b,by rw[c];simpa using e⟩
 ·rintro⟨j,b,e⟩;obtain⟨x,a,d⟩:=h.mpr ⟨val j,yU.mpr ⟨j,Ag.mpr b,rfl⟩,by simp[e]⟩;have:x=k:=by simpa using d
  rw[←this];exact a
section
theorem jY:∀{l:List (Int×Yd)},DF (ll prog w) l->∃ns,yM (l.map (·.2)) ns/\∀k,k∈ns↔∃e∈l,(ll prog w).is k e.2=true
 |[],_=>⟨[],.nil,λk=>by simp⟩
 |e::l,h=>by
  obtain⟨ns,h1,h2⟩:=jY h.tail;obtain⟨⟨k,hk,_⟩,_⟩:=h.head;obtain⟨t,c⟩:=Ca (k:=k) (v:=e.2) hk;refine⟨k::ns,?_,λj=>?_⟩
  ·rw[ar,c];exact .cons k t h1
  ·rw[YF,h2 j];constructor
   ·rintro(z|⟨a,b,q⟩)
    ·exact⟨e,Yv,by rw[z];exact hk⟩
    ·exact⟨a,Yw _ b,q⟩
   ·rintro⟨a,b,q⟩;rcases YF.mp b with z|z
    ·rw[z]at q;exact .inl ((ll prog w).inj e.2 j k q hk)
    ·exact .inr ⟨a,z,q⟩
theorem pH{vs us:List Yd}(b:vs.Perm us)(h:yM us ns):∃a,yM vs a/\a.Perm ns:=by
 induction b generalizing ns with
 |nil=>exact⟨ns,h,.refl _⟩
 |cons x p ih=>
  cases h with
  |cons n t hr=>
   obtain⟨a,h1,h2⟩:=ih hr;exact⟨n::a,.cons n t h1,h2.cons n⟩
 |swap x y l=>
  cases h with
  |cons n t hr=>
   cases hr with
   |cons m u hr=>exact⟨_,.cons m u (.cons n t hr),List.Perm.swap ..⟩
 |trans p q ih1 ih2=>
  obtain⟨a,h1,h2⟩:=ih2 h;obtain⟨c,h3,h4⟩:=ih1 h1;exact⟨c,h3,h4.trans h2⟩
theorem ri{Q:Bool->Yg->Prop}(c:s.TypeIs (.ref a) "set")(h:Q false s):Yj (Yn prog w) A (C5 (.ref a)) Q E s:=by
 show Yj _ _ (specialOf (.ref a) "__len__" >>= _) _ _ s;refine Yf (wpAny_specialOf c PySem.F.slot_set_len.lookup ?_);generalize hid:("set.__len__":String)=id0
 wp_delta
 rw[show splitId id0=Ya ("set","__len__")from by subst hid;decide +kernel];subst hid;refine Yf (AR (T:="set") (b:=true) c (by rw[Bs];kernel_rfl) ?_);refine Ba (λz=>absurd z (by decide)) (λ_=>?_);refine Ba (λ_=>?_) (λz=>absurd (by decide +kernel) z);exact Yf (Ds c (Yl h))
theorem rq{id:String}{B:zA}{a:Args}(d:BH Dh id=Ya B)(hp:plainId id=true)(h:Yj (Yn prog w) A.in1 (B a) (λf b=>match f with| .done f=>R (.ok f) b| .again c=>c.quiet=true/\yC (Yn prog w) A c R b) (λe b=>R (.error e) b) s):yC (Yn prog w) A (.builtin id a) R s:=
 A9 d (by rw[Around.under_plainId hp];exact h)
theorem mT{R:List Yd->Yg->Prop}(C:A.handled=Yb)(x:gq prog w s.heap a S n)(h:∀(h':YC) (d':Dg) (tk:Nat) (vs:List Yd) (ns:List Int),(∀b o,s.heap.get? b=Ya o->h'.get? b=Ya o)->yM vs ns->ns.length=n->(∀k,k∈ns↔S k=true)->R vs {s with heap:=h',drawn:=d',toks:=tk}):
  Yj (Yn prog w) A (DE (.ref a)) R E s:=by
 obtain⟨o,es,ep,t,L,D,hd,V,hm,y,X,hn,Y⟩:=x;have M:=Yq L;unfold DE;refine Yf (wpAny_runValue (rq entry_proto_collect' PySem.F.plain_proto_collect (Yf (yO (Yl ⟨BO AU _,rq entry_list_iadd' AU ?_⟩)))));have m:(s.heap.push {cls:=.type "list",data:=.seq ([]:List Yd).toArray}).get? s.heap.objs.size=Ya {cls:=.type "list",data:=.seq #[]}:=Yo _ rfl;have c:(s.heap.push {cls:=.type "list",data:=.seq ([]:List Yd).toArray}).get? a=Ya o:=Yi _ L;have g:(s.heap.push {cls:=.type "list",data:=.seq ([]:List Yd).toArray}).objs.size=s.heap.objs.size+ 1:=zd ..;have p:∀b ob,s.heap.get? b=Ya ob->(s.heap.push {cls:=.type "list",data:=.seq ([]:List Yd).toArray}).get? b=Ya ob:=λb ob e=>Yi _ e;show Yj _ A.in1 (C6 (.ref s.heap.objs.size) (.ref a) (.ref s.heap.objs.size)) _ _ _;generalize s.heap.push {cls:=.type "list",data:=.seq ([]:List Yd).toArray}=H1 at m c g p⊢;show Yj _ _ (typeOf (.ref a) >>= _) _ _ _;refine Yf (Ds (T:="set") ⟨o,c,D.1⟩ ?_);have n1:AS (.ref s.heap.objs.size) (.ref a)=false:=by simp[AS,zZ M]
 have n2:(y2 "set"==y2 "list")=false:=by decide
 have n3:(y2 "set"==y2 "tuple")=false:=by decide
 simp only[n1,n2,n3,BN,Ap,if_false];refine Yf (qk (s:={s with heap:=H1}) (A:=A.in1) C c D hd X y Y λh2 Z I fp vs St F lI G N W st=>?_);refine Yf (Av (ri (s:={s with heap:=h2,drawn:=Z}) ⟨o,F _ _ c,D.1⟩ ?_));have r:=F _ _ m;have O:s.heap.objs.size∉fp:=λz=>by
  rcases G _ z with q|q
  ·exact absurd M (by rw[←q];exact yE _)
  ·rw[g]at q;exact absurd q (Nat.not_succ_le_self _)
 have d:vs.length=n:=by rw[N.length_eq,Yk,yF,hn]
 have nz:vs.length<=Yp:=by rw[d,←hn];exact AF y
 refine Ba (λ_=>?_) (λz=>absurd (by decide) z);refine Yf (wpAny_rule (Yf ?_));show Yj _ _ (updateSeq s.heap.objs.size (·.push .none) >>= λ_=>updateSeq s.heap.objs.size (·.pop)) _ _ _;refine Yf (CP r rfl ?_);have u:=yN (z5 (·.push zk)) r rfl;refine CP (hz:=by seq_fits) u rfl ?_;have H:=yN (z5 (·.pop)) u rfl;have v:∀b ob,b≠s.heap.objs.size->h2.get? b=Ya ob->((h2.update s.heap.objs.size (z5 (·.push zk))).update s.heap.objs.size (z5 (·.pop))).get? b=Ya ob:=λb ob P e=>(lr _ _ (Ne.symm P)).trans ((lr _ _ (Ne.symm P)).trans e);refine Yl ⟨BO PySem.F.plain_extend_loop _,codeAny_extend_loopS (W A.in1 C).toS nz _ O _ vs.length 0 _ #[] _ rfl (Y5 _) ((W A.in1 C).frame 0 _ _ st λb y ob e=>v b ob (λz=>O (z▸y)) e) H (ItemsOf.nil _) λs' i c' l J f=>?_⟩;apply Yf (wpAny_load J _);have ea:i.toList=vs:=by
  apply Cm;intro j;rw[tB];by_cases Q:j<i.size
  ·rw[Yr Q];exact(f.2 j _ (Yr Q)).symm
  ·rw[y8 (by omega),zX (by rw[←f.1];omega)]
 obtain⟨ab,q1,q2⟩:=jY V;obtain⟨ns,U,q4⟩:=pH N q1;have ln:ns.length=n:=by rw[←U.length,d]
 have:=h s'.heap s'.drawn s'.toks vs ns (λb ob e=>l.heap b ob (λz=>?_) (v b ob (YE (Yq e)) (F b ob (p b ob e)))) U ln (λk=>by rw[q4.mem_iff,q2 k,hm k])
 ·obtain⟨h',g',d',t',K⟩:=s';have eg:g'=s.gens:=l.gens;have eo:K=s.os:=l.os;subst eg eo;show Yj _ A (pure i.toList) _ _ _;rw[ea];exact Yl this
 ·have B:=Yq e;rcases YF.mp z with z|z
  ·rw[z]at B;exact yE _ B
  ·rw[YN.mp z]at B;have q:H1.objs.size<=I:=lI;rw[g]at q;exact absurd B (DJ.mpr (YJ (y6 _) q))
end
end GX
namespace L2
open PySem PySem.Spec PyProof.Rows
noncomputable def p9(P:Yx)(w:YA)(a:Ye)(b:List Int):HO:=.ext λh=>GX.gq P w h a (λk=>b.any (·==k)) b.length
section
variable{X:Cx}
theorem au.draw{a:List (Ye×YY)}{σ:St}{H:Hp}{s:Yg}(I:au X a σ H s)(d:Dg):au X a σ H {s with drawn:=d}:=⟨I.ok,I.os,I.bare,I.base,I.loc,I.cell,I.free,I.freeC,I.pin,I.hok,I.len⟩
theorem o8(g:X.calm=true):cU X (.type "set") (λxs H Q=>∃(p:Ye) (ns:List Int),xs=[.ref p]/\bP X.K H p (ns.map V.int)/\ns.length<=1000/\∀(q:Ye) (c:List Int),H q=Yb->c.Nodup->(∀k,k∈c↔k∈ns)->Q (.ref q) (upd H q (p9 X.prog X.w q c))):=by
 intro C s σ H xs D Q I r h;obtain⟨p,ns,rfl,l,E,q⟩:=h;obtain⟨u,rfl,m⟩:=eM r;cases m;obtain⟨b,n,t,v⟩:=I.list l;have d:yM b ns:=nN n;have f:b.length=ns.length:=d.length;refine GX.mC (items:=b.toArray) (ns:=ns) (I.ok.hd g) t.isList (by simpa using d) (by rw[Ys,f];unfold zi;omega) λw z x kp=>?_;have sz:b.toArray.size=ns.length:=by rw[Ys,f]
 rw[sz]at x;have new:bM X.prog X.w (upd H s.heap.objs.size (p9 X.prog X.w s.heap.objs.size (y7 (λi=>ns.getD i 0) ns.length))) w s.heap.objs.size (p9 X.prog X.w s.heap.objs.size (y7 (λi=>ns.getD i 0) ns.length)):=by
  refine⟨x,?_,λh1 h2 y k=>y.at k⟩;obtain⟨o,_,_,_,A,_⟩:=x;exact⟨o,A⟩
 refine⟨.ref s.heap.objs.size,_,I.laid (t':=z) kp (Ym _) new,rfl,q _ _ (I.hok.fresh (Ym _)) (GX.jl _ _) λk=>?_⟩;rw[GX.lZ];constructor
 ·rintro⟨j,a,e⟩;rw[zw,YO a]at e;have B:ns[j]=k:=e;rw[←B];exact AQ a
 ·intro hk;obtain⟨j,a,e⟩:=Ac hk;refine⟨j,a,?_⟩;rw[zw,YO a];exact e
theorem lP(t:X.calm=true):cU X (.builtin "sorted") (λxs H Q=>∃(a:Ye) (b:List Int),xs=[.ref a]/\H a=Ya (p9 X.prog X.w a b)/\b.Nodup/\b.length<64/\∀(l:Ye) (ns:List Int),H l=Yb->ns.Perm b->ns.Pairwise (·<=·)->Q (.ref l) (upd H l (.lst (ns.map V.int)))):=by
 intro v s σ H xs K Q I r h;obtain⟨a,b,rfl,w,nd,c,q⟩:=h;obtain⟨u,rfl,y⟩:=eM r;cases y;have x:GX.gq X.prog X.w s.heap a (λk=>b.any (·==k)) b.length:=(I.hok a _ w).1;refine GX.o3 (args_sorted1 _) (GX.mT (A:=X.A.in1) (I.ok.hd t) x λg i f z ns hk m j hm=>?_);have B:ns.Perm b:=GX.j6 nd (λk hk=>(hm k).mpr (zU.mpr ⟨k,hk,by simp⟩)) (z1 j);have n:z.length=b.length:=by rw[m.length,j]
 have o:au X v σ H {s with heap:=g,drawn:=i,toks:=f}:=(I.draw i).kept (t':=f) hk;refine pP (s:={s with heap:=g,drawn:=i,toks:=f}) m (by rw[n];exact c) (by rw[n];exact yH (aX (by omega))) λh2 C d e D E F p G=>?_;have J:d.length<=Yp:=by rw[p.length_eq,j];exact yH (aX (by omega))
 exact⟨.ref g.objs.size,_,o.lay_ints (tk:=f) D E F J,rfl,q _ d (o.hok.fresh (Ym _)) (p.trans B) G⟩
end
end L2
namespace GX
open PySem PyProof.Rows
section
variable{prog:Yx}{w:YA}{A:YX}{E:Yd->Yg->Prop}{s:Yg}{I:Ye}{fp wr:List Ye}{N:Nat}{P:Nat->Yd->Prop}{St:Nat->YC->Prop}
end
end GX
namespace L2
open PySem PySem.Spec PyProof.Rows
variable{X:Cx}
section
end
section
end
mutual
inductive Dp (K:Yc) (H:Hp):V->zf->Prop
 |none:Dp K H .non .none
 |bool (b:Bool):Dp K H (.bl b) (.bool b)
 |int (i:Int):Dp K H (.int i) (.int i)
 |str (x:Yh):Dp K H (.str x) (.str x)
 |tup {a:Ye} {xs:List V} {ds:List zf}:cu K H a xs->pM K H xs ds->Dp K H (.ref a) (.tuple ds)
inductive pM (K:Yc) (H:Hp):List V->List zf->Prop
 |nil:pM K H [] []
 |cons {x:V} {xs:List V} {d:zf} {ds:List zf}:Dp K H x d->pM K H xs ds->pM K H (x::xs) (d::ds)
end
section
variable{X:Cx}{Za:List (Ye×YY)}{σ:St}{H:Hp}{s:Yg}
mutual
theorem Dp.reads(I:au X Za σ H s):∀{x:V} {d:zf} {u:Yd},Dp X.K H x d->RelV x u->∃a,Reads s.heap u d a
 |_,_,_,.none,r=>by cases r;exact⟨_,.none⟩
 |_,_,_,.bool b,r=>by cases r;exact⟨_,.bool b⟩
 |_,_,_,.int i,r=>by obtain⟨t,rfl⟩:=r;exact⟨_,.int i t⟩
 |_,_,_,.str z,r=>by obtain⟨t,rfl⟩:=r;exact⟨_,.str z t⟩
 |_,_,_,.tup h t,r=>by
  cases r;obtain⟨j,f,⟨o,e,c,n,g⟩,_⟩:=I.tuple h;obtain⟨a,q⟩:=pM.reads I t f;exact⟨_,.tuple e c g (by simpa using q)⟩
theorem pM.reads(I:au X Za σ H s):∀{xs:List V} {a:List zf} {us:List Yd},pM X.K H xs a->Vals xs us->∃b,ReadsAll s.heap us a b
 |_,_,_,.nil,r=>by cases r;exact⟨_,.nil⟩
 |_,_,_,.cons h t,r=>by
  cases r with
  |cons r1 r2=>
   obtain⟨b,q⟩:=Dp.reads I h r1;obtain⟨bs,c⟩:=pM.reads I t r2;exact⟨_,.cons q c⟩
end
def Dl(K:Yc)(H:Hp)(x:V)(d:zf):Prop:=Dp K H x d∨∃a b c,x=.ref a/\d=.list c/\bP K H a b/\pM K H b c
theorem Dl.reads(I:au X Za σ H s){x:V}{d:zf}{u:Yd}(h:Dl X.K H x d)(r:RelV x u):∃b,Reads s.heap u d b:=by
 rcases h with h|⟨a,i,j,rfl,rfl,h,t⟩
 ·exact Dp.reads I h r
 ·cases r;obtain⟨k,f,⟨o,n,e,c,_,g⟩,_⟩:=I.list h;obtain⟨b,q⟩:=pM.reads I t f;exact⟨_,.list e c g (by simpa using q)⟩
def uE(K:Yc):R2:=λx y H Q=>∃d e,Dl K H x d/\Dl K H y e/\d.canLay0=true/\e.canLay0=true/\min d.depth e.depth<=60/\Q (.bl (d.eqv e)) H
def pT(K:Yc):R2:=λx y H Q=>∃d e,Dl K H x d/\Dl K H y e/\d.canLay0=true/\e.canLay0=true/\min d.depth e.depth<=60/\Q (.bl (!d.eqv e)) H
theorem sP(i:X.A.units+ 64<zL):iY X (sg .Eq) (uE X.K):=by
 intro j s σ H x y v u Q I a b h;obtain⟨d,e,h1,h2,c1,c,dp,q⟩:=h;obtain⟨k,f⟩:=h1.reads I a;obtain⟨bs,g⟩:=h2.reads I b;exact SeqAt.compareEq_reads f g c1 c (by omega) ⟨.bl _,H,I,rfl,q⟩
theorem rZ(i:X.A.units+ 64<zL):iY X (sg .NotEq) (pT X.K):=by
 intro j s σ H x y v u Q I a b h;obtain⟨d,e,h1,h2,c1,c,dp,q⟩:=h;obtain⟨k,f⟩:=h1.reads I a;obtain⟨bs,g⟩:=h2.reads I b;exact SeqAt.compareNe_reads f g c1 c (by omega) ⟨.bl _,H,I,rfl,q⟩
def rX(K:Yc)(c:Bool):R2:=λx y H Q=>∃a e b d,y=.ref a/\(bP K H a e∨cu K H a e)/\pM K H e b/\Dp K H x d/\zc b=true/\d.canLay0=true/\d.depth<=60/\Q (.bl (if c then !(b.any λz=>z.eqv d)else b.any λz=>z.eqv d)) H
theorem xR(n:X.A.units+ 64<zL):iY X (sg .In) (rX X.K false):=by
 intro o s σ H x y v u Q I g i h;obtain⟨a,j,k,d,rfl,b,hd,l,c1,e,dp,q⟩:=h;obtain⟨bs,f⟩:=l.reads I g;cases i;rcases b with b|b
 ·obtain⟨m,c⟩:=Dl.reads I (x:=.ref a) (u:=.ref a) (.inr ⟨a,j,k,rfl,rfl,b,hd⟩) rfl;exact SeqAt.in_list_reads c f c1 e (by omega) ⟨.bl _,H,I,rfl,q⟩
 ·obtain⟨m,c⟩:=Dp.reads I (x:=.ref a) (u:=.ref a) (.tup b hd) rfl;exact SeqAt.in_tuple_reads c f c1 e (by omega) ⟨.bl _,H,I,rfl,q⟩
theorem o7(n:X.A.units+ 64<zL):iY X (sg .NotIn) (rX X.K true):=by
 intro o s σ H x y v u Q I g i h;obtain⟨a,j,k,d,rfl,b,hd,l,c1,e,dp,q⟩:=h;obtain⟨bs,f⟩:=l.reads I g;cases i;rcases b with b|b
 ·obtain⟨m,c⟩:=Dl.reads I (x:=.ref a) (u:=.ref a) (.inr ⟨a,j,k,rfl,rfl,b,hd⟩) rfl;exact SeqAt.notIn_list_reads c f c1 e (by omega) ⟨.bl _,H,I,rfl,q⟩
 ·obtain⟨m,c⟩:=Dp.reads I (x:=.ref a) (u:=.ref a) (.tup b hd) rfl;exact SeqAt.notIn_tuple_reads c f c1 e (by omega) ⟨.bl _,H,I,rfl,q⟩
end
theorem pq{K:Yc}{x y:V}{H:Hp}{Q:VK}{d:zf}(h1:Dl K H x d)(h2:Dl K H y d)(c:d.canLay0=true)(dp:d.depth<=60)(q:Q (.bl true) H):uE K x y H Q:=
 ⟨d,d,h1,h2,c,c,by omega,by rw[SeqAt.eqv_refl d c];exact q⟩
theorem iZ{K:Yc}{x y:V}{H:Hp}{Q:VK}{d:zf}(h1:Dl K H x d)(h2:Dl K H y d)(c:d.canLay0=true)(dp:d.depth<=60)(q:Q (.bl false) H):pT K x y H Q:=
 ⟨d,d,h1,h2,c,c,by omega,by rw[SeqAt.eqv_refl d c];exact q⟩
theorem aP{H:Hp}{l:Ye}{o:HO}(h:H l=Yb):aJ H (upd H l o):=λb u e=>by rw[aA (aq e h)];exact e
def pY(d:Ye)(H a:Hp):Prop:=∀b,b≠d->a b=H b
theorem pY.upd{d:Ye}{H:Hp}{o:HO}:pY d H (L2.upd H d o):=λb h=>aA h
theorem pY.same{d:Ye}{B H a:Hp}(e:pY d H a)(s:aJ B H)(h:B d=Yb):aJ B a:=λb o c=>by rw[e b (aq c h)];exact s b o c
theorem pY.at{d b:Ye}{H a:Hp}{o:Option HO}(e:pY d H a)(n:b≠d)(h:H b=o):a b=o:=by rw[e b n];exact h
theorem pY.of{d b:Ye}{H a:Hp}{o u:HO}(e:pY d H a)(hd:H d=Ya u)(h:H b=Ya o)(n:o≠u):a b=Ya o:=e.at (m5 h hd n) h
def yi(xs:List V)(H:Hp)(Q:VK):Prop:=xs.length<=Yp/\∀p,H p=Yb->Q (.ref p) (upd H p (.tup xs))
def yo(xs:List V)(H:Hp)(Q:VK):Prop:=xs.length<=Yp/\∀p,H p=Yb->Q (.ref p) (upd H p (.lst xs))
section
variable{D:iV}{σ:St}{H:Hp}{Q:VK}{K:Yc}
theorem ke{t u:TS}(h:t {D with nx:=u D} σ H):gS t u D σ H:=h
theorem uZ{a:TE}{g:TG}{u:TS}(h:a σ H λx b=>g x σ b (u D)):gS (sL a g) u D σ H:=h
theorem vq{a:TE}{u:TS}(h:a σ H λ_ b=>u D σ b):gS (qS a) u D σ H:=h
theorem uU{a:TI}{g:TG}{b u:TS}(h:sh a g b {D with nx:=u D} σ H):gS (sh a g b) u D σ H:=h
theorem uv{a b:TE}{f:Yh}{u:TS}(h:rf K a b f {D with nx:=u D} σ H):gS (rf K a b f) u D σ H:=h
theorem uK{c:TT}{a:TE}{u:TS}(h:c σ H λb d=>if b=true then a σ d D.rt else u D σ d):gS (rT c (sI a) oV) u D σ H:=h
theorem vg(h:D.nx σ H):oV D σ H:=h
theorem xc{a:TE}(h:a σ H D.rt):sI a D σ H:=h
theorem u4{a:TE}(h:a σ H λ_ b=>D.nx σ b):qS a D σ H:=h
theorem vQ{a:TE}{g:TG}(h:a σ H λx b=>g x σ b D.nx):sL a g D σ H:=h
theorem wg{c:TT}{t u:TS}(h:c σ H λb a=>if b=true then t D σ a else u D σ a):rT c t u D σ H:=h
theorem uo{i:Nat}{v:V}{R:St->Hp->Prop}(h:R (σ.set i (Ya v)) H):o1 i v σ H R:=h
theorem tW{R:St->Hp->Prop}(h:R σ H):wI [] σ H R:=⟨rfl,h⟩
theorem rM{t:TG}{u:rC}{v:V}{r:List V}{R:St->Hp->Prop}(h:t v σ H λa b=>u r a b R):tP t u (v::r) σ H R:=⟨v,r,rfl,h⟩
theorem tS{n:Nat}{t:rC}{a:Ye}{xs:List V}{R:St->Hp->Prop}(h1:cu K H a xs)(h2:xs.length=n)(h:t xs σ H R):ud K n t (.ref a) σ H R:=⟨a,xs,rfl,h1,h2,h⟩
theorem vN{i:Nat}{v:V}(h1:σ[i]?=Ya (Ya v))(h:Q v H):sE i σ H Q:=⟨v,h1,h⟩
theorem yy{v:V}(h:Q v H):tC v σ H Q:=h
theorem yf{r:R2}{a b:TE}(h:a σ H λx c=>b σ c λy d=>r x y d Q):wU r a b σ H Q:=h
theorem xK{r:V->Hp->VK->Prop}{a:TE}(h:a σ H λx b=>r x b Q):yl r a σ H Q:=h
theorem x6{g:Int->Int->V}{i j:Int}(h:Q (g i j) H):uD g (.int i) (.int j) H Q:=⟨i,j,rfl,rfl,h⟩
theorem yt{C:Int->Int->Prop}{g:Int->Int->V}{i j:Int}(a:C i j)(h:Q (g i j) H):rI C g (.int i) (.int j) H Q:=⟨i,j,rfl,rfl,a,h⟩
theorem yq{g:Int->V}{i:Int}(h:Q (g i) H):rU g (.int i) H Q:=⟨i,rfl,h⟩
theorem wm(i j:Int):decide (V.int i=V.int j)=decide (i=j):=by
 by_cases h:i=j
 ·subst h;rw[decide_eq_true rfl,decide_eq_true rfl]
 ·rw[decide_eq_false h,decide_eq_false (λe=>h (V.int.inj e))]
theorem xt(i j:Yh):decide (V.str i=V.str j)=decide (i=j):=by
 by_cases h:i=j
 ·subst h;rw[decide_eq_true rfl,decide_eq_true rfl]
 ·rw[decide_eq_false h,decide_eq_false (λe=>h (V.str.inj e))]
theorem wC{i j:Int}(h:Q (.bl (decide (i=j))) H):x9 (.int i) (.int j) H Q:=⟨rfl,by rw[wm];exact h⟩
theorem v7{i j:Int}(h:Q (.bl (!decide (i=j))) H):xO (.int i) (.int j) H Q:=⟨rfl,by rw[wm];exact h⟩
theorem wt{i j:Yh}(h:Q (.bl (decide (i=j))) H):x9 (.str i) (.str j) H Q:=⟨rfl,by rw[xt];exact h⟩
theorem wJ{i j:Yh}(h:Q (.bl (!decide (i=j))) H):xO (.str i) (.str j) H Q:=⟨rfl,by rw[xt];exact h⟩
theorem uY{t:TE}{R:Bool->Hp->Prop}(h:t σ H λx a=>∃k,x=.bl k/\R k a):tO t σ H R:=h
theorem v8{t:TE}{R:Bool->Hp->Prop}(h:t σ H λx a=>∃k,qN K x a k/\R k a):tX K t σ H R:=h
theorem uQ{c:Bool}{P:Bool->Prop}(h:P c):∃k,V.bl c=.bl k/\P k:=⟨c,rfl,h⟩
theorem si{c:Bool}{P:Bool->Prop}(h:P c):∃k,qN K (.bl c) H k/\P k:=⟨c,rfl,h⟩
theorem v9{t u:TT}{R:Bool->Hp->Prop}(h:t σ H λc a=>if c=true then u σ a R else R false a):xy t u σ H R:=h
theorem xQ{t u:TT}{R:Bool->Hp->Prop}(h:t σ H λc a=>if c=true then R true a else u σ a R):yg t u σ H R:=h
theorem xp{t:TT}{R:Bool->Hp->Prop}(h:t σ H λc a=>R (!c) a):wa t σ H R:=h
theorem vw{a b:TE}(h:a σ H λx d=>∃c,x=.bl c/\if c=true then b σ d Q else Q (.bl false) d):tQ a b σ H Q:=h
theorem t9{a:TE}(h:a σ H λx b=>∃c,x=.bl c/\Q (.bl (!c)) b):tL a σ H Q:=h
theorem vU{R:List V->Hp->Prop}(h:R [] H):sG σ H R:=h
theorem uH{a:TE}{b:TA}{R:List V->Hp->Prop}(h:a σ H λx c=>b σ c λxs d=>R (x::xs) d):qU a b σ H R:=h
theorem wX{t:TA}(h:t σ H λxs a=>yi xs a Q):wb t σ H Q:=h
theorem vL{t:TA}(h:t σ H λxs a=>yo xs a Q):wV t σ H Q:=h
theorem w9{xs:List V}(b:xs.length<=Yp)(h:∀p a,H p=Yb->aJ H a->a p=Ya (.tup xs)->Q (.ref p) a):yi xs H Q:=⟨b,λp hp=>h p _ hp (aP hp) ao⟩
theorem wK{xs:List V}(b:xs.length<=Yp)(h:∀p a,H p=Yb->aJ H a->a p=Ya (.lst xs)->Q (.ref p) a):yo xs H Q:=⟨b,λp hp=>h p _ hp (aP hp) ao⟩
theorem uW(h:∀p a,H p=Yb->aJ H a->a p=Ya (.dK (dI []))->Q (.ref p) a):q8 σ H Q:=λp hp=>h p _ hp (aP hp) ao
theorem uC{sp:Sp}{a:List V}{E:XK}{t:TA}(h:t σ H λvs b=>sp (vs++a) b Q E):oC sp a E t σ H Q:=h
theorem xX{r:List V->Hp->VK->Prop}{t:TA}(h:t σ H λvs a=>r vs a Q):xC r t σ H Q:=h
theorem xZ{r:V->Option Int->Option Int->Hp->VK->Prop}{a:TE}{b c:TO}(h:a σ H λx d=>b σ d λl e=>c σ e λu f=>r x l u f Q):ym r a b c σ H Q:=h
theorem qu{R:Option Int->Hp->Prop}(h:R Yb H):oT σ H R:=h
theorem vp{t:TE}{R:Option Int->Hp->Prop}(h:t σ H λx a=>∃i,x=.int i/\R (Ya i) a):tI t σ H R:=h
theorem rQ{c:Int}{P:Int->Prop}(h:P c):∃k,V.int c=.int k/\P k:=⟨c,rfl,h⟩
theorem vJ{a:Ye}{xs:List V}{lo c:Option Int}(h1:bP K H a xs)(h:∀p b,H p=Yb->aJ H b->b p=Ya (.lst (m3 xs lo c))->Q (.ref p) b):vi K (.ref a) lo c H Q:=⟨a,xs,rfl,h1,λp hp=>h p _ hp (aP hp) ao⟩
theorem xf{a:Ye}{xs:List V}{i:Int}{v:V}(h1:bP K H a xs)(h2:dH xs i=Ya v)(h:Q v H):uX K (.ref a) (.int i) H Q:=⟨a,xs,i,v,rfl,rfl,h1,h2,h⟩
theorem wL{a:Ye}{xs:List V}{i:Int}{v:V}(h1:cu K H a xs)(h2:dH xs i=Ya v)(h:Q v H):vm K (.ref a) (.int i) H Q:=⟨a,xs,i,v,rfl,rfl,h1,h2,h⟩
theorem xu{b:TI}{g:TG}{c:TS}(h:b σ H λJ f=>∃W:Nat->Nat->St->Hp->Prop,(∃m,W 0 m σ f)/\∀i m σ H,W i m σ H->
 (J.stop i H/\D.nx σ H)∨(J.go i H/\∃N:St->Hp->Prop,(∀d a,N d a->∃e,e<m/\W (i+ 1) e d a)/\∀x a,J.yld i H x a->g x σ a λj k=>c {D with nx:=N,ct:=N,bk:=D.nx} j k)):sh b g c D σ H:=h
theorem rO{b:TE}{R:It->Hp->Prop}(h:b σ H λx c=>∃a,x=.ref a/\(∃xs,bP K c a xs)/\R (tm K a) c):qB K b σ H R:=h
theorem uR{a:Ye}{xs:List V}{P:Ye->Prop}(hd:bP K H a xs)(h:P a):∃b,V.ref a=.ref b/\(∃xs,bP K H b xs)/\P b:=⟨a,rfl,⟨xs,hd⟩,h⟩
theorem tU{b:TE}{R:It->Hp->Prop}(h:b σ H λx c=>∃a,x=.ref a/\(∃xs,cu K c a xs)/\R (tf K a) c):uy K b σ H R:=h
theorem um{a:Ye}{xs:List V}{P:Ye->Prop}(hd:cu K H a xs)(h:P a):∃b,V.ref a=.ref b/\(∃xs,cu K H b xs)/\P b:=⟨a,rfl,⟨xs,hd⟩,h⟩
theorem vV{a:TA}{R:It->Hp->Prop}(h:a σ H λvs b=>∃j:Int,vs=[.int j]/\-(2^62)<=j/\j<2^62/\R (rD 0 j.toNat) b):tF a σ H R:=h
theorem x8{T:String}{r:V->List V->Hp->VK->Prop}{a:TE}{t:TA}(h:a σ H λx b=>vD K T x b/\t σ b λxs c=>r x xs c Q):xF K T r a t σ H Q:=h
theorem xr{a:Ye}{xs:List V}{P:Prop}(hd:H a=Ya (.lst xs))(h:P):vD K "list" (.ref a) H/\P:=⟨.inl ⟨rfl,_,bP.of hd⟩,h⟩
theorem qm{a:Ye}{xs:List V}{y:V}(hd:H a=Ya (.lst xs))(c:xs.length<Yp)(h:∀b,pY a H b->b a=Ya (.lst (xs++[y]))->Q .non b):jM (.ref a) [y] H Q:=⟨a,xs,y,rfl,rfl,hd,c,h _ .upd ao⟩
theorem vn{a:List (Option Nat)}{d:TI}{g:TG}{e:TT}{f:TE}(h:d σ H λJ j=>∀D,j D=Yb->∃W:Nat->Nat->St->Hp->Prop,(∃m,W 0 m (mn a σ) (upd j D (.lst [])))/\
 ∀i m k b,W i m k b->(J.stop i b/\Q (.ref D) b)∨(J.go i b/\∃N:St->Hp->Prop,(∀l n,N l n->∃o,o<m/\W (i+ 1) o l n)/\
  ∀x c,J.yld i b x c->eN g e f D N x k c)):qo a d g e f σ H Q:=h
end
theorem xq{A B:Prop}(h:B):if(!true)=true then A else B:=h
theorem xm{A B:Prop}(h:A):if(!false)=true then A else B:=h
section
variable{X:Cx}{K:Yc}
theorem bx(a:X.K=K):vE X (vm K):=by subst a;exact tV
theorem bc(a:X.K=K):vE X (uX K):=by subst a;exact rW
theorem ml(a:X.K=K):xD X (vi K):=by subst a;exact sj
theorem uj(a:X.K=K)(b:X.A.units+ 64<zL):iY X (sg .Eq) (uE K):=by subst a;exact sP b
theorem l9(a:X.K=K)(b:X.A.units+ 64<zL):iY X (sg .NotEq) (pT K):=by subst a;exact rZ b
theorem oA(a:X.K=K)(b:X.A.units+ 64<zL):iY X (sg .NotIn) (rX K true):=by subst a;exact o7 b
def wo(K:Yc):List V->Hp->VK->Prop:=λb H Q=>∃p a,b=[.ref p]/\(bP K H p a∨cu K H p a)/\Q (.int a.length) H
theorem df(a:X.K=K):cU X (.builtin "len") (wo K):=by subst a;exact l7
def mN(K:Yc):List V->Hp->VK->Prop:=λb H Q=>∃p a,b=[.ref p]/\((bP K H p a/\∀l,H l=Yb->Q (.ref l) (upd H l (.tup a)))∨(cu K H p a/\Q (.ref p) H))
theorem jv(a:X.K=K):cU X (.type "tuple") (mN K):=by subst a;exact km
def yc(K:Yc):List V->Hp->VK->Prop:=λa H Q=>∃(x:V) (t:Yd) (T:String) (b:Bool),a=[x,.ty T]/\gX K H x t/\Bn K t (.type T)=Ya b/\Q (.bl b) H
theorem ek(a:X.K=K):cU X (.builtin "isinstance") (yc K):=by subst a;exact mU
theorem oE{a:List YL}{k:Nat}{t:rC}{n:Nat}{c:zP}(d:X.K=K)(e:X.calm=true)(h:vI X a t)(hn:(zK a X.env).length=n:=by rfl)(b:(zK a X.env).findIdx? (·.1)=none:=by rfl):PG X (.Tuple a k c) (ud K n t):=by subst d;exact vb e h hn b
theorem mW{b l:YL}{a:TE}(c:X.K=K)(d:PE X l a):PI X b l (qB K a):=by subst c;exact rL d
theorem lu{b l:YL}{a:TE}(c:X.K=K)(d:PE X l a):PI X b l (uy K a):=by subst c;exact uu d
theorem qM{x:Yh}{a:zP}{t:TE}(b:X.K=K)(h:PE X (.Name x a) t):PT X (.Name x a) (tX K t):=by
 subst b;exact m6 h λ_=>rfl
theorem nj{o e:YL}{a:TE}{t:TA}{b c:zP}(d:X.K=K)(h:PE X (.Call (.Attribute o "append" b) [e] [] c) (xF X.K "list" jM a t)):PE X (.Call (.Attribute o "append" b) [e] [] c) (xF K "list" jM a t):=by subst d;exact h
end
section
variable{σ:St}{H:Hp}{Q:VK}{K:Yc}
theorem rS{a:Ye}{xs:List V}(hd:bP K H a xs)(h:∀p b,H p=Yb->aJ H b->b p=Ya (.tup xs)->Q (.ref p) b):mN K [.ref a] H Q:=⟨a,xs,rfl,.inl ⟨hd,λp hp=>h p _ hp (aP hp) ao⟩⟩
end
theorem dr{α:Type}{a:List α}{i:Nat}{n:α}(h:a[i]?=Ya n):a.take (i+ 1)=a.take i++[n]:=by
 rw[List.take_succ,h];rfl
theorem sZ{α:Type}{xs:List α}{i:Int}{v:α}(h0:0<=i)(h:xs[i.toNat]?=Ya v):dH xs i=Ya v:=by
 obtain⟨n,rfl⟩:=zM h0;exact ak h
def kj(H c:Hp):Prop:=∀a b,H a=Ya (.tup b)->c a=Ya (.tup b)
theorem kj.trans{c d e:Hp}(a:kj c d)(b:kj d e):kj c e:=λ_ _ h=>b _ _ (a _ _ h)
theorem kj.same{H a:Hp}(e:aJ H a):kj H a:=λ_ _ h=>e _ _ h
theorem kj.but{H b:Hp}{l:Ye}{o:HO}(e:pY l H b)(h:H l=Ya o)(n:∀xs,o≠.tup xs):kj H b:=λa xs z=>e.of h z (Ne.symm (n xs))
section
variable{σ:St}{H:Hp}{Q:VK}{K:Yc}{X:Cx}
theorem rH{a:Ye}{xs:List V}(hd:bP K H a xs∨cu K H a xs)(h:Q (.int xs.length) H):wo K [.ref a] H Q:=⟨a,xs,rfl,hd,h⟩
end
section
variable{X:Cx}{CX:rB}{k:Nat}{f C:Ye}{fd:Yu}{ps:List Yh}{sp:Sp}{Zl:List V}{ds:List Yd}{E:XK}{x m:Yh}{p Zc Zh:zP}{e o:YL}{es:List YL}{ta:TE}{t:TA}
structure rp(K:Yc)(C:Ye)(m:Yh)(f:Ye):Prop where
 ga:Ce K (.ref C) "__getattribute__"=Ya (Ya (.builtin "type.__getattribute__"))
 rd:PySem.W.readsIn K C (.type "type")=true
 at_:PySem.W.findCls K (.ref C) (.type "type") m=Ya (.val (.ref f))
 hd:AK (.ref f)=true
 kp:yP K (.ref f)=true
theorem p6{pl:BU Bool}(w:Gl X x)(hm:X.mg x=Ya (.ref C))(c:rp X.K C m f)(F:az X.prog X.w X.K X.mg X.base bN k f fd ps sp)(y:Binds X.K fd ps [])(z:cv k X.A)(A:PA X (e::es) t)
  (a:(x==("__debug__":Yh))=false:=by decide)
  (b:YK (e::es) X.env=(false,Y4 e X.env)::YK es X.env:=by rfl) (d:(zt Zc (YK es X.env)).any (·.1)=false:=by rfl)
  (B:Y4 (.Call (.Attribute (.Name x p) m Zh) (e::es) [] Zc) X.env=(do
   let ov←Y4 (.Name x p) X.env
   CS Zh.atName
   let (f,first)←B9 [ov] (B1 ov m pl)
   callWith Zc f first (zt Zc (YK (e::es) X.env)) (Dm Zc (Cp [] X.env))):=by rfl):
  PE X (.Call (.Attribute (.Name x p) m Zh) (e::es) [] Zc) (oC sp [] E0 t):=by
 intro l s σ H Q I h;refine Bv (pl:=pl) (bZ (fL (v:=.ref C) w hm rfl a l s σ H (λv g=>v=.ref C/\t σ g λi n=>sp (i++[]) n Q E0) I ⟨rfl,h⟩) λu K D=>?_) B;obtain⟨x,g,j,E,ex,q⟩:=D;subst ex;obtain rfl:u=Y7 C:=E;refine PySem.W.method_cls j.kIn c.ga (PySem.W.cls_value j.kIn c.rd c.at_ c.hd ?_);refine Ao (first:=[]) (h₀:=X.base) I.ok.mod.kin c.kp (bZ (A Zc l _ σ g _ (j.tok _) q) λG L ⟨i,n,o,r,J⟩=>⟨o.kIn,?_⟩) b d;exact nh (us:=G) (vs:=i) F z y .nil kS o r J
def ed(P:Yx)(w:YA)(K:Yc)(mg:Yh->Option Yd)(base:YC)(k:Nat)(m:Yh)(c:List (Ye×Sp)):Prop:=
 ∀a∈c,∃f fd b,nV K a.1/\cH K a.1 m f/\az P w K mg base bN k f fd b a.2/\Binds K fd b []
theorem ed.nil{P:Yx}{w:YA}{K:Yc}{mg:Yh->Option Yd}{base:YC}:ed P w K mg base k m []:=λ_ h=>nomatch h
theorem ed.cons{P:Yx}{w:YA}{K:Yc}{mg:Yh->Option Yd}{base:YC}{a:List (Ye×Sp)}(c:nV K C)(hm:cH K C m f)(F:az P w K mg base bN k f fd ps sp)(b:Binds K fd ps [])(r:ed P w K mg base k m a):ed P w K mg base k m ((C,sp)::a):=by
 intro d h;rcases YF.mp h with rfl|h
 ·exact⟨f,fd,ps,c,hm,F,b⟩
 ·exact r d h
def vP(c:List (Ye×Sp))(m:Yh)(t:TA)(σ:St)(x:V)(H:Hp)(Q:VK):Prop:=
 ∃b∈c,∃a d fs,x=.ref a/\H a=Ya (.ins b.1 d fs)/\fs.lookup m=Yb/\t σ H λe f=>b.2 (x::(e++[])) f Q E0
def rg(a:List (Ye×Sp))(m:Yh)(b:TE)(t:TA):TE:=λσ H Q=>b σ H λx c=>vP a m t σ x c Q
theorem bV{pl:BU Bool}{e:List (Ye×Sp)}(M:ed X.prog X.w X.K X.mg X.base k m e)(g:PE X o ta)(i:cv k X.A)
  (j:Y4 (.Call (.Attribute o m Zh) [] [] Zc) X.env=(do
   let ov←Y4 o X.env
   CS Zh.atName
   let (f,first)←B9 [ov] (B1 ov m pl)
   callWith Zc f first (zt Zc (YK [] X.env)) (Dm Zc (Cp [] X.env))):=by rfl):
  PE X (.Call (.Attribute o m Zh) [] [] Zc) (rg e m ta sG):=by
 intro n s σ H Q I h;refine Bv (pl:=pl) (bZ (g n s σ H _ I h) λu y p=>?_) j;obtain⟨x,z,b,r,t,d,a,A,fs,ex,v,l,q⟩:=p;subst ex;obtain rfl:u=Y7 a:=r;obtain⟨f,fd,B,c,hm,F,w⟩:=M t d;refine oy b v c hm l ?_;exact PySem.W.callWith_K0 (first:=[.ref a]) b.kIn hm.kp (nh (us:=[.ref a]) (vs:=[.ref a]) F i w .nil kS b (.cons rfl .nil) q)
end
section
variable{X:Cx}{K:Yc}
theorem bT{e:YL}{a:TE}{f:Yh}{b:zP}(c:X.K=K)(d:PE X e a)(g:Au e f X.env (Y4 e X.env)=Y4 e X.env):PE X (.Attribute e f b) (u0 K a f):=by subst c;exact uz d g
theorem ie{o a:YL}{b c:TE}{f:Yh}{d e:zP}(g:X.K=K)(h:PE X o b)(i:PE X a c)(j:AY a (Ya (.Attribute o f e)) d.line X.env=pure false):PS X (.Assign [.Attribute o f e] a d) (rf K b c f):=by subst g;exact vy h i j
end
section
variable{D:iV}{σ:St}{H:Hp}{Q:VK}{K:Yc}
def vS(K:Yc)(f:Yh)(x:V)(H:Hp)(Q:VK):Prop:=∃a C b fs v,x=.ref a/\H a=Ya (.ins C b fs)/\nV K C/\cp K C f/\fs.lookup f=Ya v/\Q v H
theorem vR{a:TE}{f:Yh}(h:a σ H λx b=>vS K f x b Q):u0 K a f σ H Q:=h
theorem vz{f:Yh}{a C b:Ye}{fs:List (Yh×V)}{v:V}(e:H a=Ya (.ins C b fs))(c:nV K C)(n:cp K C f)(l:fs.lookup f=Ya v)(h:Q v H):vS K f (.ref a) H Q:=⟨a,C,b,fs,v,rfl,e,c,n,l,h⟩
def yp(K:Yc)(f:Yh)(y x:V)(H:Hp)(R:Hp->Prop):Prop:=∃a C b fs,x=.ref a/\H a=Ya (.ins C b fs)/\nV K C/\cp K C f/\fs.length<1000/\R (upd H a (.ins C b (da f y fs)))
theorem uG{a b:TE}{f:Yh}(h:b σ H λy c=>a σ c λx d=>yp K f y x d λe=>D.nx σ e):rf K a b f D σ H:=h
theorem wW{f:Yh}{y:V}{a C b:Ye}{fs:List (Yh×V)}{R:Hp->Prop}(e:H a=Ya (.ins C b fs))(c:nV K C)(n:cp K C f)(g:fs.length<1000)(h:∀d,pY a H d->d a=Ya (.ins C b (da f y fs))->R d):yp K f y (.ref a) H R:=⟨a,C,b,fs,rfl,e,c,n,g,h _ .upd ao⟩
theorem rJ{a:List (Ye×Sp)}{m:Yh}{b:TE}{t:TA}(h:b σ H λx c=>vP a m t σ x c Q):rg a m b t σ H Q:=h
theorem m9{c:List (Ye×Sp)}{m:Yh}{t:TA}{C a b:Ye}{sp:Sp}{fs:List (Yh×V)}(e:H a=Ya (.ins C b fs))(l:fs.lookup m=Yb)(h:t σ H λvs d=>sp (.ref a::(vs++[])) d Q E0):vP ((C,sp)::c) m t σ (.ref a) H Q:=
 ⟨(C,sp),Yv,a,b,fs,rfl,e,l,h⟩
theorem nE{a:List (Ye×Sp)}{m:Yh}{t:TA}{b:Ye×Sp}{x:V}(h:vP a m t σ x H Q):vP (b::a) m t σ x H Q:=by
 obtain⟨c,h1,h2⟩:=h;exact⟨c,Yw _ h1,h2⟩
def yj(C:Ye)(sp:Sp)(vs:List V)(H:Hp)(Q:VK):Prop:=∀x a,H x=Yb->H a=Yb->a≠x->sp (.ref x::(vs++[])) (upd (upd H a (.own x)) x (.ins C a [])) (λv b=>v=.non/\Q (.ref x) b) E0
theorem uT{C:Ye}{sp:Sp}{t:TA}(h:t σ H λvs a=>yj C sp vs a Q):tR C sp [] E0 t σ H Q:=h
theorem xY{C:Ye}{sp:Sp}{vs:List V}(h:∀x a c,H x=Yb->aJ H c->c x=Ya (.ins C a [])->sp (.ref x::(vs++[])) c (λv f=>v=.non/\Q (.ref x) f) E0):yj C sp vs H Q:=by
 intro x a nx d g;refine h x a _ nx (λb o e=>?_) ao;rw[aA (aq e nx),aA (aq e d)];exact e
end
theorem xM{f b c:St->Hp->Prop}{r:VK}{σ:St}{H:Hp}(h:f σ H):iV.nx ⟨f,r,b,c⟩ σ H:=h
theorem w4{σ:St}{H:Hp}{R:Bool->Hp->Prop}(h:R true H):wZ σ H R:=h
theorem vx{g:TG}{d:TT}{e:TE}{D:Ye}{N:St->Hp->Prop}{x:V}{σ:St}{H:Hp}(h:g x σ H λa j=>d a j λb f=>if b=true then e a f λy i=>∃c,i D=Ya (.lst c)/\c.length<Yp/\N a (upd i D (.lst (c++[y])))else N a f):eN g d e D N x σ H:=h
theorem u6{D:iV}{σ:St}{H:Hp}{c:TT}{u:TS}(h:c σ H λb a=>if b=true then False else u D σ a):gS (rT c rk oV) u D σ H:=h
noncomputable def m7(n c k w a:V):List (Yh×V):=[("number",n),("caller",c),("count",k),("word",w),("causes",a)]
theorem r6(n c k w d:V):da "causes" d (da "word" w (da "count" k (da "caller" c (da "number" n []))))=m7 n c k w d:=by
 have e:∀(a b:Yh),decide (a=b)=false->a≠b:=λa b h=>of_decide_eq_false h;simp only[da,m7,if_neg (e "number" "caller" (by decide +kernel)),if_neg (e "number" "count" (by decide +kernel)),if_neg (e "caller" "count" (by decide +kernel)),if_neg (e "number" "word" (by decide +kernel)),if_neg (e "caller" "word" (by decide +kernel)),if_neg (e "count" "word" (by decide +kernel)),if_neg (e "number" "causes" (by decide +kernel)),if_neg (e "caller" "causes" (by decide +kernel)),if_neg (e "count" "causes" (by decide +kernel)),if_neg (e "word" "causes" (by decide +kernel))]
theorem m8{n c k w a:V}:(m7 n c k w a).lookup ("number":Yh)=Ya n:=by kernel_rfl
theorem ot{n c k w a:V}:(m7 n c k w a).lookup ("caller":Yh)=Ya c:=by kernel_rfl
theorem pW{n c k w a:V}:(m7 n c k w a).lookup ("count":Yh)=Ya k:=by kernel_rfl
theorem qg{n c k w a:V}:(m7 n c k w a).lookup ("word":Yh)=Ya w:=by kernel_rfl
theorem ny{n c k w a:V}:(m7 n c k w a).lookup ("causes":Yh)=Ya a:=by kernel_rfl
theorem qd{n c k w a:V}:(m7 n c k w a).lookup ("kind":Yh)=none:=by kernel_rfl
theorem qV{n c k w a:V}:(m7 n c k w a).lookup ("name":Yh)=none:=by kernel_rfl
theorem qK{n c k w a:V}:(m7 n c k w a).lookup ("told":Yh)=none:=by kernel_rfl
theorem o9{n c k w a:V}:(m7 n c k w a).lookup ("shown":Yh)=none:=by kernel_rfl
theorem oR{K:Yc}{H:Hp}{Q:VK}{a:Ye}{b:Yh}(h:b="own"∨b="heard"∨b="one")(c:cu K H a [.str "own",.str "heard",.str "one"])(q:Q (.bl false) H):rX K true (.str b) (.ref a) H Q:=by
 refine⟨a,_,_,_,rfl,.inr c,.cons (.str _) (.cons (.str _) (.cons (.str _) .nil)),.str b,by kernel_rfl,?_,by show 0<=60;decide,?_⟩
 ·rcases h with rfl|rfl|rfl<;>kernel_rfl
 ·have e:(([.str "own",.str "heard",.str "one"]:List zf).any λz=>z.eqv (.str b))=true:=by rcases h with rfl|rfl|rfl<;>kernel_rfl
  show Q (.bl (!_)) H;rw[e];exact q
theorem xn:decide (("heard":Yh)="own")=false:=by decide +kernel
theorem wu:decide (("one":Yh)="own")=false:=by decide +kernel
theorem vW:decide (("one":Yh)="heard")=false:=by decide +kernel
theorem w6:decide (("own":Yh)="own")=true:=by decide +kernel
theorem xa:decide (("heard":Yh)="heard")=true:=by decide +kernel
theorem ya(x y z:Yh)(c:Int):∃v:Yh,dH [V.str x,V.str y,V.str z] (c%3)=Ya (.str v)/\(v=x∨v=y∨v=z):=by
 have h1:=CQ c (show(3:Int)≠0 by decide);have h2:=B6 c (show(0:Int)<3 by decide);rcases(by omega:c%3=0∨c%3=1∨c%3=2)with h|h|h
 ·exact⟨x,by rw[h];exact ak (j:=0) rfl,.inl rfl⟩
 ·exact⟨y,by rw[h];exact ak (j:=1) rfl,.inr (.inl rfl)⟩
 ·exact⟨z,by rw[h];exact ak (j:=2) rfl,.inr (.inr rfl)⟩
noncomputable def pU(p:Int×Int):zf:=.tuple [.int p.1,.int p.2]
theorem iT.dps{K:Yc}{H:Hp}:∀{xs:List V} {b:List (Int×Int)},iT H xs b->pM K H xs (b.map pU)
 |_,_,.nil=>.nil
 |_,_,.cons r t=>by
  obtain⟨a,rfl,h⟩:=r;exact .cons (.tup (cu.of h) (.cons (.int _) (.cons (.int _) .nil))) (iT.dps t)
theorem lj:∀a:List (Int×Int),zc (a.map pU)=true
 |[]=>rfl
 |p::a=>by rw[ar,cb,lj a];rfl
theorem lD:∀a:List (Int×Int),jJ (a.map pU)<=1
 |[]=>by rw[B2,PyData.depthAll.eq_1];omega
 |p::a=>by
  have e:jJ ((p::a).map pU)=max (pU p).depth (jJ (a.map pU)):=rfl;rw[e];have:=lD a;have:(pU p).depth=1:=rfl;omega
theorem p0{H:Hp}{Q:VK}{a b:Ye}{xs c:List V}(h1:H a=Ya (.lst xs))(h2:H b=Ya (.lst c))(e:xs.length+ c.length<=1000)(h:∀p d,H p=Yb->aJ H d->d p=Ya (.lst (xs++c))->Q (.ref p) d):xo (.ref a) (.ref b) H Q:=⟨a,b,xs,c,rfl,rfl,h1,h2,yH (aX e),λp hp=>h p _ hp (aP hp) ao⟩
structure eh(K:Yc)(C:Ye):Prop where
 cl:nV K C
 n1:cp K C "number"
 n2:cp K C "caller"
 n3:cp K C "count"
 n4:cp K C "word"
 n5:cp K C "causes"
section
variable{X:Cx}
end
section
variable{D:iV}{σ:St}{H:Hp}{Q:VK}
end
section
variable{X:Cx}
end
section
variable{X:Cx}
end
section
variable{X:Cx}
theorem wk{K:Yc}{H:Hp}{a:Ye}{b:List (fP×V)}{P:Prop}(hd:H a=Ya (.dK b))(h:P):vD K "dict" (.ref a) H/\P:=⟨.inr (.inr (.inl ⟨rfl,.inl ⟨b,hd⟩⟩)),h⟩
end
section
variable{X:Cx}
end
end L2
namespace GX
open PySem
section
variable{prog:Yx}{w:YA}{A:YX}{E:Yd->Yg->Prop}{s:Yg}{K:Type}[DecidableEq K]{Zu:AJ prog w K}
end
end GX
namespace L2
open PySem PySem.Spec PyProof.Rows
section
variable{X:Cx}
end
end L2
namespace GX
open PySem PyProof.Rows
end GX
namespace L2
open PySem PySem.Spec PyProof.Rows
section
variable{X:Cx}
end
end L2
namespace HT
open PySem PyProof.Rows
section
open PySem.SeqAt
open PySem.AutoSeq1 (wpAny_loadPart')
open PySem.MeetsSeq PySem.MeetsSeq2 PySem.MeetsSeq3
end
section
variable{prog:Yx}{w:YA}{A:YX}{E:Yd->Yg->Prop}{s:Yg}
end
end HT
namespace L2
open PySem PySem.Spec PyProof.Rows
section
variable{X:Cx}
end
section
variable{me hd ba ye vo re ag v:V}
end
end L2
namespace GX
open PySem PyProof.Rows
variable{prog:Yx}{w:YA}{A:YX}
section
variable{R:AL->Yg->Prop}{I d:Ye}{fp wr:List Ye}{n:Nat}{P:Nat->Yd->Prop}{St:Nat->YC->Prop}{K:Type}[DecidableEq K]{Zu:AJ prog w K}
end
section
variable{E:Yd->Yg->Prop}{s:Yg}{K:Type}[DecidableEq K]{Zu:AJ prog w K}
end
end GX
namespace L2
open PySem PySem.Spec PyProof.Rows
variable{X:Cx}{Za:List (Ye×YY)}{σ:St}{H:Hp}{s:Yg}{f:Ye}{xs:List V}{Zb:List Yd}{ks:List (List Int)}{k:Nat}{fd:Yu}{ps:List Yh}{sp:Sp}{prog:Yx}{w:YA}{A:YX}{E:Yd->Yg->Prop}
section
end
section
end
section
variable{l:Ye}
end
section
end
section
end
section
variable{n:Nat}(hn:0<n)
include hn
end
section
end
section
end
section
variable{H0:Hp}{h':YC}
end
section
variable{D:Ye}
end
section
end
section
end
section
end
section
variable{K:Yc}
end
end L2
namespace GX
open PySem PySem.Spec PyProof.Rows
variable{prog:Yx}{w:YA}{A:YX}{s:Yg}{E:Yd->Yg->Prop}{it d:Ye}
section
variable{l:Ye}
end
section
variable{v:Ye}{es:Array C3}{i ep:Nat}
end
section
variable{K:Type}[DecidableEq K]{Zu:HeapKind prog w K}{a:Ye}{xs:List (K×Ye×Yd)}{k:K}{j:Nat}{p:Ye×Yd}
end
end GX
namespace L2
open PySem PySem.Spec PyProof.Rows
variable{X:Cx}{w:YA}{A:YX}{E:Yd->Yg->Prop}{s s':Yg}{Za:List (Ye×YY)}{σ:St}{H H':Hp}{f:Ye}{k:Nat}{ps N:List Yh}{P:Yx}{CX:rB}{mg:Yh->Option Yd}{base:YC}{Ze:Yh}{scope:y1}{cd:Yd}{cl:List (Yh×Ye)}{outer:List zg}{us:List Yd}{vs Zt:List V}{ix:List Nat}
section
variable{tg:YL}
end
section
end
section
end
section
end
section
variable(ky:Nat->Int)
variable{ky}{n:Nat}(hn:0<n)
end
section
variable{prog:Yx}
end
section
variable{D:Ye}{xs:List V}{Zb:List Yd}{ks:List (List Int)}{fd:Yu}{sp:Sp}
end
section
end
section
end
section
variable{h h':YC}{cs fs:List Ye}
end
section
variable{K:Yc}{E:XK}
end
section
end
section
end
section
variable{K:Yc}
end
section
end
section
variable{K:Yc}
end
section
end
section
variable{me hd ba ye vo re ag:V}
end
section
variable{m:Yh}{Zc Zh:zP}{e o:YL}{es:List YL}{ta:TE}{t:TA}
end
section
variable{Q:VK}
end
section
end
section
variable{K:Yc}{E:XK}
end
section
variable{K:Yc}
end
section
variable{K:Yc}
end
section
variable{K:Yc}{E:XK}
end
section
variable{B h2:YC}{ea C:Ye}{a0:Yd}
end
section
end
section
variable{M:Model}
end
section
variable{Zr:List (Ye×YY)}{EE:St->XK}
end
end L2
namespace L2
open PySem PySem.Spec PyProof.Rows PySem.W
section
variable{prog:Yx}{w:YA}{A:YX}{E:Yd->Yg->Prop}{K:Yc}{x C:Ye}
end
end L2
namespace L2
open PySem PySem.Spec PyProof.Rows
variable{P:Yx}{w:YA}{X:Cx}{p Zc:zP}{D:iV}{σ:St}{H:Hp}{tg:YL}
section
variable{K:Yc}{mg:Yh->Option Yd}{base:YC}
end
section
variable{k:Nat}{f:Ye}{fd:Yu}{ps:List Yh}{sp:Sp}{x:Yh}{e:YL}{es:List YL}{t:TA}
end
section
variable{Q:VK}
end
noncomputable def wx(lo st:Int)(n:Nat):It:=⟨λi _=>i<n,λi H x a=>a=H/\x=.int (lo+ i*st),λi _=>n<=i⟩
theorem mE{K:Yc}(it:Ye)(lo st:Int)(n:Nat):nD P w K tg (wx lo st n) [it] it (λi h=>Bd h it (lo+ (i:Nat)*st) ((n:Int)-(i:Nat)) st) where
 mem:=Y0 it
 obj:=λi h a b c=>by
  cases YN.mp c;refine⟨_,a,λv z=>?_⟩;have C:Data.fields _=Data.cell v:=z;cases C
 keep:=λi h f a k=>k it (Y0 it) _ a
 item:=by
  intro X l hw m p i A s σ H E I g a j;subst l hw m;obtain⟨q,r,D,u,x,y⟩:=g it (Y0 it);refine(Walks.range (prog:=X.prog) (w:=X.w) (I.ok.hd p) it lo st n).item i s _ _ j a λv f B F d G=>?_;obtain⟨t,rfl⟩:=F;have J:au X A σ H {s with heap:=f,toks:=B}:=I.turned (λb o c e=>G b o (by simpa using c) e) q r u x y;exact⟨_,rfl,mY (s:={s with heap:=f,toks:=B}) (n:="range_iterator") d rfl rfl (by decide) ⟨.int (lo+ i*st),H,J,⟨t,rfl⟩,⟨rfl,rfl⟩,d,λb c=>(g b c).1⟩⟩
 done:=by
  intro X l hw m p i A s σ H E I g a j;subst l hw m;obtain⟨q,r,D,u,x,y⟩:=g it (Y0 it);have j:n<=i:=j;exact Be (I.ok.hd p) a (by omega) λf L=>⟨rfl,I.turned (t':=s.toks) (λb o c e=>L b o c e) q r u x y⟩
 self:=λ_ _ _ _ _ a h=>Bf a h
theorem sO(a b c:Int)(d:0<c):0<=YQ a b c:=by
 unfold YQ;rw[if_pos d];split
 ·have:=Int.ediv_nonneg (show 0<=b-a-1 by omega) (Dt d);omega
 ·exact Int.le_refl _
section
def tD(a:TA):TI:=λσ H R=>a σ H λb d=>∃i j c:Int,b=[.int i,.int j,.int c]/\0<c/\c<1000/\Ad i j c=true/\R (wx i c (YQ i j c).toNat) d
theorem pD{a b c:YL}{l:TA}(u:Gl X "range")(hm:X.mg "range"=Yb)(v:PA X [a,b,c] l)(w:YK [a,b,c] X.env=[(false,Y4 a X.env),(false,Y4 b X.env),(false,Y4 c X.env)]:=by rfl)(d:YK [b,c] X.env=[(false,Y4 b X.env),(false,Y4 c X.env)]:=by rfl):
  PI X tg (.Call (.Name "range" p) [a,b,c] [] Zc) (tD l):=by
 intro m s σ H R I h;refine Call_ (jZ I u hm boot_range (zh (bZ (v Zc m s σ H _ I h) λF f ⟨G,n,x,y,z⟩=>?_) (by rw[w,d]) (by rw[d];rfl)));obtain⟨i,j,k,e,k0,k1,A,q⟩:=z;subst e;cases y with
 |cons r rr=>
  cases rr with
  |cons r' rr=>
   cases rr with
   |cons r'' rr=>
    cases rr;obtain⟨t,rfl⟩:=r;obtain⟨B,rfl⟩:=r';obtain⟨g,rfl⟩:=r'';refine call_range_3 (by omega) ?_ (.inl (PyProof.noPylong_small (by omega)));have J:au X m σ n {f with heap:=f.heap.push {cls:=.type "range",data:=.fields #[.int i t,.int j B,.int k g]},toks:=f.toks}:=x.kept λb o e=>Yi _ e;refine BY (IsRange.new ..) A ?_;refine⟨_,[_],_,_,n,rfl,J.kept (t':=f.toks) λb o e=>Yi _ e,mE _ i k (YQ i j k).toNat,?_,λb C=>?_,q⟩
    ·have D:i+ ((0:Nat):Int)*k=i:=by simp
     have E:(((YQ i j k).toNat:Nat):Int)-((0:Nat):Int)=YQ i j k:=by
      have:=sO i j k k0;omega
     show Bd _ _ (i+ ((0:Nat):Int)*k) ((((YQ i j k).toNat:Nat):Int)-((0:Nat):Int)) k;rw[D,E];exact Yo _ rfl
    ·cases YN.mp C;exact J.fpOk (Ym _) (J.hok.fresh (Ym _))
end
theorem rb{lo st:Int}{n:Nat}{g:TG}{f:TS}(b:Nat->St->Hp->Prop)(h0:b 0 σ H)(j:∀i σ H,i<n->b i σ H->g (.int (lo+ i*st)) σ H λc d=>f {D with nx:=b (i+ 1),ct:=b (i+ 1),bk:=D.nx} c d)(hd:∀σ H,b n σ H->D.nx σ H):
  ∃W:Nat->Nat->St->Hp->Prop,(∃m,W 0 m σ H)/\∀i m σ H,W i m σ H->((wx lo st n).stop i H/\D.nx σ H)∨((wx lo st n).go i H/\∃N:St->Hp->Prop,(∀e a,N e a->∃h,h<m/\W (i+ 1) h e a)/\∀x a,(wx lo st n).yld i H x a->g x σ a λc d=>f {D with nx:=N,ct:=N,bk:=D.nx} c d):=by
 refine⟨λi m σ H=>m=n-i/\i<=n/\b i σ H,⟨n,rfl,Y5 _,h0⟩,λi m σ H k=>?_⟩;obtain⟨rfl,o,p⟩:=k;rcases zH i n with z|z
 ·refine .inr ⟨z,b (i+ 1),λe a l=>⟨n-(i+ 1),by omega,rfl,z,l⟩,λx a y=>?_⟩;obtain⟨rfl,rfl⟩:=y;exact j i σ a z p
 ·have:i=n:=by omega
  subst this;exact .inl ⟨z,hd σ H p⟩
end L2
namespace L2
open PySem PySem.Spec PyProof.Rows PySem.W
variable{prog:Yx}{w:YA}{A:YX}{E:Yd->Yg->Prop}{x C f:Ye}{name:Yh}{v:Yd}{s:Yg}{X:Cx}{H:Hp}{B Zs Zp:String}{bmB:List Yd}
section
variable{K:Yc}
end
section
variable{K:Yc}{vs:Array Yd}{sl:Array (Option Yd)}
end
section
variable{Za:List (Ye×YY)}{σ:St}{e dx:Ye}{f:Yh}{y:V}{u:Yd}
end
section
variable{K:Yc}{fI:Ye}{h:YC}{g:Array GenState}{d:Dg}{t:Nat}{os:OsState}
end
section
variable{k:Nat}{fd:Yu}{ps:List Yh}{sp:Sp}
end
section
variable{env:zg}
end
section
variable{P:Yx}{K:Yc}{mg:Yh->Option Yd}{base:YC}{N:List Yh}{Ze:Yh}{scope:y1}{cd:Yd}{outer:List zg}{E:XK}
end
end L2
namespace L2
open PySem PySem.Spec PyProof.Rows
variable{f:Ye}{fd:Yu}
section
variable{P:Yx}{w:YA}{K:Yc}{mg:Yh->Option Yd}{base:YC}{x Ze:Yh}{st:YZ}{ds ds':List Yd}
end
section
variable{X:Cx}{k:Nat}{C:Ye}{ps:List Yh}{sp:Sp}{m:Yh}{e o:YL}{es:List YL}{ta:TE}{t:TA}{p Zc Zh:zP}
end
section
variable{D:iV}{σ:St}{H:Hp}{Q:VK}
end
section
variable{me nu ha ro ma dn tk kp od tb ab v:V}
end
end L2
namespace GX
open PySem PySem.Spec PyProof.Rows
section
variable{prog:Yx}{w:YA}{A:YX}{s:Yg}{E:Yd->Yg->Prop}{it v d:Ye}{es:Array C3}{i ep:Nat}{ok ov:Yd}
end
end GX
namespace L2
open PySem PySem.Spec PyProof.Rows
variable{X:Cx}{ta tb tl:TE}{c z:Yh}{tg:YL}{σ:St}{H:Hp}
section
end
section
variable{K:Yc}
theorem sq:∀{c:List Yh} {d:List Yd},Vals (c.map V.str) d->StrsAre d c:=by
 intro c
 induction c with
 |nil=>intro d r;cases r;exact .nil
 |cons y c ih=>
  intro d r;cases r with
  |cons a b=>
   obtain⟨t,rfl⟩:=a;exact .cons _ _ (ih b)
theorem sF:∀{a:List Yh} {b:List Yd},StrsAre b a->Vals (a.map V.str) b:=by
 intro a b h
 induction h with
 |nil=>exact .nil
 |cons _ _ _ ih=>exact .cons ⟨_,rfl⟩ ih
def wy(K:Yc):V->List V->Hp->VK->Prop:=λx c H Q=>∃(y:Yh) (a:Ye) (b:List Yh),x=.str y/\c=[.ref a]/\bP K H a (b.map V.str)/\y.length<=16/\(b.map (·.length)).sum+ b.length<=1048576/\Q (.str (zr y b)) H
theorem oG(d:X.K=K):wj X "str.join" (wy K):=by
 subst d;intro l s σ H x m v n Q I e f h;obtain⟨y,a,b,rfl,rfl,g,h1,h2,q⟩:=h;obtain⟨t,rfl⟩:=e;obtain⟨u,rfl,i⟩:=eM f;cases i;obtain⟨o,r,j,p⟩:=I.list g;refine join_listW j.isList (sq r) h1 h2 λc k=>⟨.str (zr y b),H,I.tok _,⟨c,?_⟩,q⟩;show AW (DP y b) c=_;rw[StrLaws.glued_eq_join]
def ve:V->List V->Hp->VK->Prop:=λx a H Q=>∃z y:Yh,x=.str z/\a=[.str y]/\(y.length==0)=false/\z.length+ 2<=Yp/\∀l,H l=Yb->Q (.ref l) (upd H l (.lst ((y4 z y).map V.str)))
theorem jT:wj X "str.split" ve:=by
 intro f s σ H x m v n Q I g i h;obtain⟨z,y,rfl,rfl,d,j,q⟩:=h;obtain⟨t,rfl⟩:=g;obtain⟨u,rfl,c,rfl⟩:=eM i;have a:∀(l:List (Yh×Bl)) (k:Nat),l.map (·.1)=y4 z y->EP X f σ Q (.ref s.heap.objs.size) {s with heap:=s.heap.push {cls:=.type "list",data:=.seq (strValues l).toArray},toks:=k}:=λl k e=>by
  have r:Vals ((y4 z y).map V.str) (strValues l):=by rw[←e];exact sF (strsAre_of_values l)
  have hn:((y4 z y).map V.str).length<=Yp:=by rw[Yk];exact YJ (split_le z y) j
  exact⟨.ref s.heap.objs.size,_,I.laid (t':=k) (λb ob q=>Yi _ q) (Ym _) (show bM X.prog X.w _ _ _ (.lst ((y4 z y).map V.str))from⟨hn,_,0,r,Yo _ rfl⟩),rfl,q _ (I.hok.fresh (Ym _))⟩
 have hn:(Du z (yY z y 0 z.length (z.length+ 1)) y.length).length<=Yp:=by
  have o:=StrLaws.occ_length_le z y 0 z.length (z.length+ 1);rw[length_partsBetween];omega
 cases h1:(decide (z.length<y.length)||decide (BR z<BR y))
 ·cases hf:(yY z y 0 z.length (z.length+ 1)).isEmpty
  ·refine AH F.slot_str_split (z4 _ _ _) F.entry_str_split (F.args_str_split_2 _ _) (meets_str_split_sep z y t c h1 d hf (by omega) hn) ?_;rw[strsFrom_eq];exact a (numbered s.toks _) _ ((numbered_texts _ _).trans ((if_neg (ne_true_of_eq_false h1)).trans (if_neg (ne_true_of_eq_false hf))).symm)
  ·exact AH F.slot_str_split (z4 _ _ _) F.entry_str_split (F.args_str_split_2 _ _) (meets_str_split_not_found z y t c h1 d hf) (a [(z,t)] s.toks ((if_neg (ne_true_of_eq_false h1)).trans (if_pos hf)).symm)
 ·exact AH F.slot_str_split (z4 _ _ _) F.entry_str_split (F.args_str_split_2 _ _) (meets_str_split_cannot_occur z y t c h1) (a [(z,t)] s.toks (if_pos h1).symm)
def sr:V->List V->Hp->VK->Prop:=λx a H Q=>∃z y:Yh,x=.str z/\a=[.str y]/\Q (.bl (Bw z y)) H
theorem pK:wj X "str.startswith" sr:=by
 intro c s σ H x d v e Q I a b h;obtain⟨z,y,rfl,rfl,q⟩:=h;obtain⟨t,rfl⟩:=a;obtain⟨u,rfl,f,rfl⟩:=eM b;exact SC.startswith ⟨.bl _,H,I,rfl,q⟩
def yd:V->Option Int->Option Int->Hp->VK->Prop:=λx lo a H Q=>∃z:Yh,x=.str z/\z.length<=Yp/\Q (.str (B7 z lo a)) H
theorem ua:xD X yd:=by
 intro g s σ H x v p r lo e w Q I m c n f h;obtain⟨z,rfl,o,q⟩:=h;obtain⟨t,rfl⟩:=m;refine⟨"str",_,F.slot_str_getitem.lookup,z4 _ _ _,?_⟩;have a:∀d k,EP X g σ Q (.str (B7 z lo e) d) {s with toks:=k}:=λd k=>⟨.str _,H,I.tok _,⟨d,rfl⟩,q⟩;have b:=YJ (Txt.slice_le z lo e) o;cases n with
 |none=>
  cases f with
  |none=>exact y0 (l:=Yb) (u:=Yb) (st:=Yb) c rfl (z8 ⟨b,a⟩)
  |int j tj=>exact y0 (l:=Yb) (u:=Ya (j,tj)) (st:=Yb) c rfl (z8 ⟨b,a⟩)
 |int i ti=>
  cases f with
  |none=>exact y0 (l:=Ya (i,ti)) (u:=Yb) (st:=Yb) c rfl (z8 ⟨b,a⟩)
  |int j tj=>exact y0 (l:=Ya (i,ti)) (u:=Ya (j,tj)) (st:=Yb) c rfl (z8 ⟨b,a⟩)
theorem o5:cU X (.type "int") (λxs H Q=>∃(z:Yh) (n:Int),xs=[.str z]/\Dv z=Ya n/\z.length<=640/\Q (.int n) H):=by
 intro b s σ H xs c Q I r h;obtain⟨z,n,rfl,hn,a,q⟩:=h;obtain⟨u,rfl,t,rfl⟩:=eM r;exact PySem.W.KIN.call_text hn a ⟨.int n,H,I.tok _,⟨_,rfl⟩,q⟩
def wD(c:Yh)(a b:TE):TE:=λσ H Q=>a σ H λx d=>∃i:Int,x=.int i/\i.natAbs.log2<1920/\(YB (toString i)++c).length<=Yp/\b σ d λy e=>∃j:Int,y=.int j/\j.natAbs.log2<1920/\
 ((YB (toString i))++c++YB (toString j)).length<=Yp/\Q (.str (YB (toString i)++c++YB (toString j))) e
theorem lH(d:Yh):DN++d=d:=by
 cases d;show Str.mk (#[]++_)=_;rw[Array.empty_append]
theorem uq{a b:YL}{j m n o p}(q:PE X a ta)(r:PE X b tb):PE X (.JoinedStr [.FormattedValue a (-1) Yb m,.Constant (.str c) j n,.FormattedValue b (-1) Yb o] p) (wD c ta tb):=by
 intro g s σ H Q I h;refine JoinedStr_many (Bx (BL (bZ (q g s σ H _ I h) λv F d=>?_)));obtain⟨x,u,w,z,e⟩:=d;obtain⟨i,rfl,k,A,e⟩:=e;obtain⟨t,rfl⟩:=z;refine By k ⟨?_,?_⟩
 ·rw[lH];exact int_text_fits k
 refine Bx (Calls.Constant_str ⟨?_,?_⟩)
 ·rw[lH];exact A
 rw[lH];refine Bx (BL (bZ (r g _ σ u _ (w.tok _) e) λv G d=>?_));obtain⟨y,B,C,D,f⟩:=d;obtain⟨j,rfl,E,l,f⟩:=f;obtain⟨t,rfl⟩:=D;refine By E ⟨l,?_⟩;exact joinParts_nil ⟨.str _,B,C.tok _,⟨_,rfl⟩,f⟩ l
def wY:V->List V->Hp->VK->Prop:=λx a H Q=>∃(d:Ye) (m:List (fP×V)) (z:Yh) (y:V),x=.ref d/\a=[.str z,y]/\H d=Ya (.dK m)/\m.length<1000/\(∀v,dG m (Y1 z)=Ya v->Q v H)/\(dG m (Y1 z)=Yb->Q y (upd H d (.dK (iL m (Y1 z) y))))
theorem qA:wj X "dict.setdefault" wY:=by
 intro K s σ H x L v M Q I p q h;obtain⟨d,m,z,y,rfl,rfl,hd,N,r,A⟩:=h;cases p;obtain⟨O,B,rfl,C,g⟩:=q.two;obtain⟨t,rfl⟩:=C;obtain⟨P,i,j,a,D⟩:=vY I.hok hd;obtain⟨h1,h2⟩:=qW (T:="dict") I (x:=.ref d) rfl (.inr (.inr (.inl ⟨rfl,.inl ⟨_,hd⟩⟩)));have E:j.length=m.length:=(KV.length a).symm;have c:=a.val (Y1 z:fP);have hk:=mR X.prog X.w z t;refine call_meetsIn Am h1 PySem.F.entry_dict_setdefault (PySem.F.args_dict_setdefault_3 _ _ _) (kt_meets_setdefault (dQ X.prog X.w) d hk i B) ⟨j,D,by rw[E];exact yH (aX (by omega)),λv e=>?_,λe R k F=>?_⟩
 ·cases w:dG m (Y1 z)with
  |none=>
   rw[w]at c;rw[gG.none_of c]at e;cases e
  |some v0=>
   rw[w]at c;obtain⟨u,f,l⟩:=gG.some_of c;rw[f]at e;cases e;exact⟨v0,H,I.tok _,l,r v0 w⟩
 ·have w:dG m (Y1 z)=none:=by
   cases w:dG m (Y1 z)with
   |none=>rfl
   |some v0=>
    rw[w]at c;obtain⟨u,f,l⟩:=gG.some_of c;rw[f]at e;cases e
  obtain⟨o,S,U,G,V⟩:=id k;have J:(iL m (Y1 z) y).length<=1000:=by
   have:=dJ m (Y1 z:fP) y;omega
  exact⟨y,_,I.write (t':=s.toks+ 1) (x:=d) (e:=d) (o:=.dK (iL m (Y1 z) y)) (by rw[hd];trivial) (.inl rfl) (λb ob n e=>(F.2 b n).trans e) ⟨o,G⟩ (vh (yH (aX J)) i (KV.put a (Y1 z:fP) g) k),g,A w⟩
end
noncomputable def vC(z:Yh):It:=⟨λi _=>i<z.cps.size,λi H x a=>a=H/\∃c,z.cps[i]?=Ya c/\x=.str ⟨#[c]⟩,λi _=>z.cps.size<=i⟩
theorem qc{P:Yx}{w:YA}{K:Yc}(it:Ye)(z:Yh)(t:Bl):nD P w K tg (vC z) [it] it (λi h=>h.IsStrIter it "str_ascii_iterator" z t (min i z.cps.size)) where
 mem:=Y0 it
 obj:=λi h a b g=>by
  cases YN.mp g;obtain⟨o,e,c,d⟩:=a;exact⟨o,e,λv y=>by rw[d]at y;cases y⟩
 keep:=λi h l a k=>by
  obtain⟨o,e,r⟩:=a;exact⟨o,k it (Y0 it) o e,r⟩
 item:=by
  intro X n hw p q i F s σ H E I m a f;subst n hw p;have f:i<z.cps.size:=f;obtain⟨x,A,L,B,C,D⟩:=m it (Y0 it);rw[Bb (yH f)]at a;refine(Walks.strAscii (prog:=X.prog) (w:=X.w) (I.ok.hd q) it z t).item i s _ _ f a λv l G M j N=>?_;obtain⟨c,u,e,rfl⟩:=M;have J:au X F σ H {s with heap:=l,toks:=G}:=I.turned (λb o g e=>N b o (by simpa using g) e) x A B C D;obtain⟨o,O,co,d⟩:=id j;rw[←Bb (show i+ 1<=z.cps.size from f)]at j;exact⟨_,rfl,mY (s:={s with heap:=l,toks:=G}) O co d (by decide) ⟨.str ⟨#[c]⟩,H,J,⟨u,rfl⟩,⟨rfl,c,e,rfl⟩,j,λb g=>(m b g).1⟩⟩
 done:=by
  intro X n hw p q i F s σ H E I m a f;subst n hw p;obtain⟨x,A,L,B,C,D⟩:=m it (Y0 it);have f:z.cps.size<=i:=f;rw[Nat.min_eq_right f]at a;exact wpAny_pyNext_ascii_end (I.ok.hd q) a (by simp) λl Q=>⟨rfl,I.turned (t':=s.toks) (λb o g e=>Q b o g e) x A B C D⟩
 self:=λ_ _ _ _ _ a h=>wpAny_pyIter_striter_ascii a h
section
def xw(a:TE):TI:=λσ H R=>a σ H λx b=>∃z:Yh,x=.str z/\z.cps.all (·<128)=true/\R (vC z) b
theorem uA{l:YL}(d:PE X l tl):PI X tg l (xw tl):=by
 intro f s σ H R I h;refine bZ (d f s σ H _ I h) λv a g=>?_;obtain⟨x,i,c,j,k⟩:=g;obtain⟨z,rfl,m,q⟩:=k;obtain⟨t,rfl⟩:=j;refine wpAny_pyIter_ascii m ?_;refine⟨a.heap.objs.size,[a.heap.objs.size],_,_,i,rfl,c.kept (t':=a.toks) λb o e=>Yi _ e,qc _ z t,?_,λb n=>?_,q⟩
 ·rw[Bb (Y5 _)];exact⟨_,Yo _ rfl,rfl,rfl⟩
 ·cases YN.mp n;exact c.fpOk (Ym _) (c.hok.fresh (Ym _))
end
theorem qH{g:TG}{h:TT}{j:TE}{D:Ye}{Qe:Hp->Prop}(b:Nat->St->Hp->Prop)(h0:b 0 σ H)(q:∀i c σ H,z.cps[i]?=Ya c->b i σ H->eN g h j D (b (i+ 1)) (.str ⟨#[c]⟩) σ H)(hd:∀σ H,b z.cps.size σ H->Qe H):
  ∃W:Nat->Nat->St->Hp->Prop,(∃m,W 0 m σ H)/\∀i m f a,W i m f a->((vC z).stop i a/\Qe a)∨((vC z).go i a/\∃N:St->Hp->Prop,(∀l n,N l n->∃o,o<m/\W (i+ 1) o l n)/\
   ∀x d,(vC z).yld i a x d->eN g h j D N x f d):=by
 refine⟨λi m σ H=>m=z.cps.size-i/\i<=z.cps.size/\b i σ H,⟨z.cps.size,rfl,Y5 _,h0⟩,λi m σ H r=>?_⟩;obtain⟨rfl,t,p⟩:=r;rcases zH i z.cps.size with k|k
 ·refine .inr ⟨k,b (i+ 1),λf a s=>⟨z.cps.size-(i+ 1),by omega,rfl,k,s⟩,λx a y=>?_⟩;obtain⟨rfl,c,e,rfl⟩:=y;exact q i c σ _ e p
 ·have e:i=z.cps.size:=by omega
  subst e;exact .inl ⟨k,hd σ H p⟩
theorem xk{K:Yc}{P:Prop}(h:P):vD K "str" (.str z) H/\P:=⟨rfl,h⟩
theorem wB{Q:VK}(h:ta σ H λx a=>∃i:Int,x=.int i/\i.natAbs.log2<1920/\(YB (toString i)++c).length<=Yp/\tb σ a λy b=>∃j:Int,y=.int j/\j.natAbs.log2<1920/\
 ((YB (toString i))++c++YB (toString j)).length<=Yp/\Q (.str (YB (toString i)++c++YB (toString j))) b):wD c ta tb σ H Q:=h
theorem tZ{R:It->Hp->Prop}(h:tl σ H λx a=>∃z:Yh,x=.str z/\z.cps.all (·<128)=true/\R (vC z) a):xw tl σ H R:=h
end L2
namespace L2
open PySem PySem.Spec PyProof.Rows PySem.NumText
variable{n i:Int}{c:Nat}
noncomputable abbrev nT(i:Int):Yh:=YB (toString i)
noncomputable def dg(n:Nat):List Nat:=(B8 10 n).map Char.toNat
theorem gy(n:Nat):(nT (n:Int)).cps.toList=dg n:=PySem.W.KIN.signs_num n
theorem fk(n:Nat):AllDigits (dg n):=λc a=>by
 obtain⟨x,b,rfl⟩:=yU.mp a;exact Dw (Nat.isDigit_of_mem_toDigits (by decide) (by decide) b)
theorem oH(n:Nat):dg n≠[]:=λz=>by
 have y:B8 10 n=[]:=yX.mp z;exact Nat.toDigits_ne_nil y
theorem kb(n:Nat):digitsVal (dg n)=n:=PySem.W.KIN.val_back n
theorem sJ{n:Nat}{r:List Nat}(e:dg n=48::r):n=0:=by
 have a:=toDigits_all (dg n) (fk n);rw[kb]at a;rw[e,List.dropWhile_cons,if_pos (by rfl)]at a;cases d:r.dropWhile (·==48)with
 |nil=>
  rw[d]at a;have b:dg n=[48]:=by
   unfold dg;rw[a];rfl
  have c:=kb n;rw[b]at c;exact c.symm
 |cons x y=>
  rw[d]at a;have f:(dg n).length=(x::y).length:=by
   unfold dg;rw[a,Yk,Yk]
  have g:(x::y).length<=r.length:=by
   rw[←d];exact List.Sublist.length_le (List.dropWhile_sublist _)
  rw[e,YD]at f;omega
theorem k9(x:Yh):x.length=x.cps.toList.length:=yF.symm
theorem jK{a b:Yh}(h:a.cps.toList=b.cps.toList):a=b:=by
 obtain⟨⟨a⟩⟩:=a;obtain⟨⟨b⟩⟩:=b;have h:a=b:=h;rw[h]
theorem dq(h0:0<=n)(h1:n<10^60):(nT n).length<=60:=toString_length_le h0 (by decide) h1
theorem rF(h0:0<=n)(h1:n<10^60):Dv (nT n)=Ya n:=by
 obtain⟨m,rfl⟩:=zM h0;have e:=intText_digits (x:=nT (m:Int)) (by rw[gy];exact fk m) (by rw[gy];exact oH m) (YJ (dq h0 h1) (by decide));rw[gy,kb]at e;exact e
theorem vt(h1:-(10^60)<n)(h2:n<10^60):n.natAbs.log2<1920:=by
 rcases B4 n.natAbs with z|z
 ·rw[z];decide
 ·refine(DB (by omega)).mpr (Yy (show n.natAbs<10^60 by omega) ?_);exact YJ (show(10:Nat)^60<=2^240 by decide) (Nat.pow_le_pow_right (by decide) (by decide))
theorem fw{n:Nat}(h:0<n):(nT (-(n:Int))).cps.toList=45::dg n:=by
 cases n with
 |zero=>cases h
 |succ k=>
  show(YB (toString (Int.negSucc k))).cps.toList=_;rw[signs_ofString];show((String.append "-" (Dx (k+ 1))).toList).map Char.toNat=_;have e:(String.append "-" (Dx (k+ 1))).toList='-'::B8 10 (k+ 1):=by
   show("-"++Dx (k+ 1)).toList=_;rw[String.toList_append,Nat.toList_repr];rfl
  rw[e,ar];rfl
theorem i8(h:0<=i):(nT i).cps.toList=dg i.toNat:=by
 obtain⟨m,rfl⟩:=zM h;exact gy m
theorem qE(i:Int):∀c∈(nT i).cps.toList,c=45∨(48<=c/\c<=57):=by
 intro c a;rcases z9 i 0 with h|h
 ·have e:=fw (n:=(-i).toNat) (by omega);rw[show(-((-i).toNat:Int))=i by omega]at e;rw[e]at a;rcases YF.mp a with rfl|a
  ·exact .inl rfl
  ·exact .inr (fk _ _ a)
 ·rw[i8 h]at a;exact .inr (fk _ _ a)
theorem ki(h1:-(10^60)<i)(h2:i<10^60):(nT i).length<=61:=by
 rcases z9 i 0 with h|h
 ·have e:=fw (n:=(-i).toNat) (by omega);rw[show(-((-i).toNat:Int))=i by omega]at e;have a:=dq (n:=((-i).toNat:Int)) (by omega) (by omega);rw[k9,gy]at a;rw[k9,e,YD];omega
 ·exact YJ (dq h h2) (by decide)
noncomputable def jn(c:Nat):List (List Nat)->List Nat
 |[]=>[]
 |[a]=>a
 |a::b::r=>a++c::jn c (b::r)
theorem gR(a b:Yh):(a++b).cps.toList=a.cps.toList++b.cps.toList:=by
 show(a.cps++b.cps).toList=_;exact Array.toList_append
theorem oY(c:Nat)(d:List Yh):(zr ⟨#[c]⟩ d).cps.toList=jn c (d.map λp=>p.cps.toList):=by
 induction d with
 |nil=>rfl
 |cons a r ih=>
  cases r with
  |nil=>rfl
  |cons b r=>
   show(a++⟨#[c]⟩++zr ⟨#[c]⟩ (b::r)).cps.toList=_;rw[gR,gR,ih,AG];rfl
theorem ue:∀{a b x y:List Nat},c∉a->c∉b->a++c::x=b++c::y->a=b/\x=y:=by
 intro a
 induction a with
 |nil=>
  intro b x y g h e;cases b with
  |nil=>exact⟨rfl,(YR e).2⟩
  |cons d b=>
   have:=(YR e).1;subst this;exact absurd (Yv ..) h
 |cons d a ih=>
  intro b x y g h e;cases b with
  |nil=>
   have:=(YR e).1;subst this;exact absurd (Yv ..) g
  |cons f b=>
   obtain⟨i,j⟩:=YR e;obtain⟨k,l⟩:=ih (λz=>g (Yw _ z)) (λz=>h (Yw _ z)) j;exact⟨by rw[i,k],l⟩
theorem uO:∀{p q:List (List Nat)},p≠[]->q≠[]->(∀a∈p,c∉a)->(∀a∈q,c∉a)->jn c p=jn c q->p=q:=by
 intro p
 induction p with
 |nil=>intro q h;exact absurd rfl h
 |cons a p ih=>
  intro q _ k h1 h2 e;have i:=h1 a (Yv ..);cases q with
  |nil=>exact absurd rfl k
  |cons b q=>
   have j:=h2 b (Yv ..);cases p with
   |nil=>
    cases q with
    |nil=>exact congrArg (λz=>[z]) e
    |cons d q=>
     have e:a=b++c::jn c (d::q):=e;exact absurd (by rw[e];exact YM _ (Yv ..)) i
   |cons d p=>
    cases q with
    |nil=>
     have e:a++c::jn c (d::p)=b:=e;exact absurd (by rw[←e];exact YM _ (Yv ..)) j
    |cons f q=>
     obtain⟨l,m⟩:=ue i j e;have n:=ih (q:=f::q) (Cy _ _) (Cy _ _) (λx g=>h1 x (Yw _ g)) (λx g=>h2 x (Yw _ g)) m;rw[l,n]
theorem gA{d:List Yh}(h0:d≠[])(h:∀p∈d,c∉p.cps.toList):y4 (zr ⟨#[c]⟩ d) ⟨#[c]⟩=d:=by
 have e:=oY c (y4 (zr ⟨#[c]⟩ d) ⟨#[c]⟩);rw[StrLaws.join_split,oY]at e;have f:=uO (c:=c) (λz=>h0 (yX.mp z)) (λz=>?_) ?_ ?_ e
 ·have inj:∀a b:List Yh,(a.map λp=>p.cps.toList)=(b.map λp=>p.cps.toList)->a=b:=by
   intro a
   induction a with
   |nil=>
    intro b e;exact(yX.mp e.symm).symm
   |cons x a ih=>
    intro b e;cases b with
    |nil=>cases e
    |cons y b=>
     obtain⟨i,j⟩:=YR e;rw[jK i,ih b j]
  exact(inj _ _ f).symm
 ·have:=split_pos (zr ⟨#[c]⟩ d) ⟨#[c]⟩;rw[yX.mp z]at this;cases this
 ·intro a g;obtain⟨p,hp,rfl⟩:=yU.mp g;exact h p hp
 ·intro a g;obtain⟨p,hp,rfl⟩:=yU.mp g;exact StrLaws.split_free _ c p hp
end L2
local macro_rules|`(tactic|sizeOf_list_dec)=>`(tactic|first|exact Nat.le_of_ble_eq_true rfl|exact L2.aX (by omega)|omega)
local macro_rules|`(tactic|sizeOf_list_dec)=>`(tactic|first|assumption|decide|exact ⟨by decide, by decide⟩|exact ⟨by decide, by decide, by decide⟩)
local macro_rules|`(tactic|sizeOf_list_dec)=>`(tactic|with_reducible exact L2.o9)
local macro_rules|`(tactic|sizeOf_list_dec)=>`(tactic|with_reducible first|exact L2.ny|exact L2.qd|exact L2.qV|exact L2.qK)
local macro_rules|`(tactic|sizeOf_list_dec)=>`(tactic|with_reducible first|exact L2.m8|exact L2.ot|exact L2.pW|exact L2.qg)
local macro_rules|`(tactic|decreasing_trivial_pre_omega)=>`(tactic|first|assumption|(apply L2.bP.of;assumption)|(apply L2.cu.of;assumption)|(refine Or.inl ?_;assumption)|(refine Or.inl ?_;apply L2.bP.of;assumption)|(refine Or.inr ?_;apply L2.cu.of;assumption))
local macro_rules|`(tactic|bv_omega)=>`(tactic|first|assumption|exact L2.ak (j := 0) rfl|exact L2.ak (j := 1) rfl|exact L2.ak (j := 2) rfl|exact L2.ak (j := 3) rfl|exact L2.ak (j := 4) rfl|exact L2.ak (j := 5) rfl)
local macro_rules|`(tactic|array_get_dec)=>`(tactic|array_mem_dec)
local macro_rules|`(tactic|array_get_dec)=>`(tactic|with_reducible first|refine L2.xI ?_|refine L2.xW ?_|refine L2.xq ?_|refine L2.xm ?_)
local macro_rules|`(tactic|array_get_dec)=>`(tactic|with_reducible first|refine L2.x8 ?_|refine L2.vn ?_|refine L2.rM ?_|refine L2.tW ?_)
local macro_rules|`(tactic|array_get_dec)=>`(tactic|with_reducible first|refine L2.xu ?_|refine L2.rO ?_|refine L2.tU ?_|refine L2.vV ?_)
local macro_rules|`(tactic|array_get_dec)=>`(tactic|with_reducible first|refine L2.xZ ?_|refine L2.qu ?_|refine L2.vp ?_|refine L2.rQ ?_)
local macro_rules|`(tactic|array_get_dec)=>`(tactic|with_reducible first|refine L2.wJ ?_|refine L2.wX ?_|refine L2.vL ?_|refine L2.uW ?_)
local macro_rules|`(tactic|array_get_dec)=>`(tactic|with_reducible first|refine L2.yq ?_|refine L2.wC ?_|refine L2.v7 ?_|refine L2.wt ?_)
local macro_rules|`(tactic|array_get_dec)=>`(tactic|with_reducible first|refine L2.t9 ?_|refine L2.vg ?_|refine L2.u4 ?_|refine L2.xK ?_)
local macro_rules|`(tactic|array_get_dec)=>`(tactic|with_reducible first|refine L2.v9 ?_|refine L2.xQ ?_|refine L2.xp ?_|refine L2.vw ?_)
local macro_rules|`(tactic|array_get_dec)=>`(tactic|with_reducible first|refine L2.uY ?_|refine L2.v8 ?_|refine L2.uQ ?_|refine L2.si ?_)
local macro_rules|`(tactic|array_get_dec)=>`(tactic|with_reducible first|refine L2.vU ?_|refine L2.uC ?_|refine L2.xX ?_|refine L2.x6 ?_)
local macro_rules|`(tactic|array_get_dec)=>`(tactic|with_reducible first|refine L2.xc ?_|refine L2.wg ?_|refine L2.uo ?_|refine L2.uH ?_)
local macro_rules|`(tactic|array_get_dec)=>`(tactic|with_reducible first|refine L2.uK ?_|refine L2.vQ ?_|refine L2.yf ?_|refine L2.yy ?_)
local macro_rules|`(tactic|array_get_dec)=>`(tactic|with_reducible first|refine L2.uZ ?_|refine L2.vq ?_|refine L2.uU ?_|refine L2.uv ?_)
local macro_rules|`(tactic|array_get_dec)=>`(tactic|(with_reducible refine L2.ur λR hR=>?_))
local macro_rules|`(tactic|array_mem_dec)=>`(tactic|((with_reducible apply L2.xx);assumption))
local macro_rules|`(tactic|array_mem_dec)=>`(tactic|((with_reducible apply L2.tS);decreasing_trivial_pre_omega;rfl))
local macro_rules|`(tactic|array_mem_dec)=>`(tactic|((with_reducible apply L2.vN);exact rfl))
local macro_rules|`(tactic|array_mem_dec)=>`(tactic|((with_reducible apply L2.yt);sizeOf_list_dec))
local macro_rules|`(tactic|array_mem_dec)=>`(tactic|((with_reducible apply L2.wL);decreasing_trivial_pre_omega;bv_omega))
local macro_rules|`(tactic|array_mem_dec)=>`(tactic|((with_reducible apply L2.xf);decreasing_trivial_pre_omega;bv_omega))
local macro_rules|`(tactic|array_mem_dec)=>`(tactic|((with_reducible apply L2.vJ);decreasing_trivial_pre_omega))
local macro_rules|`(tactic|array_mem_dec)=>`(tactic|((with_reducible apply L2.uR);decreasing_trivial_pre_omega))
local macro_rules|`(tactic|array_mem_dec)=>`(tactic|((with_reducible apply L2.um);decreasing_trivial_pre_omega))
local macro_rules|`(tactic|array_mem_dec)=>`(tactic|((with_reducible apply L2.xr);decreasing_trivial_pre_omega))
local macro_rules|`(tactic|array_mem_dec)=>`(tactic|((with_reducible apply L2.w9);sizeOf_list_dec))
local macro_rules|`(tactic|array_mem_dec)=>`(tactic|((with_reducible apply L2.wK);sizeOf_list_dec))
local macro_rules|`(tactic|array_mem_dec)=>`(tactic|((with_reducible apply L2.qm);assumption;sizeOf_list_dec))
local macro_rules|`(tactic|array_mem_dec)=>`(tactic|((with_reducible apply L2.rS);decreasing_trivial_pre_omega))
local macro_rules|`(tactic|array_mem_dec)=>`(tactic|((with_reducible apply L2.rH);decreasing_trivial_pre_omega))
local macro_rules|`(tactic|array_mem_dec)=>`(tactic|with_reducible refine L2.xY ?_)
local macro_rules|`(tactic|array_mem_dec)=>`(tactic|with_reducible first|refine L2.vR ?_|refine L2.uG ?_|refine L2.rJ ?_|refine L2.uT ?_)
local macro_rules|`(tactic|array_mem_dec)=>`(tactic|with_reducible first|refine L2.xM ?_|refine L2.w4 ?_|refine L2.vx ?_|refine L2.u6 ?_)
local macro_rules|`(tactic|array_mem_dec)=>`(tactic|((with_reducible refine L2.nE ?_);(with_reducible refine L2.nE ?_);(with_reducible apply L2.m9);assumption;sizeOf_list_dec))
local macro_rules|`(tactic|array_mem_dec)=>`(tactic|((with_reducible refine L2.nE ?_);(with_reducible apply L2.m9);assumption;sizeOf_list_dec))
local macro_rules|`(tactic|array_mem_dec)=>`(tactic|((with_reducible apply L2.m9);assumption;sizeOf_list_dec))
local macro_rules|`(tactic|array_mem_dec)=>`(tactic|((with_reducible apply L2.vz);assumption;sizeOf_list_dec;sizeOf_list_dec;sizeOf_list_dec))
local macro_rules|`(tactic|array_mem_dec)=>`(tactic|((with_reducible apply L2.wW);assumption;sizeOf_list_dec;sizeOf_list_dec;sizeOf_list_dec))
local macro_rules|`(tactic|array_mem_dec)=>`(tactic|((with_reducible apply L2.wk);assumption))
local macro_rules|`(tactic|array_mem_dec)=>`(tactic|with_reducible refine L2.xk ?_)
local macro_rules|`(tactic|array_mem_dec)=>`(tactic|with_reducible first|refine L2.wB ?_|refine L2.tZ ?_)
local macro_rules|`(tactic|cbv)=>`(tactic|repeat' (first|array_get_dec|fail))
namespace L2
open PySem PySem.Spec PyProof.Rows
variable{N:List Yh}{u:TS}{D:iV}{σ:St}{H:Hp}
theorem iH{P:List Yh}{sc:y1}(a:sc.kind=.function:=by rfl)(b:sc.isCoroutine=false:=by rfl)(c:sc.isGenerator=false:=by rfl)(d:N.Nodup:=by decide +kernel)(e:N.take P.length=P:=by rfl)(f:∀x∈P,sc.names.lookup x=Ya .local∨sc.names.lookup x=Ya .cell:=by decide +kernel)(g:∀y∈sc.names,y.2≠.free:=by decide +kernel):ax N P sc:=⟨a,b,c,d,e,f,g⟩
def Tg(_:Yx)(_:YA)(_:Yh->Option Yd)(_:YC):Prop:=True
abbrev nI(K:Yc)(x:Yh)(f:Ye):Prop:=PySem.W.nsIn K Yz x=Ya (Ya (.ref f))
def qa:List Yh->(List Yd->Prop)->Prop
 |[],p=>p []
 |_::r,p=>∀v,qa r λa=>p (v::a)
theorem tN:∀{a:List Yh} {p:List Yd->Prop},qa a p->∀us:List Yd,us.length=a.length->p us
 |[],_,h,[],_=>h
 |_::_,_,h,v::us,e=>tN (h v) us (Nat.succ.inj e)
section
variable{P:Yx}{w:YA}{K:Yc}{mg:Yh->Option Yd}{base h:YC}{x Ze:Yh}{st:YZ}{f:Ye}{fd:Yu}{ps:List Yh}{k:Nat}{sp:Sp}
theorem b7.oj(F:b7 K x Ze st f fd)(S:ax N ps (aj st))
  (b:∀(a:Yd) (A:YX) (outer:List zg) (s:Yg) (H:Hp) (vs:List V) (Q:VK) (E:XK),cv k (A.deeper (zv Ze (aj st) s.heap.objs.size f a))->(A.deeper (zv Ze (aj st) s.heap.objs.size f a)).units+ 64<zL->(A.deeper (zv Ze (aj st) s.heap.objs.size f a)).units<zL->(A.deeper (zv Ze (aj st) s.heap.objs.size f a)).units+ 1<zL->sp vs H Q E->
   ∃t,pz (nG bN P w K mg base N Ze (aj st) f a A outer s H E).nox (c8 st) t/\t {nx:=λ_ e=>Q .non e,rt:=Q} (ia N vs) H)
  (len:∀vs H Q E,sp vs H Q E->vs.length=ps.length:=by intro _ _ _ _ h;(repeat obtain⟨_,h⟩:=h);subst_vars;rfl):az P w K mg base bN (k+ 1) f fd ps sp:=F.ok S len λc A o s H vs Q E d h=>b c A o s H vs Q E d d.units d.units0 (wO d) h
theorem b7.bq(F:b7 K x Ze st f fd)(h:∀(kV i k:Yd) (l:Option Ye) (j ct:Yd),qa ps λus=>Cr (yS x Ze (er st) (c8 st) (aj st) .none kV i k l j ct) ⟨us,[]⟩=pure (ps.zip us):=by(repeat refine λ_=>?_);rfl):Binds K fd ps []:=F.binds λa b c d e g us m=>tN (h a b c d e g) us m
theorem b7.cal(F:b7 K x Ze st f fd)(X:K.In h)(G:h.Ns Yz mg)(a:nI K x f)(q:∀(kV b d:Yd) (e:Option Ye) (c ct:Yd),qa ps λus=>Cr (yS x Ze (er st) (c8 st) (aj st) .none kV b d e c ct) ⟨us,[]⟩=pure (ps.zip us):=by(repeat refine λ_=>?_);rfl):el K mg x f fd ps:=⟨PySem.W.mg_of X G a,F.kp,F.bq q⟩
end
theorem yB{α:Type}:∀{us:List α},us.length=1->∃a,us=[a]|[a],_=>⟨a,rfl⟩
theorem yz{α:Type}:∀{us:List α},us.length=3->∃a b c,us=[a,b,c]|[a,b,c],_=>⟨a,b,c,rfl⟩
theorem ur{a b c:TS}(h:∀R:TS,R=gS c u->gS a (gS b R) D σ H):gS a (gS b (gS c u)) D σ H:=h _ rfl
theorem xx{R:TS}(e:R=u)(h:u D σ H):R D σ H:=e▸h
end L2
namespace K13
open PySem L2
set_option hygiene false in
local macro_rules|`(∅)=>`(az P w K mg base bN)
variable{mg:Yh->Option Yd}{f u u':Ye}{fd:Yu}{H H' B:Hp}{kd:Yh}{n c k i:Int}{p:Int×Int}{ps:List (Int×Int)}{xs:List V}{m:List (fP×V)}{Q:VK}
noncomputable def iI(i:Nat):YZ:=PySem.Challenge.pw_groupcall_k13_calls_shown.main.body.getD i (.Pass ⟨0,0,0,0⟩)
noncomputable abbrev cM:YZ:=dY (iI 15) 0
noncomputable abbrev cn:YZ:=dY (iI 16) 0
noncomputable abbrev gs:YZ:=iI 8
noncomputable abbrev iO:YZ:=iI 19
noncomputable abbrev fb:YZ:=iI 20
noncomputable abbrev e9:YZ:=dY (iI 15) 1
noncomputable abbrev du:YZ:=dY (iI 16) 1
noncomputable abbrev cD:YZ:=dY (iI 17) 0
noncomputable abbrev dj:YZ:=dY (iI 18) 0
noncomputable abbrev fg:YZ:=dY (iI 15) 7
section
variable{P:Yx}{w:YA}{K:Yc}{base:YC}
def mq(K:Yc)(v:V):Prop:=∃a,v=.ref a/\∀H,cu K H a [.str "own",.str "heard",.str "one"]
def cG(K:Yc):Sp:=λe H Q _=>∃(p:Ye) (n c k w b:V),e=[.ref p,n,c,k,w,b]/\∃C d,eh K C/\H p=Ya (.ins C d [])/\∀a,pY p H a->a p=Ya (.ins C d (m7 n c k w b))->Q .non a
def cR(K:Yc):Sp:=λe H Q _=>∃(p:Ye) (n c k w f:V),e=[.ref p,n,c,k,w,f]/\∃C d,eh K C/\H p=Ya (.ins C d [])/\∀a t,(∀b o,H b=Ya o->b≠p->a b=Ya o)->a t=Ya (.tup [])->a p=Ya (.ins C d (m7 n c k w (.ref t)))->Q .non a
abbrev jW:List Yh:=["self","number","caller","count","word","causes"]
theorem iK:ax ["self","number","caller","count","word","causes"] jW (aj cM):=iH
variable(eV:Tg P w mg base)
include eV in
theorem iP(F:b7 K "__init__" "Call.__init__" cM f fd):∅ 1 f fd jW (cG K):=by
 refine F.oj iK ?_;rintro _ _ _ _ _ _ _ _ _ _ _ _ ⟨p,n,c,k,w,l,rfl,h⟩;refine⟨_,(ah (ie (K:=K) rfl (pv 0) (pv 1) rfl)
   (ah (ie (K:=K) rfl (pv 0) (pv 2) rfl)
   (ah (ie (K:=K) rfl (pv 0) (pv 3) rfl)
   (ah (ie (K:=K) rfl (pv 0) (pv 4) rfl)
   (ai (ie (K:=K) rfl (pv 0) (pv 5) rfl)))))),?_⟩
 obtain⟨C,m,⟨cl,n1,n2,n3,n4,n5⟩,hp,q⟩:=h;cbv;intro o d r;cbv;intro s e t;cbv;intro u g v;cbv;intro x i y;cbv;intro z j a;rw[r6]at a;exact q _ (λb h=>(j b h).trans ((i b h).trans ((g b h).trans ((e b h).trans (d b h))))) a
theorem fR:ax ["self","number","caller","count","word","causes"] jW (aj cn):=iH
variable{bJ:Ye}{gw:Ye}{cE:Yu}(eO:∅ 1 bJ cE jW (cG K))(bK:Binds K cE jW [])(oi:eh K gw)(lJ:mg "Call"=Ya (.ref gw))(bW:rp K gw "__init__" bJ)
include eV eO bK oi lJ bW in
theorem fQ(F:b7 K "__init__" "OwnCall.__init__" cn f fd):∅ 2 f fd jW (cR K):=by
 refine F.oj fR ?_;rintro _ _ _ _ _ _ _ _ g _ _ _ ⟨p,n,c,k,w,r,rfl,h⟩;refine⟨_,(ai (oP (p6 rfl lJ bW eO bK g (aa (pv 0) (aa (pv 1) (aa (pv 2) (aa (pv 3) (aa (pv 4) (aa (fx af) af))))))))),?_⟩;obtain⟨C,i,T,hp,q⟩:=h;cbv;intro t s u a j;cbv;refine⟨p,n,c,k,w,_,rfl,C,i,T,a _ _ hp,λv d l=>?_⟩;cbv;exact q _ t (λb o e m=>d.at m (a _ _ e)) (d.of (a _ _ hp) j (by intro z;cases z)) l
def jx(K:Yc):Sp:=λa H Q _=>∃(i:Int),a=[.int i]/\Q (.bl true) H
theorem mD:ax ["value"] ["value"] (aj gs):=iH
variable(kZ:mg "bool"=Yb)(oS:mg "int"=Yb)(br:mg "isinstance"=Yb)
include eV kZ oS br in
theorem mM(F:b7 K "is_whole" "is_whole" gs f fd):∅ 1 f fd ["value"] (jx K):=by
 refine F.oj mD ?_;rintro _ _ _ _ _ _ _ _ _ _ _ _ ⟨i,rfl,h⟩;refine⟨_,(ai (aC (nk (bf (ek (K:=K) rfl) (by rfl) br gm (aa (pv 0) (aa (ij oS Bz) af))) (nB (uN (bf (ek (K:=K) rfl) (by rfl) br gm (aa (pv 0) (aa (ij kZ Bk) af)))))))),?_⟩;cbv;refine⟨_,_,_,true,rfl,.int _,(by kernel_rfl),?_⟩;cbv;refine⟨_,_,_,false,rfl,.int _,(by kernel_rfl),?_⟩;cbv;exact h
def ka(K:Yc):Sp:=λa H Q _=>∃(i:Int),a=[.int i]/\-(10^60)<i/\i<10^60/\Q (.bl true) H
theorem nU:ax ["word"] ["word"] (aj iO):=iH
variable{jX:Ye}{ji:Yu}(j1:∅ 1 jX ji ["value"] (jx K))(jV:el K mg "is_whole" jX ji ["value"])(tG:mg "abs"=Yb)
include eV j1 jV tG in
theorem nr(F:b7 K "is_word" "is_word" iO f fd):∅ 2 f fd ["word"] (ka K):=by
 refine F.oj nU ?_;rintro _ _ _ _ _ _ _ _ a _ _ _ ⟨i,rfl,h⟩;refine⟨_,(ai (aC (nk (bA j1 jV a (aa (pv 0) af)) (nB (jN qz (bf qr (by rfl) tG DG (aa (pv 0) af)) (aw lh ae ae) (aU _)))))),?_⟩;obtain⟨h1,h2,q⟩:=h;cbv;refine⟨_,rfl,?_⟩;cbv;refine⟨_,rfl,?_⟩;cbv;have e:decide ((if i<0 then-i else i)<10^(60:Int).toNat)=true:=by
  refine decide_eq_true ?_;show(if i<0 then-i else i)<10^60;split<;>omega
 rw[e];exact q
def wQ(a:Yh):Prop:=a="own"∨a="heard"∨a="one"
def yh(mg:Yh->Option Yd)(a:Yh)(C:Ye):Prop:=(a="own"/\mg "OwnCall"=Ya (.ref C))∨(a="heard"/\mg "HeardCall"=Ya (.ref C))∨(a="one"/\mg "OneCall"=Ya (.ref C))
def eu(K:Yc)(mg:Yh->Option Yd):Sp:=λf H Q _=>∃(n c k:Int) (a:Yh) (w:Int) (t:Ye),f=[.int n,.int c,.int k,.str a,.int w,.ref t]/\∃d,H t=Ya (.tup d)/\-(10^60)<w/\w<10^60/\wQ a/\
 (∀b p C g e,aJ H b->H p=Yb->yh mg a C->eh K C->b p=Ya (.ins C g (m7 (.int n) (.int c) (.int k) (.int w) (.ref e)))->b e=Ya (.tup (if a="own"then[]else d))->Q (.ref p) b)
abbrev pS:List Yh:=["number","caller","count","kind","word","causes"]
theorem lO:ax ["number","caller","count","kind","word","causes"] pS (aj fb):=iH
variable{di:Ye}{kx:Ye}{aB:Ye}{aR:Ye}{aQ:Ye}{cV:Yu}{jU:Yu}{mZ:V}{mX:Yd}(cq:∅ 2 bJ cE jW (cG K))(dF:∅ 2 di cV jW (cR K))(dy:Binds K cV jW [])(kE:∅ 3 kx jU ["word"] (ka K))(kF:el K mg "is_word" kx jU ["word"])(av:eh K aB)(aE:eh K aR)(aF:eh K aQ)(aG:mg "HeardCall"=Ya (.ref aB))(aW:mg "OneCall"=Ya (.ref aR))(aV:mg "OwnCall"=Ya (.ref aQ))(dS:Mk K aB bJ)(fO:Mk K aR bJ)(fM:Mk K aQ di)(dt:mg "KINDS"=Ya mX)(dC:RelV mZ mX)(dB:mq K mZ)
include eV cq bK dF dy kE kF av aE aF aG aW aV dS fO fM dt dC dB in
theorem k6(F:b7 K "make_call" "make_call" fb f fd):∅ 4 f fd pS (eu K mg):=by
 refine F.oj lO ?_;rintro _ _ _ _ H _ _ _ r d _ _ ⟨n,c,k,E,w,t,rfl,h⟩;refine⟨_,(ah (bL (aL (oA (K:=K) rfl d) (pv 3) (fL rfl dt dC) (by rfl)) (ai bE) aN)
   (ah (bL (iQ (ee K rfl (bA kE kF r (aa (pv 4) af)))) (ai bE) aN)
   (ah (bL (aL iq (pv 3) a9 (aU _)) (ai (aC (k8 fM dF r rfl aV dy .nil kS (aa (pv 0) (aa (pv 1) (aa (pv 2) (aa (pv 4) (aa (pv 5) af)))))))) aN)
   (ah (bL (aL iq (pv 3) a9 (aU _)) (ai (aC (k8 dS cq r rfl aG bK .nil kS (aa (pv 0) (aa (pv 1) (aa (pv 2) (aa (pv 4) (aa (pv 5) af)))))))) aN)
   (ai (aC (k8 fO cq r rfl aW bK .nil kS (aa (pv 0) (aa (pv 1) (aa (pv 2) (aa (pv 4) (aa (pv 5) af)))))))))))),?_⟩
 obtain⟨G,x,w1,z,g,q⟩:=h;obtain⟨I,rfl,A⟩:=dB;have u:=A H;cbv;refine oR g u ?_;cbv;refine⟨_,rfl,w1,z,?_⟩;cbv;rcases g with rfl|rfl|rfl
 ·rw[w6];cbv;intro p a y hp i j;refine⟨p,_,_,_,_,_,rfl,_,a,aF,j,λs B C l D=>⟨rfl,?_⟩⟩;refine q _ p _ a B (λb o e=>C _ _ (i _ _ e) (aq e hp)) hp (.inl ⟨rfl,aV⟩) aF D ?_;rw[if_pos rfl];exact l
 ·rw[xn];cbv;rw[xa];cbv;intro p a y hp i j;refine⟨p,_,_,_,_,_,rfl,_,a,av,j,λs v l=>⟨rfl,?_⟩⟩;have m:aJ H s:=λb o e=>v.at (aq e hp) (i _ _ e);refine q _ p _ a t m hp (.inr (.inl ⟨rfl,aG⟩)) av l ?_;rw[if_neg (by decide +kernel)];exact m _ _ x
 ·rw[wu];cbv;rw[vW];cbv;intro p a y hp i j;refine⟨p,_,_,_,_,_,rfl,_,a,aE,j,λs v l=>⟨rfl,?_⟩⟩;have m:aJ H s:=λb o e=>v.at (aq e hp) (i _ _ e);refine q _ p _ a t m hp (.inr (.inr ⟨rfl,aW⟩)) aE l ?_;rw[if_neg (by decide +kernel)];exact m _ _ x
def eJ(K:Yc):Sp:=λb H Q _=>∃(p:Ye),b=[.ref p]/\∃C d n c k w e,eh K C/\H p=Ya (.ins C d (m7 n c k w e))/\∀a t,aJ H a->H t=Yb->a t=Ya (.tup [n,c,k])->Q (.ref t) a
abbrev bX:List Yh:=["self"]
theorem lN:ax ["self"] bX (aj e9):=iH
include eV in
theorem lV(F:b7 K "name" "Call.name" e9 f fd):∅ 1 f fd bX (eJ K):=by
 refine F.oj lN ?_;rintro _ _ _ _ _ _ _ _ _ _ _ _ ⟨p,rfl,h⟩;refine⟨_,(ai (aC (fx (aa (bT (K:=K) rfl (pv 0) rfl) (aa (bT (K:=K) rfl (pv 0) rfl) (aa (bT (K:=K) rfl (pv 0) rfl) af)))))),?_⟩;obtain⟨C,j,n,c,k,l,m,a,hp,b⟩:=h;obtain⟨cl,n1,n2,n3,n4,n5⟩:=id a;cbv;intro t d e g i;exact b d t g e i
def cN(K:Yc):Sp:=λa H Q _=>∃(p:Ye),a=[.ref p]/\Q (.str "own") H
def cC(K:Yc):Sp:=λa H Q _=>∃(p:Ye),a=[.ref p]/\Q (.str "heard") H
def cP(K:Yc):Sp:=λa H Q _=>∃(p:Ye),a=[.ref p]/\Q (.str "one") H
theorem jG:ax ["self"] bX (aj du):=iH
include eV in
theorem jz(F:b7 K "kind" "OwnCall.kind" du f fd):∅ 1 f fd bX (cN K):=by
 refine F.oj jG ?_;rintro _ _ _ _ _ _ _ _ _ _ _ _ ⟨p,rfl,h⟩;refine⟨_,(ai (aC a9)),?_⟩;cbv;exact h
theorem gY:ax ["self"] bX (aj cD):=iH
include eV in
theorem gQ(F:b7 K "kind" "HeardCall.kind" cD f fd):∅ 1 f fd bX (cC K):=by
 refine F.oj gY ?_;rintro _ _ _ _ _ _ _ _ _ _ _ _ ⟨p,rfl,h⟩;refine⟨_,(ai (aC a9)),?_⟩;cbv;exact h
theorem jD:ax ["self"] bX (aj dj):=iH
include eV in
theorem jA(F:b7 K "kind" "OneCall.kind" dj f fd):∅ 1 f fd bX (cP K):=by
 refine F.oj jD ?_;rintro _ _ _ _ _ _ _ _ _ _ _ _ ⟨p,rfl,h⟩;refine⟨_,(ai (aC a9)),?_⟩;cbv;exact h
structure CO(K:Yc)(mg:Yh->Option Yd)(H:Hp)(p:Ye)(kd:Yh)(n c k w:Int)(t:Ye):Prop where
 ob:∃C dx,yh mg kd C/\eh K C/\H p=Ya (.ins C dx (m7 (.int n) (.int c) (.int k) (.int w) (.ref t)))
theorem CO.same{K:Yc}{p:Ye}{w:Int}{t:Ye}(h:CO K mg H p kd n c k w t)(s:aJ H H'):CO K mg H' p kd n c k w t:=by
 obtain⟨C,a,b,d,e⟩:=h.ob;exact⟨C,a,b,d,s _ _ e⟩
def gJ(K:Yc)(mg:Yh->Option Yd):Sp:=λd H Q _=>∃(p:Ye),d=[.ref p]/\∃b n c k w t,CO K mg H p b n c k w t/\∀a u,aJ H a->H u=Yb->a u=Ya (.tup [.int n,.int c,.int k,.str b,.int w,.ref t])->Q (.ref u) a
theorem lX:ax ["self"] bX (aj fg):=iH
variable{dh:Ye}{cF:Ye}{dA:Ye}{cQ:Yu}{cy:Yu}{cO:Yu}(cz:∅ 1 dh cQ bX (cN K))(bF:Binds K cQ bX [])(bY:∅ 1 cF cy bX (cC K))(bh:Binds K cy bX [])(cA:∅ 1 dA cO bX (cP K))(bB:Binds K cO bX [])(ay:cH K aB "kind" cF)(aH:cH K aR "kind" dA)(aI:cH K aQ "kind" dh)
include eV cz bF bY bh cA bB av aE aF aG aW aV ay aH aI in
theorem k5(F:b7 K "told" "Call.told" fg f fd):∅ 2 f fd bX (gJ K mg):=by
 refine F.oj lX ?_;rintro _ _ _ _ _ _ _ _ j _ _ _ ⟨p,rfl,h⟩;refine⟨_,(ai (aC (fx (aa (bT (K:=K) rfl (pv 0) rfl) (aa (bT (K:=K) rfl (pv 0) rfl) (aa (bT (K:=K) rfl (pv 0) rfl) (aa (bV (ed.cons aF.cl aI cz bF (ed.cons av.cl ay bY bh (ed.cons aE.cl aH cA bB ed.nil))) (pv 0) j) (aa (bT (K:=K) rfl (pv 0) rfl) (aa (bT (K:=K) rfl (pv 0) rfl) af))))))))),?_⟩;obtain⟨m,n,c,k,o,t,⟨C,q,hk,l,hp⟩,i⟩:=h;obtain⟨cl,n1,n2,n3,n4,n5⟩:=id l;rcases hk with⟨rfl,e⟩|⟨rfl,e⟩|⟨rfl,e⟩
 ·rw[aV]at e;cases e;cbv;refine⟨p,rfl,?_⟩;cbv;intro u b a d g;exact i b u d a g
 ·rw[aG]at e;cases e;cbv;refine⟨p,rfl,?_⟩;cbv;intro u b a d g;exact i b u d a g
 ·rw[aW]at e;cases e;cbv;refine⟨p,rfl,?_⟩;cbv;intro u b a d g;exact i b u d a g
noncomputable abbrev dv:YZ:=iI 14
noncomputable abbrev eB:YZ:=dY (iI 15) 8
structure xE(ps:List (Int×Int)):Prop where
 ok:∀p∈ps,(0<=p.1/\p.1<=62)/\1<=p.2/\p.2<10^60
 up:(ps.map (·.1)).Pairwise (·<·)
 len:ps.length<=6
noncomputable def cT(p:Int×Int):Yh:=nT p.1++":"++nT p.2
noncomputable def pZ(n c k:Int):Yh:=zr "." [nT n,nT c,nT k]
noncomputable def mi(n c k:Int)(a:Yh)(w:Int)(b:List (Int×Int)):List Yh:=[pZ n c k,a,nT w]++b.map cT
noncomputable def gC(n c k:Int)(a:Yh)(w:Int)(b:List (Int×Int)):Yh:=zr " " (mi n c k a w b)
structure Pt(n c k:Int)(kd:Yh)(w:Int)(ps:List (Int×Int)):Prop where
 n0:0<=n
 n1:n<10^60
 c0:0<=c
 c1:c<=62
 k0:1<=k
 k1:k<10^60
 hk:wQ kd
 w0:-(10^60)<w
 w1:w<10^60
 hp:xE ps
 ow:kd="own"->ps=[]
theorem iX{B:Nat}{a:List Yh}(h:∀y∈a,y.length<=B):(a.map (·.length)).sum<=B*a.length:=by
 induction a with
 |nil=>exact Y5 _
 |cons y a ih=>
  have h1:=h y (Yv ..);have h2:=ih λz b=>h z (Yw _ b);rw[ar,List.sum_cons,YD,Nat.mul_succ];omega
theorem bG(a b:Yh):(a++b).length=a.length+ b.length:=Str.length_append a b
theorem oq(h:(0<=p.1/\p.1<=62)/\1<=p.2/\p.2<10^60):(cT p).length<=200:=by
 have a:=dq (n:=p.1) h.1.1 (by omega);have b:=dq (n:=p.2) (by omega) h.2.2;have e:(":":Yh).length=1:=by decide +kernel
 unfold cT;rw[bG,bG,e];omega
theorem lE(h1:0<=n/\n<10^60)(h2:0<=c/\c<10^60)(h3:0<=k/\k<10^60):∀y∈[nT n,nT c,nT k],y.length<=60:=by
 intro y a;simp only[YF,rl,or_false]at a;rcases a with rfl|rfl|rfl
 ·exact dq h1.1 h1.2
 ·exact dq h2.1 h2.2
 ·exact dq h3.1 h3.2
theorem oK(h1:0<=n/\n<10^60)(h2:0<=c/\c<10^60)(h3:0<=k/\k<10^60):(pZ n c k).length<=200:=by
 have a:=iX (lE h1 h2 h3);have b:=StrLaws.join_length_le "." [nT n,nT c,nT k];have e:(".":Yh).length=1:=by decide +kernel
 rw[e]at b;unfold pZ;simp only[YD,ir]at a b;omega
theorem qT(h:wQ kd):kd.length<=200:=by
 rcases h with rfl|rfl|rfl<;>decide +kernel
theorem Pt.lens{w:Int}(h:Pt n c k kd w ps):(∀y∈mi n c k kd w ps,y.length<=200)/\(mi n c k kd w ps).length<=9:=by
 constructor
 ·intro y a;rcases yL.mp a with a|a
  ·simp only[YF,rl,or_false]at a;rcases a with rfl|rfl|rfl
   ·exact oK ⟨h.n0,h.n1⟩ ⟨h.c0,by have:=h.c1;omega⟩ ⟨by have:=h.k0;omega,h.k1⟩
   ·exact qT h.hk
   ·exact YJ (ki h.w0 h.w1) (by decide)
  ·obtain⟨p,hp,rfl⟩:=yU.mp a;exact oq (h.hp.ok p hp)
 ·have:=h.hp.len;show([pZ n c k,kd,nT w]++ps.map cT).length<=9;rw[Y8,Yk];simp only[YD,ir];omega
theorem Pt.sum{w:Int}(h:Pt n c k kd w ps):((mi n c k kd w ps).map (·.length)).sum+ (mi n c k kd w ps).length<=1048576:=by
 obtain⟨h1,h2⟩:=h.lens;have:=iX h1;have:200*(mi n c k kd w ps).length<=200*9:=BS _ h2;omega
theorem Pt.long{w:Int}(h:Pt n c k kd w ps):(gC n c k kd w ps).length<=2000:=by
 obtain⟨h1,h2⟩:=h.lens;have a:=iX h1;have b:=StrLaws.join_length_le " " (mi n c k kd w ps);have e:(" ":Yh).length=1:=by decide +kernel
 rw[e]at b;have:200*(mi n c k kd w ps).length<=200*9:=BS _ h2;unfold gC;omega
theorem lg(h1:-(10^60)<n)(h2:n<10^60):n.natAbs.log2<1920:=vt h1 h2
theorem a8{n:Nat}(h:n<=3000):n<=Yp:=YJ h (by decide +kernel)
def eR(K:Yc):Sp:=λd H Q _=>∃(t:Ye) (c:List V) (a:List (Int×Int)),d=[.ref t]/\H t=Ya (.tup c)/\iT H c a/\xE a/\∀b l,aJ H b->H l=Yb->b l=Ya (.lst ((a.map cT).map V.str))->Q (.ref l) b
abbrev qL:List Yh:=["causes"]
theorem jE:ax ["causes"] qL (aj dv):=iH
include eV in
theorem jH(F:b7 K "shown_causes" "shown_causes" dv f fd):∅ 1 f fd qL (eR K):=by
 refine F.oj jE ?_;rintro _ _ _ _ H _ _ _ _ _ _ _ ⟨t,s,u,rfl,h⟩;refine⟨_,(ai (aC (iv ["hand","count"] [Yb,Yb] rfl rfl (by kernel_rfl) (lu (K:=K) rfl (pv 0)) (λ_ _ _ _ _ nd=>oE (K:=K) (n:=2) rfl rfl (gH (cx (i:=0) nd rfl (Or.inl rfl)) (gH (cx (i:=1) nd rfl (Or.inl rfl)) oX))) (λ_ _ _ _ _=>fH) (λ_ _ _ _ _=>(uq (pv 0) (pv 1)))))),?_⟩;obtain⟨r,hp,ok,q⟩:=h;have st:=cu.of (K:=K) r;have v:=hp.len;cbv;intro D k;refine ip (K:=K) (a:=t) (xs:=s) (λi σ B=>∃l m,σ=[l,m]/\aJ H B/\B D=Ya (.lst (((u.take i).map cT).map V.str))) ⟨Yb,Yb,rfl,aP k,ao⟩ ?_ ?_ ?_
 ·rintro i σ B _ ⟨_,_,_,z,_⟩;exact cu.of (z _ _ r)
 ·rintro i x σ B y ⟨l,m,rfl,g,j⟩;obtain⟨p,d,b,rfl,A⟩:=hp.get y;have o:=ok.ok p (Y2 d);have:=ok.len;have E:=(YW.mp d).1;have C:cu K B b [.int p.1,.int p.2]:=cu.of (g _ _ A);cbv;have a:=dq (n:=p.1) o.1.1 (by omega);have c:=oq o;refine⟨lg (by omega) (by omega),?_,?_⟩
  ·rw[bG];have e:(":":Yh).length=1:=by decide +kernel
   rw[e];exact a8 (YJ (Nat.add_le_add_right a 1) (by decide))
  cbv;refine⟨lg (by omega) (by omega),a8 (YJ c (by decide)),?_⟩;refine⟨_,j,aX (by rw[Yk,Yk,Y9];omega),_,_,rfl,λb o e=>?_,?_⟩
  ·rw[aA (aq e k)];exact g b o e
  ·rw[ao,dr d,YT,YT];rfl
 rintro σ B ⟨l,m,rfl,g,j⟩;rw[v,yV]at j;exact q _ D g k j
def fZ(K:Yc)(mg:Yh->Option Yd):Sp:=λf H Q _=>∃(p:Ye),f=[.ref p]/\∃a n c k w t d b,CO K mg H p a n c k w t/\H t=Ya (.tup d)/\iT H d b/\Pt n c k a w b/\∀e,aJ H e->Q (.str (gC n c k a w b)) e
theorem aD(s:aJ H H')(r:iT H xs ps):iT H' xs ps:=r.mono λa xs e=>s a _ e
theorem w5:(⟨#[46]⟩:Yh)=".":=by decide +kernel
theorem vK:(⟨#[32]⟩:Yh)=" ":=by decide +kernel
theorem wc:(⟨#[58]⟩:Yh)=":":=by decide +kernel
theorem fT:ax ["self","name"] bX (aj eB):=iH
variable{cK:Ye}{fB:Ye}{eH:Yu}{eU:Yu}(d5:∅ 1 cK eH bX (eJ K))(aZ:Binds K eH bX [])(fi:∅ 1 fB eU qL (eR K))(fA:el K mg "shown_causes" fB eU qL)(d3:mg "str"=Yb)(aM:cH K aB "name" cK)(aS:cH K aR "name" cK)(aT:cH K aQ "name" cK)
include eV d5 aZ cz bF bY bh cA bB fi fA d3 av aE aF aG aW aV ay aM aH aS aI aT in
theorem kq(F:b7 K "shown" "Call.shown" eB f fd):∅ 2 f fd bX (fZ K mg):=by
 refine F.oj fT ?_;rintro _ _ _ _ H _ _ _ hr _ _ _ ⟨p,rfl,h⟩;refine⟨_,(ah (bg (i:=1) fT.nd rfl (Or.inl rfl) (jd oo BA BB (oG (K:=K) rfl) a9 (aa (iv ["part"] [Yb] rfl rfl (by kernel_rfl) (lu (K:=K) rfl (bV (ed.cons aF.cl aT d5 aZ (ed.cons av.cl aM d5 aZ (ed.cons aE.cl aS d5 aZ ed.nil))) (pv 0) hr)) (λ_ _ _ _ _ nd=>cx (i:=0) nd rfl (Or.inl rfl)) (λ_ _ _ _ _=>fH) (λ_ _ _ _ _=>(bp bw (by rfl) d3 YU (aa (pv 0) af)))) af)))
   (ai (aC (jd oo BA BB (oG (K:=K) rfl) a9 (aa (aw va (nQ (aa (pv 1) (aa (bV (ed.cons aF.cl aI cz bF (ed.cons av.cl ay bY bh (ed.cons aE.cl aH cA bB ed.nil))) (pv 0) hr) (aa (bp bw (by rfl) d3 YU (aa (bT (K:=K) rfl (pv 0) rfl) af)) af)))) (bA fi fA hr (aa (bT (K:=K) rfl (pv 0) rfl) af))) af))))),?_⟩
 obtain⟨kd,n,c,k,w',t,xs,G,⟨C,dx,hk,hT,hp⟩,ht,hx,pt,q⟩:=h;obtain⟨cl,n1,n2,n3,n4,n5⟩:=id hT;have j:∀z∈[n,c,k],0<=z/\z<10^60:=by
  have h1:=pt.n0;have h2:=pt.n1;have h3:=pt.c0;have h4:=pt.c1;have h5:=pt.k0;have h6:=pt.k1;intro z l;simp only[YF,rl,or_false]at l;rcases l with rfl|rfl|rfl<;>constructor<;>omega
 rcases hk with⟨rfl,e⟩|⟨rfl,e⟩|⟨rfl,e⟩
 ·rw[aV]at e;cases e;cbv;refine⟨p,rfl,_,dx,_,_,_,_,_,hT,hp,λI J u L M=>?_⟩;cbv;intro D y;refine ip (K:=K) (a:=J) (xs:=[n,c,k].map V.int) (λi σ B=>∃v,σ=[v]/\aJ I B/\B D=Ya (.lst ((([n,c,k].take i).map nT).map V.str))) ⟨Yb,rfl,aP y,ao⟩ ?_ ?_ ?_
  ·rintro i σ B _ ⟨_,_,z,_⟩;exact cu.of (z _ _ M)
  ·rintro i x σ B d ⟨N,rfl,g,m⟩;rw[YG]at d;obtain⟨z,l,rfl⟩:=oh.mp d;have o:=j z (Y2 l);cbv;refine⟨_,rfl,lg (by omega) o.2,?_⟩;refine⟨_,m,aX (by rw[Yk,Yk,Y9];show min i 3<=1000;omega),_,rfl,λb o e=>?_,?_⟩
   ·rw[aA (aq e y)];exact g b o e
   ·rw[ao,dr l,YT,YT];rfl
  rintro σ B ⟨N,rfl,g,m⟩;cbv;refine⟨_,D,[nT n,nT c,nT k],rfl,rfl,bP.of m,by decide +kernel,?_,?_⟩
  ·have:=iX (lE (j n (by simp)) (j c (by simp)) (j k (by simp)));simp only[YD,ir]at this⊢;omega
  have r:=g _ _ (u _ _ hp);cbv;refine⟨p,rfl,?_⟩;cbv;refine⟨_,rfl,lg pt.w0 pt.w1,?_⟩;cbv;intro l1 O Q A R;have S:=A _ _ r;cbv;have s:aJ H O:=u.trans (g.trans A);refine⟨t,xs,G,rfl,s _ _ ht,aD s hx,pt.hp,λH3 l2 E T U=>?_⟩;refine p0 (E _ _ R) U ?_ λW H4 X Y Z=>?_
  ·have:=pt.hp.len;rw[Yk,Yk];simp only[YD,ir];omega
  cbv;refine⟨_,W,mi n c k "own" w' G,rfl,rfl,bP.of (Z.trans (by rfl)),by decide +kernel,pt.sum,q _ (s.trans (E.trans Y))⟩
 ·rw[aG]at e;cases e;cbv;refine⟨p,rfl,_,dx,_,_,_,_,_,hT,hp,λI J u L M=>?_⟩;cbv;intro D y;refine ip (K:=K) (a:=J) (xs:=[n,c,k].map V.int) (λi σ B=>∃v,σ=[v]/\aJ I B/\B D=Ya (.lst ((([n,c,k].take i).map nT).map V.str))) ⟨Yb,rfl,aP y,ao⟩ ?_ ?_ ?_
  ·rintro i σ B _ ⟨_,_,z,_⟩;exact cu.of (z _ _ M)
  ·rintro i x σ B d ⟨N,rfl,g,m⟩;rw[YG]at d;obtain⟨z,l,rfl⟩:=oh.mp d;have o:=j z (Y2 l);cbv;refine⟨_,rfl,lg (by omega) o.2,?_⟩;refine⟨_,m,aX (by rw[Yk,Yk,Y9];show min i 3<=1000;omega),_,rfl,λb o e=>?_,?_⟩
   ·rw[aA (aq e y)];exact g b o e
   ·rw[ao,dr l,YT,YT];rfl
  rintro σ B ⟨N,rfl,g,m⟩;cbv;refine⟨_,D,[nT n,nT c,nT k],rfl,rfl,bP.of m,by decide +kernel,?_,?_⟩
  ·have:=iX (lE (j n (by simp)) (j c (by simp)) (j k (by simp)));simp only[YD,ir]at this⊢;omega
  have r:=g _ _ (u _ _ hp);cbv;refine⟨p,rfl,?_⟩;cbv;refine⟨_,rfl,lg pt.w0 pt.w1,?_⟩;cbv;intro l1 O Q A R;have S:=A _ _ r;cbv;have s:aJ H O:=u.trans (g.trans A);refine⟨t,xs,G,rfl,s _ _ ht,aD s hx,pt.hp,λH3 l2 E T U=>?_⟩;refine p0 (E _ _ R) U ?_ λW H4 X Y Z=>?_
  ·have:=pt.hp.len;rw[Yk,Yk];simp only[YD,ir];omega
  cbv;refine⟨_,W,mi n c k "heard" w' G,rfl,rfl,bP.of (Z.trans (by rfl)),by decide +kernel,pt.sum,q _ (s.trans (E.trans Y))⟩
 ·rw[aW]at e;cases e;cbv;refine⟨p,rfl,_,dx,_,_,_,_,_,hT,hp,λI J u L M=>?_⟩;cbv;intro D y;refine ip (K:=K) (a:=J) (xs:=[n,c,k].map V.int) (λi σ B=>∃v,σ=[v]/\aJ I B/\B D=Ya (.lst ((([n,c,k].take i).map nT).map V.str))) ⟨Yb,rfl,aP y,ao⟩ ?_ ?_ ?_
  ·rintro i σ B _ ⟨_,_,z,_⟩;exact cu.of (z _ _ M)
  ·rintro i x σ B d ⟨N,rfl,g,m⟩;rw[YG]at d;obtain⟨z,l,rfl⟩:=oh.mp d;have o:=j z (Y2 l);cbv;refine⟨_,rfl,lg (by omega) o.2,?_⟩;refine⟨_,m,aX (by rw[Yk,Yk,Y9];show min i 3<=1000;omega),_,rfl,λb o e=>?_,?_⟩
   ·rw[aA (aq e y)];exact g b o e
   ·rw[ao,dr l,YT,YT];rfl
  rintro σ B ⟨N,rfl,g,m⟩;cbv;refine⟨_,D,[nT n,nT c,nT k],rfl,rfl,bP.of m,by decide +kernel,?_,?_⟩
  ·have:=iX (lE (j n (by simp)) (j c (by simp)) (j k (by simp)));simp only[YD,ir]at this⊢;omega
  have r:=g _ _ (u _ _ hp);cbv;refine⟨p,rfl,?_⟩;cbv;refine⟨_,rfl,lg pt.w0 pt.w1,?_⟩;cbv;intro l1 O Q A R;have S:=A _ _ r;cbv;have s:aJ H O:=u.trans (g.trans A);refine⟨t,xs,G,rfl,s _ _ ht,aD s hx,pt.hp,λH3 l2 E T U=>?_⟩;refine p0 (E _ _ R) U ?_ λW H4 X Y Z=>?_
  ·have:=pt.hp.len;rw[Yk,Yk];simp only[YD,ir];omega
  cbv;refine⟨_,W,mi n c k "one" w' G,rfl,rfl,bP.of (Z.trans (by rfl)),by decide +kernel,pt.sum,q _ (s.trans (E.trans Y))⟩
noncomputable abbrev nY:YZ:=iI 9
noncomputable abbrev d8:YZ:=iI 21
noncomputable abbrev fy:YZ:=iI 22
noncomputable abbrev eA:YZ:=iI 23
def kI(K:Yc)(v:V):Prop:=v=.str "0123456789"
def eS(K:Yc)(v:V):Prop:=v=.int 60
def iB(K:Yc)(v:V):Prop:=v=.int 62
theorem p8{K:Yc}(ns:List Int):pM K H (ns.map V.int) (ns.map vc):=by
 induction ns with
 |nil=>exact .nil
 |cons n ns ih=>exact .cons (.int _) ih
theorem vf(ns:List Int):zc (ns.map vc)=true:=by
 induction ns with
 |nil=>rfl
 |cons n ns ih=>
  have e:zc ((n::ns).map vc)=((vc n).canLay0&&zc (ns.map vc)):=rfl;rw[e,ih];rfl
theorem ui(ns:List Int):jJ (ns.map vc)<=0:=by
 induction ns with
 |nil=>exact Ym _
 |cons n ns ih=>
  have e:jJ ((n::ns).map vc)=max (vc n).depth (jJ (ns.map vc)):=rfl;rw[e];exact Nat.max_le.mpr ⟨Ym _,ih⟩
def oQ(K:Yc):Sp:=λc H Q _=>∃(a:Ye) (ns:List Int),c=[.ref a]/\H a=Ya (.lst (ns.map V.int))/\ns.Pairwise (·<·)/\ns.length<=60/\∀b,aJ H b->Q (.bl true) b
theorem sf:ax ["hands"] ["hands"] (aj nY):=iH
variable(tK:mg "set"=Yb)(mv:mg "sorted"=Yb)
include eV tK mv in
theorem rV(F:b7 K "rise" "rise" nY f fd):∅ 1 f fd ["hands"] (oQ K):=by
 refine F.oj sf ?_;rintro _ _ _ _ _ _ _ _ _ c _ _ ⟨a,ns,rfl,h⟩;refine⟨_,(ai (aC (jN (uj (K:=K) rfl c) (pv 0) (bf (lP rfl) (by rfl) mv Dy (aa (bp (o8 rfl) (by rfl) tK (show yR "set"=Ya (.type "set") by decide +kernel) (aa (pv 0) af)) af)) (aU _)))),?_⟩;obtain⟨i,up,t,q⟩:=h;have nd:ns.Nodup:=up.imp λh=>Int.ne_of_lt h;cbv;refine⟨a,ns,rfl,bP.of i,by omega,λj g n n1 mem=>?_⟩;have k:g.Perm ns:=(List.perm_ext_iff_of_nodup n1 nd).mpr mem;refine⟨j,g,rfl,ao,n1,by rw[k.length_eq];omega,λl S p r s=>?_⟩;have e:S=ns:=List.Perm.eq_of_pairwise (le:=λa b:Int=>a<=b) (λa b _ _ x y=>Int.le_antisymm x y) s (up.imp λh=>Dt h) (r.trans k);subst e;have m:=(aP (o:=p9 P w j g) n).trans (aP (o:=.lst (S.map V.int)) p);refine pq (d:=.list (S.map vc)) (.inr ⟨_,_,_,rfl,rfl,bP.of (m _ _ i),p8 _⟩) (.inr ⟨_,_,_,rfl,rfl,bP.of ao,p8 _⟩) (by rw[DM];exact vf _) ?_ ?_
 ·have e:(PyData.list (S.map vc)).depth=jJ (S.map vc)+ 1:=rfl;have:=ui S;omega
 ·exact q _ m
theorem vA(h0:0<=n):(nT n).cps.all (·<128)=true:=by
 rw[←Array.all_toList,i8 h0,List.all_eq_true];intro c a;have:=(fk _ c a).2;exact decide_eq_true (by omega)
theorem vd{c:Nat}(h1:48<=c)(h2:c<=57):(!(yY ("0123456789":Yh) ⟨#[c]⟩ 0 ("0123456789":Yh).length 1).isEmpty)=true:=by
 rcases(show c=48∨c=49∨c=50∨c=51∨c=52∨c=53∨c=54∨c=55∨c=56∨c=57 by omega)with w|w|w|w|w|w|w|w|w|w<;>subst w<;>decide +kernel
def dE(K:Yc):Sp:=λb H Q _=>∃(n:Int),b=[.str (nT n)]/\0<=n/\n<10^60/\∀a,aJ H a->Q (.int n) a
abbrev bQ:List Yh:=["text"]
theorem fz:ax ["text","plain"] bQ (aj d8):=iH
variable{kA:V}{kK:Yd}{eT:V}{eQ:Yd}(tE:mg "all"=Yb)(ei:mg "len"=Yb)(fK:mg "DIGITS"=Ya kK)(fN:RelV kA kK)(fG:kI K kA)(cc:mg "MOST_FIGURES"=Ya eQ)(cm:RelV eT eQ)(cj:eS K eT)
include eV tE oS ei fK fN fG cc cm cj in
theorem j0(F:b7 K "read_number" "read_number" d8 f fd):∅ 1 f fd bQ (dE K):=by
 refine F.oj fz ?_;rintro _ _ _ _ H _ Q _ _ _ _ _ ⟨n,rfl,h⟩;refine⟨_,(ah (bg (i:=1) fz.nd rfl (Or.inl rfl) (nk (jN jh (pv 0) a9 (aU _)) (nB (bf (qX rfl) (by rfl) tE DH (aa (iv ["sign"] [Yb] rfl rfl (by kernel_rfl) (uA (pv 0)) (λ_ _ _ _ _ nd=>cx (i:=0) nd rfl (Or.inl rfl)) (λ_ _ _ _ _=>fH) (λ_ _ _ _ _=>(jN pL (pv 0) (fL rfl fK fN) (by rfl)))) af)))))
   (ah (bL (PW.pt (j7 (iQ (qM (K:=K) rfl (pv 1))) (j7 (aL qv (bf lQ (by rfl) ei yQ (aa (pv 0) af)) (fL rfl cc cm) (aU _)) (lF (PW.pt (qf (aL iq (a7 u5 (pv 0) ae (λ_ _=>rfl)) a9 (aU _)) (o2 (aL jh (pv 0) a9 (aU _))))))))) (ai bE) aN)
   (ai (aC (bp o5 (by rfl) oS Bz (aa (pv 0) af)))))),?_⟩
 obtain⟨h0,h1,q⟩:=h;obtain rfl:=fG;obtain rfl:=cj;have u:=dq h0 h1;have g:=i8 h0;have ne:nT n≠"":=λe=>by
  rw[e]at g;exact oH _ g.symm
 refine ke ?_;cbv;rw[decide_eq_false ne];refine cI (λ_=>?_) λh=>absurd rfl h;cbv;refine⟨_,rfl,vA h0,λD r=>?_⟩;refine qH (z:=nT n) (λi σ B=>∃v bs,σ=[v]/\aJ H B/\B D=Ya (.lst (bs.map V.bl))/\bs.length=i/\bs.all (λb=>b)=true) ⟨Yb,[],rfl,aP r,ao,rfl,rfl⟩ ?_ ?_
 ·rintro i c σ B k ⟨y,bs,rfl,l,m,s,p⟩;have a:(nT n).cps.toList[i]?=Ya c:=by rw[tB];exact k
  have A:=(YW.mp a).1;rw[g]at a;have o:=fk _ c (Y2 a);rw[←k9]at A;cbv;refine⟨_,_,rfl,rfl,?_⟩;rw[vd o.1 o.2];refine⟨_,m,aX (by rw[Yk];omega),_,bs++[true],rfl,λb o e=>?_,?_,?_,?_⟩
  ·rw[aA (aq e r)];exact l b o e
  ·rw[ao,YT];rfl
  ·rw[Y8,s];rfl
  ·rw[List.all_append,p];rfl
 rintro σ B ⟨y,bs,rfl,l,m,s,p⟩;cbv;refine⟨D,bs,rfl,bP.of m,?_⟩;rw[p];cbv;refine⟨_,rfl,a8 (by omega),?_⟩;cbv;refine cI (λh=>?_) λ_=>?_
 ·have h:=of_decide_eq_true h;omega
 obtain⟨c0,J,t⟩:=Ay (oH n.toNat);have d:∀(σ:St),σ[0]?=Ya (Ya (.str (nT n)))->sI (xC (λC H Q=>∃(z:Yh) (n:Int),C=[V.str z]/\Dv z=Ya n/\z.length<=640/\Q (V.int n) H) (qU (sE 0) sG)) {nx:=λx E=>Q V.non E,rt:=Q} σ B:=λσ e=>⟨_,e,_,n,rfl,rF h0 h1,by omega,q _ l⟩;cbv;refine⟨_,_,c0,rfl,rfl,a8 (by omega),?_,?_⟩
 ·rw[g,t];exact ak (j:=0) rfl
 cbv;refine cI (λh=>?_) λ_=>d _ rfl;have h:(⟨#[c0]⟩:Yh)="0":=of_decide_eq_true h;have G:c0=48:=by
  have e:(⟨#[c0]⟩:Yh)=⟨#[48]⟩:=h.trans (by decide +kernel);injection e with e;exact(YR (Array.mk.inj e)).1
 subst G;have n0:=sJ t;have I:n=0:=by omega
 subst I;cbv;rw[decide_eq_true (show nT 0="0" by decide +kernel)];refine cI (λh=>absurd h (by decide)) λ_=>d _ rfl
def gK(K:Yc):Sp:=λb H Q _=>∃(n:Int),b=[.str (nT n)]/\0<=n/\n<=62/\∀a,aJ H a->Q (.int n) a
theorem hU:ax ["text","hand"] bQ (aj fy):=iH
variable{d9:Ye}{dD:Yu}{gO:V}{iC:Yd}(bz:∅ 1 d9 dD bQ (dE K))(aY:el K mg "read_number" d9 dD bQ)(c9:mg "LAST_HAND"=Ya iC)(cZ:RelV gO iC)(cY:iB K gO)
include eV bz aY c9 cZ cY in
theorem lY(F:b7 K "read_hand" "read_hand" fy f fd):∅ 2 f fd bQ (gK K):=by
 refine F.oj hU ?_;rintro _ _ _ _ _ _ _ _ a _ _ _ ⟨n,rfl,h⟩;refine⟨_,(ah (bg (i:=1) hU.nd rfl (Or.inl rfl) (bA bz aY a (aa (pv 0) af)))
   (ah (bL (aL qv (pv 1) (fL rfl c9 cZ) (aU _)) (ai bE) aN)
   (ai (aC (pv 1))))),?_⟩
 obtain⟨h0,h1,q⟩:=h;obtain rfl:=cY;cbv;refine⟨n,rfl,h0,by omega,λc b=>?_⟩;cbv;refine cI (λh=>?_) λ_=>?_
 ·have h:=of_decide_eq_true h;omega
 cbv;exact q _ b
def fY(K:Yc):Sp:=λb H Q _=>∃(n:Int),b=[.str (nT n)]/\1<=n/\n<10^60/\∀a,aJ H a->Q (.int n) a
theorem gi:ax ["text","count"] bQ (aj eA):=iH
include eV bz aY in
theorem kn(F:b7 K "read_count" "read_count" eA f fd):∅ 2 f fd bQ (fY K):=by
 refine F.oj gi ?_;rintro _ _ _ _ _ _ _ _ a _ _ _ ⟨n,rfl,h⟩;refine⟨_,(ah (bg (i:=1) gi.nd rfl (Or.inl rfl) (bA bz aY a (aa (pv 0) af)))
   (ah (bL (aL iq (pv 1) ae (aU _)) (ai bE) aN)
   (ai (aC (pv 1))))),?_⟩
 obtain⟨h0,h1,q⟩:=h;cbv;refine⟨n,rfl,by omega,h1,λc b=>?_⟩;cbv;refine cI (λh=>?_) λ_=>?_
 ·have h:n=0:=of_decide_eq_true h;omega
 cbv;exact q _ b
noncomputable abbrev e5:YZ:=iI 24
noncomputable abbrev eX:YZ:=iI 25
noncomputable abbrev eE:YZ:=iI 26
noncomputable abbrev d6:YZ:=iI 27
noncomputable abbrev eY:YZ:=iI 28
theorem qp{n:Nat}(h:0<n):nT (-(n:Int))="-"++nT (n:Int):=by
 refine jK ?_;rw[fw h,gR,gy];rfl
theorem uP(h:0<=n):Bw (nT n) "-"=false:=by
 have a:=i8 h;obtain⟨c0,c,b⟩:=Ay (oH n.toNat);have o:=fk n.toNat c0 (by rw[b];exact Yv ..);rw[b]at a;have e:nT n=⟨#[c0]⟩++⟨c.toArray⟩:=by
  refine jK ?_;rw[a,gR];rfl
 rw[e,PySem.W.KAf.starts_left (show("-":Yh).length<=1 by decide +kernel)];rcases(show c0=48∨c0=49∨c0=50∨c0=51∨c0=52∨c0=53∨c0=54∨c0=55∨c0=56∨c0=57 by omega)with w|w|w|w|w|w|w|w|w|w<;>subst w<;>decide +kernel
theorem rN{n:Nat}(h:0<n):Bw (nT (-(n:Int))) "-"=true:=by
 rw[qp h];exact PySem.W.KT.starts_app _ _
theorem uS{l:Nat}(h:1<=l):zj (Ya 1) Yb 1 l=zj (Ya ((1:Nat):Int)) (Ya (l:Int)) 1 l:=by
 have e:max (0:Int) (min (l:Int) l)=l:=by omega
 have k:¬ ((l:Int)<0):=by omega
 simp only[zj,k,if_false,e];rfl
theorem sR{n:Nat}(h:0<n):B7 (nT (-(n:Int))) (Ya 1) Yb=nT (n:Int):=by
 have e:=fw h;have c:(nT (-(n:Int))).length=(dg n).length+ 1:=by rw[k9,e];rfl
 have p:=StrLaws.strSliceIndices_plain (a:=1) (b:=(nT (-(n:Int))).length) (len:=(nT (-(n:Int))).length) (by omega) (Ym _);have f:=StrLaws.sliced_plain (nT (-(n:Int))) (a:=1) (b:=(nT (-(n:Int))).length) (by omega) (Ym _);unfold B7;rw[uS (by omega),if_neg]
 ·refine jK ?_;show(_:List Nat)=_;rw[f,e,gy,c];exact yV
 ·rw[p,Yk,zb,c];simp
theorem rn{a b:Nat}(e:dg a=dg b):a=b:=by
 rw[←kb a,e,kb]
theorem iN{j:Int}(e:nT i=nT j):i=j:=by
 have k:∀(m n:Nat),45::dg m=dg n->False:=λm n z=>by
  have:=fk n 45 (by rw[←z];exact Yv ..);omega
 rcases z9 i 0 with h|h<;>rcases z9 j 0 with b|b
 ·obtain⟨m,hm,rfl⟩:∃m:Nat,0<m/\i=-(m:Int):=⟨(-i).toNat,by omega,by omega⟩;obtain⟨n,hn,rfl⟩:∃n:Nat,0<n/\j=-(n:Int):=⟨(-j).toNat,by omega,by omega⟩;have a:=fw hm;rw[e,fw hn]at a;rw[rn (YR a).2]
 ·obtain⟨m,hm,rfl⟩:∃m:Nat,0<m/\i=-(m:Int):=⟨(-i).toNat,by omega,by omega⟩;have a:=fw hm;rw[e,i8 b]at a;exact(k _ _ a.symm).elim
 ·obtain⟨n,hn,rfl⟩:∃n:Nat,0<n/\j=-(n:Int):=⟨(-j).toNat,by omega,by omega⟩;have a:=fw hn;rw[←e,i8 h]at a;exact(k _ _ a.symm).elim
 ·have a:=i8 h;rw[e,i8 b]at a;have:=rn a;omega
def gM(K:Yc):Sp:=λb H Q _=>∃(n:Int),b=[.str (nT n)]/\-(10^60)<n/\n<10^60/\∀a,aJ H a->Q (.int n) a
theorem iu:ax ["text","size"] bQ (aj e5):=iH
include eV bz aY in
theorem lA(F:b7 K "read_word" "read_word" e5 f fd):∅ 2 f fd bQ (gM K):=by
 refine F.oj iu ?_;rintro _ _ _ _ _ _ _ _ b _ _ _ ⟨n,rfl,h⟩;refine⟨_,(ah (bL (iQ (ee K rfl (jd oo PySem.F.slot_str_startswith PySem.F.type_str_startswith pK (pv 0) (aa a9 af)))) (ai (aC (bA bz aY b (aa (pv 0) af)))) aN)
   (ah (bg (i:=1) iu.nd rfl (Or.inl rfl) (bA bz aY b (aa (kg ua (pv 0) (lz ae) lC) af)))
   (ah (bL (aL iq (pv 1) ae (aU _)) (ai bE) aN)
   (ai (aC (wR uF (pv 1))))))),?_⟩
 obtain⟨h0,h1,q⟩:=h;refine ke ?_;cbv;refine⟨_,_,rfl,rfl,?_⟩;rcases z9 n 0 with hn|hn
 rotate_left
 ·rw[uP hn];cbv;refine⟨n,rfl,hn,h1,λc a=>?_⟩;cbv;exact q _ a
 obtain⟨m,hm,rfl⟩:∃m:Nat,0<m/\n=-(m:Int):=⟨(-n).toNat,by omega,by omega⟩;rw[rN hm];cbv;refine⟨_,rfl,a8 (YJ (ki h0 h1) (by decide)),?_⟩;rw[sR hm];cbv;refine⟨(m:Int),rfl,by omega,by omega,λc a=>?_⟩;cbv;refine cI (λh=>?_) λ_=>?_
 ·have h:(m:Int)=0:=of_decide_eq_true h;omega
 cbv;exact q _ a
theorem kW{c:Nat}(h:c≠45)(h2:c<48∨57<c):c∉(nT i).cps.toList:=λz=>by
 rcases qE i c z with e|e
 ·exact h e
 ·omega
theorem j9(n c k:Int):y4 (pZ n c k) "."=[nT n,nT c,nT k]:=by
 unfold pZ;rw[←w5];refine gA (λz=>nomatch z) λp hp=>?_;simp only[YF,rl,or_false]at hp;rcases hp with rfl|rfl|rfl<;>exact kW (by decide) (by decide)
theorem uI(p:Int×Int):cT p=zr ":" [nT p.1,nT p.2]:=rfl
theorem ly(p:Int×Int):y4 (cT p) ":"=[nT p.1,nT p.2]:=by
 rw[uI,←wc];refine gA (λz=>nomatch z) λq hp=>?_;simp only[YF,rl,or_false]at hp;rcases hp with rfl|rfl<;>exact kW (by decide) (by decide)
theorem iW{a b:Yh}{c:Nat}(h1:c∉a.cps.toList)(h2:c∉b.cps.toList):c∉(a++b).cps.toList:=by
 rw[gR];exact λz=>(yL.mp z).elim h1 h2
theorem kc{w:Int}(h:Pt n c k kd w ps):y4 (gC n c k kd w ps) " "=mi n c k kd w ps:=by
 unfold gC;rw[←vK];refine gA (λz=>nomatch z) λq a=>?_;have b:∀i:Int,32∉(nT i).cps.toList:=λi=>kW (by decide) (by decide);rcases yL.mp a with a|a
 ·simp only[YF,rl,or_false]at a;rcases a with rfl|rfl|rfl
  ·show 32∉(nT n++"."++(nT c++"."++nT k)).cps.toList;have d:32∉(".":Yh).cps.toList:=by decide +kernel
   exact iW (iW (b n) d) (iW (iW (b c) d) (b k))
  ·rcases h.hk with rfl|rfl|rfl<;>decide +kernel
  ·exact b w
 ·obtain⟨p,hp,rfl⟩:=yU.mp a;exact iW (iW (b _) (by decide +kernel)) (b _)
theorem vB{q:Int×Int}(e:cT p=cT q):p=q:=by
 have a:=ly p;rw[e,ly q]at a;have b:=(YR a).1;have c:=(YR (YR a).2).1;exact Prod.ext (iN b).symm (iN c).symm
theorem uJ{p:List (Int×Int)}:∀{q:List (Int×Int)},p.map cT=q.map cT->p=q:=by
 induction p with
 |nil=>intro q e;exact(yX.mp e.symm).symm
 |cons x p ih=>
  intro q e;cases q with
  |nil=>cases e
  |cons y q=>
   obtain⟨a,b⟩:=YR e;rw[vB a,ih b]
theorem og{w g i j l:Int}{b:Yh}{d:List (Int×Int)}(h:Pt n c k kd w ps)(h':Pt g i j b l d)(e:gC n c k kd w ps=gC g i j b l d):n=g/\c=i/\k=j/\kd=b/\w=l/\ps=d:=by
 have a:=kc h';rw[←e,kc h]at a;have a:pZ n c k::kd::nT w::ps.map cT=pZ g i j::b::nT l::d.map cT:=a;obtain⟨m,a⟩:=YR a;obtain⟨o,a⟩:=YR a;obtain⟨p,a⟩:=YR a;have f:=j9 g i j;rw[←m,j9]at f;obtain⟨q,f⟩:=YR f;obtain⟨r,f⟩:=YR f;obtain⟨s,f⟩:=YR f;exact⟨iN q,iN r,iN s,o,iN p,uJ a⟩
def iF(K:Yc):Sp:=λb H Q _=>∃(n c k:Int),b=[.str (pZ n c k)]/\(0<=n/\n<10^60)/\(0<=c/\c<=62)/\(1<=k/\k<10^60)/\∀a t,aJ H a->a t=Ya (.tup [.int n,.int c,.int k])->Q (.ref t) a
theorem gT:ax ["text","parts"] bQ (aj eX):=iH
variable{jf:Ye}{ig:Ye}{gI:Yu}{fW:Yu}(ef:∅ 2 d9 dD bQ (dE K))(dZ:∅ 2 jf gI bQ (gK K))(dR:el K mg "read_hand" jf gI bQ)(cW:∅ 2 ig fW bQ (fY K))(de:el K mg "read_count" ig fW bQ)
include eV ef aY dZ dR cW de ei in
theorem lW(F:b7 K "read_name" "read_name" eX f fd):∅ 3 f fd bQ (iF K):=by
 refine F.oj gT ?_;rintro _ _ _ _ H _ _ _ b _ _ _ ⟨n,c,k,rfl,h⟩;refine⟨_,(ah (bg (i:=1) gT.nd rfl (Or.inl rfl) (jd oo zQ zR jT (pv 0) (aa a9 af)))
   (ah (bL (aL jh (bf (df (K:=K) rfl) (by rfl) ei yQ (aa (pv 1) af)) ae (aU _)) (ai bE) aN)
   (ai (aC (fx (aa (bA ef aY b (aa (a7 (bc (K:=K) rfl) (pv 1) ae (λ_ _=>rfl)) af)) (aa (bA dZ dR b (aa (a7 (bc (K:=K) rfl) (pv 1) ae (λ_ _=>rfl)) af)) (aa (bA cW de b (aa (a7 (bc (K:=K) rfl) (pv 1) ae (λ_ _=>rfl)) af)) af)))))))),?_⟩
 obtain⟨hn,d,hk,q⟩:=h;have y:=oK hn ⟨d.1,by omega⟩ ⟨by omega,hk.2⟩;cbv;refine⟨_,_,rfl,rfl,by decide +kernel,a8 (by omega),λl p=>?_⟩;rw[j9];have a:upd H l (.lst ([nT n,nT c,nT k].map V.str)) l=Ya (.lst [.str (nT n),.str (nT c),.str (nT k)]):=ao;have g:=aP (o:=.lst ([nT n,nT c,nT k].map V.str)) p;generalize upd H l (.lst ([nT n,nT c,nT k].map V.str))=H1 at a g⊢;have z:=bP.of (K:=K) a;have A:dH [V.str (nT n),V.str (nT c),V.str (nT k)] 0=Ya (.str (nT n)):=ak (j:=0) rfl;have B:dH [V.str (nT n),V.str (nT c),V.str (nT k)] 1=Ya (.str (nT c)):=ak (j:=1) rfl;have C:dH [V.str (nT n),V.str (nT c),V.str (nT k)] 2=Ya (.str (nT k)):=ak (j:=2) rfl;cbv;refine cI (λh=>absurd h (by simp)) λ_=>?_;cbv;refine⟨n,rfl,hn.1,hn.2,λD e=>?_⟩;have r:=bP.of (K:=K) (e _ _ a);cbv;refine⟨c,rfl,d.1,d.2,λE m=>?_⟩;have s:=bP.of (K:=K) (m _ _ (e _ _ a));cbv;refine⟨k,rfl,hk.1,hk.2,λG u=>?_⟩;cbv;intro t I J v x;exact q _ t (g.trans (e.trans (m.trans (u.trans v)))) x
def fU(K:Yc):Sp:=λb H Q _=>∃(p:Int×Int),b=[.str (cT p)]/\((0<=p.1/\p.1<=62)/\1<=p.2/\p.2<10^60)/\∀a t,aJ H a->a t=Ya (.tup [.int p.1,.int p.2])->Q (.ref t) a
theorem gk:ax ["text","parts"] bQ (aj eE):=iH
include eV dZ dR cW de ei in
theorem ku(F:b7 K "read_cause" "read_cause" eE f fd):∅ 3 f fd bQ (fU K):=by
 refine F.oj gk ?_;rintro _ _ _ _ H _ _ _ c _ _ _ ⟨p,rfl,h⟩;refine⟨_,(ah (bg (i:=1) gk.nd rfl (Or.inl rfl) (jd oo zQ zR jT (pv 0) (aa a9 af)))
   (ah (bL (aL jh (bf (df (K:=K) rfl) (by rfl) ei yQ (aa (pv 1) af)) ae (aU _)) (ai bE) aN)
   (ai (aC (fx (aa (bA dZ dR c (aa (a7 (bc (K:=K) rfl) (pv 1) ae (λ_ _=>rfl)) af)) (aa (bA cW de c (aa (a7 (bc (K:=K) rfl) (pv 1) ae (λ_ _=>rfl)) af)) af))))))),?_⟩
 obtain⟨a,q⟩:=h;have s:=oq a;cbv;refine⟨_,_,rfl,rfl,by decide +kernel,a8 (by omega),λl g=>?_⟩;rw[ly];have b:upd H l (.lst ([nT p.1,nT p.2].map V.str)) l=Ya (.lst [.str (nT p.1),.str (nT p.2)]):=ao;have d:=aP (o:=.lst ([nT p.1,nT p.2].map V.str)) g;generalize upd H l (.lst ([nT p.1,nT p.2].map V.str))=H1 at b d⊢;have u:=bP.of (K:=K) b;have v:dH [V.str (nT p.1),V.str (nT p.2)] 0=Ya (.str (nT p.1)):=ak (j:=0) rfl;have x:dH [V.str (nT p.1),V.str (nT p.2)] 1=Ya (.str (nT p.2)):=ak (j:=1) rfl;cbv;refine cI (λh=>absurd h (by simp)) λ_=>?_;cbv;refine⟨p.1,rfl,a.1.1,a.1.2,λy e=>?_⟩;have k:=bP.of (K:=K) (e _ _ b);cbv;refine⟨p.2,rfl,a.2.1,a.2.2,λz m=>?_⟩;cbv;intro t A B n r;exact q _ t (d.trans (e.trans (m.trans n))) r
def e7(K:Yc):Sp:=λe H Q _=>∃(a:Ye) (c:List (Int×Int)),e=[.ref a]/\H a=Ya (.lst ((c.map cT).map V.str))/\xE c/\∀b t d,aJ H b->b t=Ya (.tup d)->iT b d c->Q (.ref t) b
theorem fo:ax ["texts","causes"] ["texts"] (aj d6):=iH
variable{rz:Ye}{hX:Ye}{oZ:Yu}{fX:Yu}(qG:∅ 3 rz oZ ["hands"] (oQ K))(qZ:el K mg "rise" rz oZ ["hands"])(iw:∅ 3 hX fX bQ (fU K))(iG:el K mg "read_cause" hX fX bQ)(jI:mg "tuple"=Yb)
include eV qG qZ iw iG jI in
theorem j3(F:b7 K "read_causes" "read_causes" d6 f fd):∅ 4 f fd ["texts"] (e7 K):=by
 refine F.oj fo ?_;rintro _ _ _ _ H _ _ _ J _ _ _ ⟨a,m,rfl,h⟩;refine⟨_,(ah (sy (i:=1) ["text"] [Yb] fo.nd rfl (Or.inl rfl) rfl rfl (by kernel_rfl) (mW (K:=K) rfl (pv 0)) (λ_ _ _ _ _ nd=>cx (i:=0) nd rfl (Or.inl rfl)) (λ_ _ _ _ _=>fH) (λ_ _ _ _ _=>(bA iw iG J (aa (pv 0) af))))
   (ah (bL (iQ (ee K rfl (bA qG qZ J (aa (iv ["cause"] [Yb] rfl rfl (by kernel_rfl) (mW (K:=K) rfl (pv 1)) (λ_ _ _ _ _ nd=>cx (i:=0) nd rfl (Or.inl rfl)) (λ_ _ _ _ _=>fH) (λ_ _ _ _ _=>(a7 (bx (K:=K) rfl) (pv 0) ae (λ_ _=>rfl)))) af)))) (ai bE) aN)
   (ai (aC (bp (jv (K:=K) rfl) (by rfl) jI AV (aa (pv 1) af)))))),?_⟩
 obtain⟨L,ok,q⟩:=h;have Z:=ok.len;have sl:=bP.of (K:=K) L;refine ke ?_;cbv;intro D M;refine kL (K:=K) (a:=a) (xs:=(m.map cT).map V.str) (λi σ B=>∃v d,σ=[v]/\aJ H B/\B D=Ya (.lst d)/\iT B d (m.take i)) ⟨Yb,[],rfl,aP M,ao,.nil⟩ ?_ ?_ ?_
 ·rintro i σ B _ ⟨_,_,_,z,_⟩;exact bP.of (z _ _ L)
 ·rintro i x σ B n ⟨u,d,rfl,A,r,g⟩;rw[YG,YG]at n;obtain⟨y,R,rfl⟩:=oh.mp n;obtain⟨p,hp,rfl⟩:=oh.mp R;have o:=ok.ok p (Y2 hp);have E:=g.len;rw[Y9]at E;cbv;refine⟨p,rfl,o,λG t k S=>?_⟩;have c:=k _ _ r;refine⟨_,c,aX (by omega),_,d++[.ref t],rfl,λb o e=>?_,ao,?_⟩
  ·rw[aA (aq e M)];exact k _ _ (A b o e)
  ·rw[dr hp];have kp:∀b I,G b=Ya (.tup I)->upd G D (.lst (d++[.ref t])) b=Ya (.tup I):=λb I e=>by
    rw[aA (m5 e c (by intro z;cases z))];exact e
   exact iT.snoc ((aD k g).mono kp) ⟨t,rfl,kp _ _ S⟩
 rintro σ B ⟨u,d,rfl,A,r,g⟩;rw[Yk,Yk,yV]at g;have E:=g.len;refine ke ?_;cbv;intro N O;refine kL (K:=K) (a:=D) (xs:=d) (λi σ C=>∃v,σ=[v]/\aJ B C/\C N=Ya (.lst (((m.take i).map (·.1)).map V.int))) ⟨Yb,rfl,aP O,ao⟩ ?_ ?_ ?_
 ·rintro i σ C _ ⟨_,_,z,_⟩;exact bP.of (z _ _ r)
 ·rintro i x σ C n ⟨u,rfl,l,s⟩;obtain⟨p,hp,b,rfl,T⟩:=g.get n;have U:cu K C b [.int p.1,.int p.2]:=cu.of (l _ _ T);have a0:dH [V.int p.1,V.int p.2] 0=Ya (.int p.1):=ak (j:=0) rfl;cbv;refine⟨_,s,aX (by rw[Yk,Yk,Y9];omega),_,rfl,λb o e=>?_,?_⟩
  ·rw[aA (aq e O)];exact l b o e
  ·rw[ao,dr hp,YT,YT];rfl
 rintro σ C ⟨u,rfl,l,s⟩;rw[E,yV]at s;cbv;refine⟨N,m.map (·.1),rfl,s,ok.up,by rw[Yk];omega,λG k=>?_⟩;have c:=k _ _ (l _ _ r);have sD:=bP.of (K:=K) c;cbv;intro t W ht X Y;have Q:aJ B W:=l.trans (k.trans X);exact q _ t d (A.trans Q) Y (aD Q g)
theorem kP(a b c:V)(r:List V):m3 (a::b::c::r) (Ya 3) Yb=r:=by
 unfold m3;have d:HT.mL (a::b::c::r).length 0 (Ya 3)=3:=by
  show(if(3:Int)<0 then((3:Int)+ ((a::b::c::r).length:Nat)).toNat else min (3:Int).toNat (a::b::c::r).length)=3;rw[if_neg (by decide)];show min 3 (r.length+ 3)=3;omega
 have e:HT.mL (a::b::c::r).length (a::b::c::r).length Yb=r.length+ 3:=rfl;rw[d,e];show r.take (r.length+ 3-3)=r;rw[Nat.add_sub_cancel,yV]
def iy(K:Yc)(mg:Yh->Option Yd):Sp:=λf H Q _=>∃(n c k:Int) (b:Yh) (w:Int) (d:List (Int×Int)),f=[.str (gC n c k b w d)]/\Pt n c k b w d/\∀a p t e,aJ H a->CO K mg a p b n c k w t->a t=Ya (.tup e)->iT a e d->Q (.ref p) a
theorem c7:ax ["text","parts","kind","name"] bQ (aj eY):=iH
variable{fv:Ye}{jm:Ye}{js:Ye}{f6:Ye}{eG:Yu}{gW:Yu}{iA:Yu}{fF:Yu}(jt:∅ 4 fv eG pS (eu K mg))(dX:el K mg "make_call" fv eG pS)(i5:∅ 4 jm gW bQ (gM K))(i7:el K mg "read_word" jm gW bQ)(i4:∅ 4 js iA bQ (iF K))(i3:el K mg "read_name" js iA bQ)(gj:∅ 4 f6 fF ["texts"] (e7 K))(gg:el K mg "read_causes" f6 fF ["texts"])
include eV jt dX i5 i7 i4 i3 gj gg br ei d3 dt dC dB in
theorem mf(F:b7 K "read_call" "read_call" eY f fd):∅ 5 f fd bQ (iy K mg):=by
 refine F.oj c7 ?_;rintro _ _ _ _ H _ _ _ B u _ _ ⟨n,c,k,a,b,g,rfl,h⟩;refine⟨_,(ah (bL (iQ (ee K rfl (bf (ek (K:=K) rfl) (by rfl) br gm (aa (pv 0) (aa (ij d3 YU) af))))) (ai bE) aN)
   (ah (bg (i:=1) c7.nd rfl (Or.inl rfl) (jd oo zQ zR jT (pv 0) (aa a9 af)))
   (ah (bL (aL qz (bf (df (K:=K) rfl) (by rfl) ei yQ (aa (pv 1) af)) ae (aU _)) (ai bE) aN)
   (ah (bg (i:=2) c7.nd rfl (Or.inl rfl) (a7 (bc (K:=K) rfl) (pv 1) ae (λ_ _=>rfl)))
   (ah (bL (aL (oA (K:=K) rfl u) (pv 2) (fL rfl dt dC) (by rfl)) (ai bE) aN)
   (ah (bL (PW.pt (qf (aL iq (pv 2) a9 (aU _)) (o2 (aL qv (bf (df (K:=K) rfl) (by rfl) ei yQ (aa (pv 1) af)) ae (aU _))))) (ai bE) aN)
   (ah (bg (i:=3) c7.nd rfl (Or.inl rfl) (bA i4 i3 B (aa (a7 (bc (K:=K) rfl) (pv 1) ae (λ_ _=>rfl)) af)))
   (ai (aC (bA jt dX B (aa (a7 (bx (K:=K) rfl) (pv 3) ae (λ_ _=>rfl)) (aa (a7 (bx (K:=K) rfl) (pv 3) ae (λ_ _=>rfl)) (aa (a7 (bx (K:=K) rfl) (pv 3) ae (λ_ _=>rfl)) (aa (pv 2) (aa (bA i5 i7 B (aa (a7 (bc (K:=K) rfl) (pv 1) ae (λ_ _=>rfl)) af)) (aa (bA gj gg B (aa (kg (ml (K:=K) rfl) (pv 1) (lz ae) lC) af)) af)))))))))))))))),?_⟩
 obtain⟨pt,q⟩:=h;obtain⟨aK,rfl,hK⟩:=dB;have ln:=pt.long;have l6:=pt.hp.len;cbv;refine⟨_,_,_,true,rfl,.str _,(by kernel_rfl),?_⟩;cbv;refine⟨_,_,rfl,rfl,by decide +kernel,a8 (by omega),λl hl=>?_⟩;rw[kc pt];have m:upd H l (.lst ((mi n c k a b g).map V.str)) l=Ya (.lst (.str (pZ n c k)::.str a::.str (nT b)::(g.map cT).map V.str)):=ao;have D:=aP (o:=.lst ((mi n c k a b g).map V.str)) hl;generalize upd H l (.lst ((mi n c k a b g).map V.str))=H1 at m D⊢;generalize hL:(V.str (pZ n c k)::V.str a::V.str (nT b)::(g.map cT).map V.str)=L at m;have lL:L.length=g.length+ 3:=by
  rw[←hL];simp only[YD,Yk]
 have a0:dH L 0=Ya (.str (pZ n c k)):=by rw[←hL];exact ak (j:=0) rfl
 have a1:dH L 1=Ya (.str a):=by rw[←hL];exact ak (j:=1) rfl
 have a2:dH L 2=Ya (.str (nT b)):=by rw[←hL];exact ak (j:=2) rfl
 have sl:=bP.of (K:=K) m;have E:=hK H1;cbv;refine cI (λh=>?_) λ_=>?_
 ·have h:=of_decide_eq_true h;omega
 cbv;refine oR pt.hk E ?_;cbv;refine cI (λh=>?_) λ_=>?_
 ·have e:=pt.ow (of_decide_eq_true h);cbv;refine cI (λh=>?_) λ_=>?_
  ·have h:=of_decide_eq_true h;rw[e]at lL;rw[lL]at h;exact absurd h (by decide)
  cbv;refine⟨n,c,k,rfl,⟨pt.n0,pt.n1⟩,⟨pt.c0,pt.c1⟩,⟨pt.k0,pt.k1⟩,λH2 t2 r G=>?_⟩;have I:=cu.of (K:=K) G;have J:=bP.of (K:=K) (r _ _ m);have b0:dH [V.int n,V.int c,V.int k] 0=Ya (.int n):=ak (j:=0) rfl;have b1:dH [V.int n,V.int c,V.int k] 1=Ya (.int c):=ak (j:=1) rfl;have b2:dH [V.int n,V.int c,V.int k] 2=Ya (.int k):=ak (j:=2) rfl;cbv;refine⟨b,rfl,pt.w0,pt.w1,λH3 v=>?_⟩;have M:=bP.of (K:=K) (v _ _ (r _ _ m));cbv;intro N H4 O Q x;rw[←hL,kP]at x;cbv;refine⟨N,g,rfl,x,pt.hp,λH5 t d R S y=>?_⟩;cbv;refine⟨n,c,k,a,b,t,rfl,d,S,pt.w0,pt.w1,pt.hk,λT p C U W z hp s X Y A=>?_⟩;have Z:aJ H T:=D.trans (r.trans (v.trans (Q.trans (R.trans z))));have ex:(if a="own"then[]else d)=d:=by
   split
   ·rename_i e;have e2:=pt.ow e;subst e2;cases y;rfl
   ·rfl
  rw[ex]at A;exact q _ p W d Z ⟨C,U,s,X,Y⟩ A (aD z y)
 ·rw[if_neg Yt];cbv;refine⟨n,c,k,rfl,⟨pt.n0,pt.n1⟩,⟨pt.c0,pt.c1⟩,⟨pt.k0,pt.k1⟩,λH2 t2 r G=>?_⟩;have I:=cu.of (K:=K) G;have J:=bP.of (K:=K) (r _ _ m);have b0:dH [V.int n,V.int c,V.int k] 0=Ya (.int n):=ak (j:=0) rfl;have b1:dH [V.int n,V.int c,V.int k] 1=Ya (.int c):=ak (j:=1) rfl;have b2:dH [V.int n,V.int c,V.int k] 2=Ya (.int k):=ak (j:=2) rfl;cbv;refine⟨b,rfl,pt.w0,pt.w1,λH3 v=>?_⟩;have M:=bP.of (K:=K) (v _ _ (r _ _ m));cbv;intro N H4 O Q x;rw[←hL,kP]at x;cbv;refine⟨N,g,rfl,x,pt.hp,λH5 t d R S y=>?_⟩;cbv;refine⟨n,c,k,a,b,t,rfl,d,S,pt.w0,pt.w1,pt.hk,λT p C U W z hp s X Y A=>?_⟩;have Z:aJ H T:=D.trans (r.trans (v.trans (Q.trans (R.trans z))));have ex:(if a="own"then[]else d)=d:=by
   split
   ·rename_i e;have e2:=pt.ow e;subst e2;cases y;rfl
   ·rfl
  rw[ex]at A;exact q _ p W d Z ⟨C,U,s,X,Y⟩ A (aD z y)
noncomputable abbrev dw:YZ:=iI 30
noncomputable abbrev fm:YZ:=iI 31
noncomputable abbrev fq:YZ:=iI 32
noncomputable abbrev d7:YZ:=iI 33
noncomputable abbrev eD:YZ:=iI 34
noncomputable abbrev eZ:YZ:=iI 35
def eP(K:Yc):Sp:=λb H Q _=>∃(a:Ye) (k:Int),b=[.ref a,.int k]/\∃ns:List Int,bP K H a (ns.map V.int)/\0<=k/\∀c:Int,Q (.int c) H
abbrev p7:List Yh:=["_law_script","_law_k"]
theorem jy:ax ["_law_script","_law_k"] p7 (aj dw):=iH
include eV ei in
theorem jB(F:b7 K "_law_cell_at" "_law_cell_at" dw f fd):∅ 1 f fd p7 (eP K):=by
 refine F.oj jy ?_;rintro _ _ _ _ _ _ _ _ _ _ _ _ ⟨a,k,rfl,h⟩;refine⟨_,(ah (bL (aL qz (pv 1) (bf (df (K:=K) rfl) (by rfl) ei yQ (aa (pv 0) af)) (aU _)) (ai (aC (a7 (bc (K:=K) rfl) (pv 0) (pv 1) (λ_ _=>rfl)))) aN)
   (ai (aC ae))),?_⟩
 obtain⟨ns,d,h0,q⟩:=h;cbv;refine cI (λh1=>?_) λh1=>?_
 ·have h1:k<((ns.map V.int).length:Nat):=of_decide_eq_true h1;rw[Yk]at h1;have b:k.toNat<ns.length:=by omega
  have c:dH (ns.map V.int) k=Ya (V.int ns[k.toNat]):=sZ h0 (by rw[YG,YO b];rfl);cbv;exact q _
 ·cbv;exact q _
def eF(K:Yc):Sp:=λa H Q _=>∃(c:Int),a=[.int c]/\∀n:Int,1<=n->n<10^60->Q (.int n) H
theorem md{a b:Int}(h:0<b):0<=a%b/\a%b<b:=⟨CQ a (by omega),B6 a h⟩
abbrev fS:List Yh:=["_law_cell"]
theorem lR:ax ["_law_cell"] fS (aj fm):=iH
include eV in
theorem l0(F:b7 K "_law_long" "_law_long" fm f fd):∅ 1 f fd fS (eF K):=by
 refine F.oj lR ?_;rintro _ _ _ _ _ _ _ _ _ _ _ _ ⟨c,rfl,h⟩;refine⟨_,(ah (bL (aL iq (aw cB (pv 0) ae) ae (aU _)) (ai (aC (aw gu ae (aw cB (aw eI (pv 0) ae) ae)))) aN)
   (ah (bL (aL iq (aw cB (pv 0) ae) ae (aU _)) (ai (aC (aw iJ (aw iJ (aw lh ae ae) ae) (aw cB (aw eI (pv 0) ae) ae)))) aN)
   (ai (aC (aw gu ae (aw cB (aw eI (pv 0) ae) (aw iJ (aw lh ae ae) ae))))))),?_⟩
 cbv;refine cI (λ_=>?_) λ_=>?_
 ·cbv;have:=md (a:=c / 3) (b:=12) (by decide);exact h _ (by omega) (by omega)
 ·cbv;refine cI (λ_=>?_) λ_=>?_
  ·cbv;have:=md (a:=c / 3) (b:=100) (by decide);exact h _ (show 1<=10^60-1-c / 3%100 by omega) (show 10^60-1-c / 3%100<10^60 by omega)
  ·have p:(0:Int)<10^C7 60-1:=by decide
   cbv;have:=md (a:=c / 3) (b:=10^60-1) (by decide);exact h _ (show 1<=1+ c / 3%(10^60-1) by omega) (show 1+ c / 3%(10^60-1)<10^60 by omega)
def iE(K:Yc):Sp:=λa H Q _=>∃(c:Int),a=[.int c]/\∀n:Int,-(10^60)<n->n<10^60->Q (.int n) H
theorem lq:ax ["_law_cell"] fS (aj fq):=iH
include eV in
theorem lU(F:b7 K "_law_word" "_law_word" fq f fd):∅ 1 f fd fS (iE K):=by
 refine F.oj lq ?_;rintro _ _ _ _ _ _ _ _ _ _ _ _ ⟨c,rfl,h⟩;refine⟨_,(ah (bL (aL iq (aw cB (pv 0) ae) ae (aU _)) (ai (aC (aw iJ (aw cB (aw eI (pv 0) ae) ae) ae))) aN)
   (ai (aC (aw lG (aw iJ (aw lG (aw cB (aw eI (pv 0) ae) ae) ae) ae) (aw cB (aw eI (pv 0) ae) (aw lh ae ae)))))),?_⟩
 cbv;refine cI (λ_=>?_) λ_=>?_
 ·cbv;have:=md (a:=c / 4) (b:=5) (by decide);exact h _ (by omega) (by omega)
 ·have d:=md (a:=c / 4) (b:=2) (by decide);have p:(0:Int)<10^C7 60:=by decide
  have g:nX (c / 4%2) 2:=.inl ⟨by omega,by omega⟩;have i:nX (c / 4%2*2-1) (c / 8%10^C7 60):=.inl ⟨by omega,by omega⟩;cbv;have r:=md (a:=c / 8) (b:=10^60) (by decide);have e:-(10^60)<(c / 4%2*2-1)*(c / 8%10^60)/\(c / 4%2*2-1)*(c / 8%10^60)<10^60:=by
   rcases(show c / 4%2=0∨c / 4%2=1 by omega)with z|z<;>rw[z]<;>constructor<;>omega
  exact h _ e.1 e.2
def fE(K:Yc):Sp:=λe H Q _=>∃(c:Int),e=[.int c]/\∀a t b d,aJ H a->a t=Ya (.tup b)->iT a b d->xE d->Q (.ref t) a
theorem bR:ax ["_law_cell","_law_found","_law_hand","_law_k"] fS (aj d7):=iH
variable{fj:Ye}{ey:Yu}(ja:∅ 1 fj ey fS (eF K))(cL:el K mg "_law_long" fj ey fS)(gP:mg "range"=Yb)
include eV ja cL gP jI in
theorem jO(F:b7 K "_law_causes" "_law_causes" d7 f fd):∅ 2 f fd fS (fE K):=by
 refine F.oj bR ?_;rintro _ _ _ _ H _ _ _ C _ _ _ ⟨c,rfl,h⟩;refine⟨_,(ah (bg (i:=1) bR.nd rfl (Or.inl rfl) (nQ af))
   (ah (bg (i:=2) bR.nd rfl (Or.inl rfl) (aw cB (aw eI (pv 0) ae) ae))
   (ah (n6 PassesOwn.never rfl (kD rfl gP (aa (aw cB (pv 0) ae) af)) (cx (i:=3) bR.nd rfl (Or.inl rfl))
   (ah (oP (nj (K:=K) rfl (jd PySem.F.plainAttrs_list PySem.F.slot_list_append PySem.F.type_list_append kG (pv 1) (aa (fx (aa (pv 2) (aa (bA ja cL C (aa (aw mF (pv 0) (aw gu ae (aw lG ae (pv 3)))) af)) af))) af))))
   (ai (bg (i:=2) bR.nd rfl (Or.inl rfl) (aw gu (aw gu (pv 2) ae) (aw cB (aw mF (pv 0) (aw gu ae (aw lG ae (pv 3)))) ae))))))
   (ai (aC (bp (jv (K:=K) rfl) (by rfl) jI AV (aa (pv 1) af))))))),?_⟩
 have D:=h;cbv;intro l V E G I;cbv;have W:=md (a:=c) (b:=6) (by decide);have J:=md (a:=c / 6) (b:=17) (by decide);refine⟨_,rfl,by omega,by omega,?_⟩;let q:Nat->St->Hp->Prop:=λi σ j=>∃v hd e d,σ=[Ya (.int c),Ya (.ref l),Ya (.int hd),v]/\aJ H j/\j l=Ya (.lst e)/\iT j e d/\d.length=i/\0<=hd/\hd<=16+ 9*(i:Int)/\(∀p∈d,p.1<hd)/\(∀p∈d,(0<=p.1/\p.1<=62)/\1<=p.2/\p.2<10^60)/\(d.map (·.1)).Pairwise (·<·);refine pF q ⟨Yb,_,[],[],rfl,G,I,.nil,rfl,by omega,by omega,(λ_ z=>nomatch z),(λ_ z=>nomatch z),.nil⟩ ?_ ?_
 ·rintro i σ j X ⟨v,hd,e,d,rfl,r,g,o,y,A,L,s,ok,up⟩;have Y:=o.len;have M:(i:Int)<5:=by omega
  have N:qY c (100+ 7*(0+ (i:Int))):=⟨by omega,by omega⟩;have Z:qY c (900+ 11*(0+ (i:Int))):=⟨by omega,by omega⟩;have m1:nX 7 (0+ (i:Int)):=.inl ⟨by omega,by omega⟩;have m2:nX 11 (0+ (i:Int)):=.inl ⟨by omega,by omega⟩;have ls:e.length<Yp:=aX (by omega);cbv;refine⟨_,rfl,λm h1 h2=>?_⟩;cbv;intro t B O k u;have n:=k _ _ g;cbv;intro Q x R;cbv;have r9:=md (a:=c / (900+ 11*(0+ (i:Int)))) (b:=9) (by decide);have S:kj j Q:=(kj.same k).trans (kj.but x n (by intro _ z;cases z));refine⟨_,_,e++[.ref t],d++[(hd,m)],rfl,x.same (r.trans k) E,R,iT.snoc (o.mono S) ⟨t,rfl,x.of n u (by intro z;cases z)⟩,by rw[Y8,y];rfl,by omega,by push_cast;omega,λp hp=>?_,λp hp=>?_,?_⟩
  ·rcases yL.mp hp with z|z
   ·have:=s p z;omega
   ·cases YN.mp z;show hd<_;omega
  ·rcases yL.mp hp with z|z
   ·exact ok p z
   ·cases YN.mp z;exact⟨⟨A,by show hd<=62;omega⟩,h1,h2⟩
  ·rw[YT];refine BI.mpr ⟨up,List.pairwise_singleton _ _,λa T b U=>?_⟩;obtain⟨p,hp,rfl⟩:=yU.mp T;cases YN.mp U;exact s p hp
 rintro σ j ⟨v,hd,e,d,rfl,r,g,o,y,A,L,s,ok,up⟩;have sl:=bP.of (K:=K) g;cbv;intro t B O k u;exact D B t e d (r.trans k) u (aD k o) ⟨ok,up,by omega⟩
def Tq(H:Hp)(u:Ye)(n c k:Int)(b:Yh)(w:Int)(d:List (Int×Int)):Prop:=∃t a,H u=Ya (.tup [.int n,.int c,.int k,.str b,.int w,.ref t])/\H t=Ya (.tup a)/\iT H a d
theorem Tq.same{w:Int}(h:Tq H u n c k kd w ps)(s:aJ H H'):Tq H' u n c k kd w ps:=by
 obtain⟨t,a,b,d,e⟩:=h;exact⟨t,a,s _ _ b,s _ _ d,aD s e⟩
def gh(K:Yc):Sp:=λf H Q _=>∃(a:Ye) (c0 c1 g h i j:Int),f=[.ref a]/\H a=Ya (.lst [.int c0,.int c1,.int g,.int h,.int i,.int j])/\∀b u n c k d w e,aJ H b->Tq b u n c k d w e->Pt n c k d w e->Q (.ref u) b
abbrev qC:List Yh:=["_law_cells"]
theorem cJ:ax ["_law_cells","_law_kind","_law_causes_here"] qC (aj eD):=iH
variable{i6:Ye}{f7:Ye}{gL:Yu}{fc:Yu}(dz:∅ 2 fj ey fS (eF K))(jo:∅ 2 i6 gL fS (iE K))(jb:el K mg "_law_word" i6 gL fS)(f9:∅ 2 f7 fc fS (fE K))(gf:el K mg "_law_causes" f7 fc fS)
include eV dz cL jo jb f9 gf in
theorem ko(F:b7 K "_law_parts" "_law_parts" eD f fd):∅ 3 f fd qC (gh K):=by
 refine F.oj cJ ?_;rintro _ _ _ _ _ _ _ _ p _ _ _ ⟨a,c0,c1,G,s,H,I,rfl,h⟩;refine⟨_,(ah (bg (i:=1) cJ.nd rfl (Or.inl rfl) (a7 (bc (K:=K) rfl) (nQ (aa a9 (aa a9 (aa a9 af)))) (aw cB (a7 (bc (K:=K) rfl) (pv 0) ae (λ_ _=>rfl)) ae) (λ_ _=>rfl)))
   (ah (bg (i:=2) cJ.nd rfl (Or.inl rfl) (fx af))
   (ah (bL (aL jh (pv 1) a9 (aU _)) (ai (bg (i:=2) cJ.nd rfl (Or.inl rfl) (bA f9 gf p (aa (a7 (bc (K:=K) rfl) (pv 0) ae (λ_ _=>rfl)) af)))) aN)
   (ai (aC (fx (aa (aw iJ (bA dz cL p (aa (a7 (bc (K:=K) rfl) (pv 0) ae (λ_ _=>rfl)) af)) ae) (aa (aw cB (a7 (bc (K:=K) rfl) (pv 0) ae (λ_ _=>rfl)) ae) (aa (bA dz cL p (aa (a7 (bc (K:=K) rfl) (pv 0) ae (λ_ _=>rfl)) af)) (aa (pv 1) (aa (bA jo jb p (aa (a7 (bc (K:=K) rfl) (pv 0) ae (λ_ _=>rfl)) af)) (aa (pv 2) af)))))))))))),?_⟩
 obtain⟨g,q⟩:=h;have sa:=bP.of (K:=K) g;generalize hL:[V.int c0,V.int c1,V.int G,V.int s,V.int H,V.int I]=L at g sa;have a0:dH L 0=Ya (.int c0):=by rw[←hL];exact ak (j:=0) rfl
 have a1:dH L 1=Ya (.int c1):=by rw[←hL];exact ak (j:=1) rfl
 have a2:dH L 2=Ya (.int G):=by rw[←hL];exact ak (j:=2) rfl
 have a3:dH L 3=Ya (.int s):=by rw[←hL];exact ak (j:=3) rfl
 have a4:dH L 4=Ya (.int H):=by rw[←hL];exact ak (j:=4) rfl
 have a5:dH L 5=Ya (.int I):=by rw[←hL];exact ak (j:=5) rfl
 refine ke ?_;cbv;intro l H1 hl J N;have sl:=bP.of (K:=K) N;have O:=bP.of (K:=K) (J _ _ g);obtain⟨v,e,m⟩:=ya "own" "heard" "one" s;cbv;intro t H2 ht Q R;have r:=J.trans Q;have o:=bP.of (K:=K) (r _ _ g);cbv;refine ke ?_;cbv;by_cases x:v="own"
 ·rw[decide_eq_true x];refine cI (λh=>absurd h (by decide)) λ_=>?_;have o:=bP.of (K:=K) (r _ _ g);cbv;refine⟨_,rfl,λn n1 n2=>?_⟩;cbv;refine⟨_,rfl,λk k1 y=>?_⟩;cbv;refine⟨_,rfl,λA w1 B=>?_⟩;cbv;intro u S C c D;have d:=md (a:=c1) (b:=63) (by decide);exact q _ u (n-1) (c1%63) k v A [] (r.trans c) ⟨t,[],D,c _ _ R,aD c .nil⟩ ⟨by omega,by omega,d.1,by omega,k1,y,m,w1,B,⟨(λ_ z=>nomatch z),.nil,by decide⟩,λ_=>rfl⟩
 ·rw[decide_eq_false x];refine cI (λ_=>?_) λh=>absurd rfl h;cbv;refine⟨_,rfl,λH3 T U W X Y Z E=>?_⟩;have M:=r.trans X;have o:=bP.of (K:=K) (M _ _ g);cbv;refine⟨_,rfl,λn n1 n2=>?_⟩;cbv;refine⟨_,rfl,λk k1 y=>?_⟩;cbv;refine⟨_,rfl,λA w1 B=>?_⟩;cbv;intro u S C c D;have d:=md (a:=c1) (b:=63) (by decide);exact q _ u (n-1) (c1%63) k v A W (M.trans c) ⟨T,U,D,c _ _ Y,aD c Z⟩ ⟨by omega,by omega,d.1,by omega,k1,y,m,w1,B,E,λz=>absurd z x⟩
theorem rK(n c k:Int)(a:Yh)(w:Int)(b:List (Int×Int))(p:Int×Int):gC n c k a w (b++[p])=gC n c k a w b++" "++nT p.1++":"++nT p.2:=by
 have e:mi n c k a w (b++[p])=mi n c k a w b++[cT p]:=by
  unfold mi;rw[YT,AG];rfl
 unfold gC;rw[e,PyProof.Rows.FinIter.join_snoc,if_neg (λz=>nomatch z)];unfold cT;simp only[Cz]
theorem ux(n c k:Int)(a:Yh)(w:Int):gC n c k a w []=nT n++"."++nT c++"."++nT k++" "++a++" "++nT w:=by
 show nT n++"."++(nT c++"."++nT k)++" "++(a++" "++nT w)=_;simp only[Cz]
theorem sT{w:Int}(h:Pt n c k kd w ps)(i:Nat)(hk:kd="own"->ps.take i=[]):Pt n c k kd w (ps.take i):=
 ⟨h.n0,h.n1,h.c0,h.c1,h.k0,h.k1,h.hk,h.w0,h.w1,⟨λp hp=>h.hp.ok p (List.mem_of_mem_take hp),by rw[List.map_take];exact h.hp.up.sublist (AE ..),by rw[Y9];have:=h.hp.len;omega⟩,hk⟩
def hG(K:Yc):Sp:=λd H Q _=>∃(u:Ye),d=[.ref u]/\∃n c k a w b,Tq H u n c k a w b/\Pt n c k a w b/\Q (.str (gC n c k a w b)) H
abbrev q0:List Yh:=["_law_parts_here"]
theorem bU:ax ["_law_parts_here","_law_text_here","_law_hand","_law_much"] q0 (aj eZ):=iH
include eV d3 in
theorem kX(F:b7 K "_law_text" "_law_text" eZ f fd):∅ 1 f fd q0 (hG K):=by
 refine F.oj bU ?_;rintro _ _ _ _ H _ _ _ _ _ m _ ⟨u,rfl,h⟩;refine⟨_,(ah (bg (i:=1) bU.nd rfl (Or.inl rfl) (aw bb (aw bb (aw bb (aw bb (bp bw (by rfl) d3 YU (aa (a7 (bx (K:=K) rfl) (pv 0) ae (λ_ _=>rfl)) af)) a9) (bp bw (by rfl) d3 YU (aa (a7 (bx (K:=K) rfl) (pv 0) ae (λ_ _=>rfl)) af))) a9) (bp bw (by rfl) d3 YU (aa (a7 (bx (K:=K) rfl) (pv 0) ae (λ_ _=>rfl)) af))))
   (ah (bg (i:=1) bU.nd rfl (Or.inl rfl) (aw bb (aw bb (aw bb (aw bb (pv 1) a9) (a7 (bx (K:=K) rfl) (pv 0) ae (λ_ _=>rfl))) a9) (bp bw (by rfl) d3 YU (aa (a7 (bx (K:=K) rfl) (pv 0) ae (λ_ _=>rfl)) af))))
   (ah (n6 PassesOwn.never rfl (lu (K:=K) rfl (a7 (bx (K:=K) rfl) (pv 0) ae (λ_ _=>rfl))) (oE (K:=K) (n:=2) rfl rfl (gH (cx (i:=2) bU.nd rfl (Or.inl rfl)) (gH (cx (i:=3) bU.nd rfl (Or.inl rfl)) oX)))
   (ai (bg (i:=1) bU.nd rfl (Or.inl rfl) (aw bb (aw bb (aw bb (aw bb (pv 1) a9) (bp bw (by rfl) d3 YU (aa (pv 2) af))) a9) (bp bw (by rfl) d3 YU (aa (pv 3) af))))))
   (ai (aC (pv 1)))))),?_⟩
 obtain⟨n,c,k,r,l,C,⟨t,E,m,G,D⟩,pt,q⟩:=h;have I:=D.len;have Q:=pt.hp.len;have st:=cu.of (K:=K) m;have s:=cu.of (K:=K) G;generalize hL:[V.int n,V.int c,V.int k,V.str r,V.int l,V.ref t]=L at m st;have R:dH L 0=Ya (.int n):=by rw[←hL];exact ak (j:=0) rfl
 have S:dH L 1=Ya (.int c):=by rw[←hL];exact ak (j:=1) rfl
 have T:dH L 2=Ya (.int k):=by rw[←hL];exact ak (j:=2) rfl
 have U:dH L 3=Ya (.str r):=by rw[←hL];exact ak (j:=3) rfl
 have W:dH L 4=Ya (.int l):=by rw[←hL];exact ak (j:=4) rfl
 have X:dH L 5=Ya (.ref t):=by rw[←hL];exact ak (j:=5) rfl
 have n0:=pt.n0;have n1:=pt.n1;have c0:=pt.c0;have c1:=pt.c1;have k0:=pt.k0;have k1:=pt.k1;have Y:(YB (toString n)).length<=60:=dq n0 n1;have Z:(YB (toString c)).length<=60:=dq c0 (by omega);have lk:(YB (toString k)).length<=60:=dq (n:=k) (by omega) k1;have lw:(YB (toString l)).length<=61:=ki pt.w0 pt.w1;have J:=qT pt.hk;have lp:=pt.lens;have d:(".":Yh).length=1:=by decide +kernel
 have e:(" ":Yh).length=1:=by decide +kernel
 have g:(":":Yh).length=1:=by decide +kernel
 refine ke ?_;cbv;refine⟨_,rfl,lg (by omega) (by omega),?_⟩;cbv;refine⟨_,_,rfl,rfl,a8 ?_,?_⟩
 ·simp only[bG,d,e,g];omega
 cbv;refine⟨_,rfl,lg (by omega) (by omega),?_⟩;cbv;refine⟨_,_,rfl,rfl,a8 ?_,?_⟩
 ·simp only[bG,d,e,g];omega
 cbv;refine⟨_,_,rfl,rfl,a8 ?_,?_⟩
 ·simp only[bG,d,e,g];omega
 cbv;refine⟨_,rfl,lg (by omega) (by omega),?_⟩;cbv;refine⟨_,_,rfl,rfl,a8 ?_,?_⟩
 ·simp only[bG,d,e,g];omega
 cbv;refine⟨_,_,rfl,rfl,a8 ?_,?_⟩
 ·simp only[bG,d,e,g];omega
 cbv;refine⟨_,_,rfl,rfl,a8 ?_,?_⟩
 ·simp only[bG,d,e,g];omega
 cbv;refine⟨_,_,rfl,rfl,a8 ?_,?_⟩
 ·simp only[bG,d,e,g];omega
 cbv;refine⟨_,rfl,lg pt.w0 pt.w1,?_⟩;cbv;refine⟨_,_,rfl,rfl,a8 ?_,?_⟩
 ·simp only[bG,d,e,g];omega
 cbv;rw[show YB (toString n)++"."++YB (toString c)++"."++YB (toString k)++" "++r++" "++YB (toString l)=gC n c k r l []from(ux n c k r l).symm];cbv;let v:Nat->St->Hp->Prop:=λi σ B=>∃y A,σ=[Ya (.ref u),Ya (.str (gC n c k r l (C.take i))),y,A]/\B=H;refine sU (K:=K) (a:=t) (xs:=E) v ⟨Yb,Yb,rfl,rfl⟩ ?_ ?_ ?_
 ·rintro i σ B _ ⟨_,_,_,rfl⟩;exact s
 ·rintro i x σ B M ⟨y,A,rfl,rfl⟩;obtain⟨p,hp,b,rfl,N⟩:=D.get M;have o:=pt.hp.ok p (Y2 hp);have hi:=(YW.mp hp).1;have O:cu K B b [.int p.1,.int p.2]:=cu.of N;have lt:(gC n c k r l (C.take i)).length<=2000:=(sT pt i λz=>by rw[pt.ow z,List.take_nil]).long;have l1:(YB (toString p.1)).length<=60:=dq o.1.1 (by omega);have l2:(YB (toString p.2)).length<=60:=dq (by omega) o.2.2;cbv;refine⟨_,_,rfl,rfl,a8 ?_,?_⟩
  ·simp only[bG,d,e,g];omega
  cbv;refine⟨_,rfl,lg (by omega) (by omega),?_⟩;cbv;refine⟨_,_,rfl,rfl,a8 ?_,?_⟩
  ·simp only[bG,d,e,g];omega
  cbv;refine⟨_,_,rfl,rfl,a8 ?_,?_⟩
  ·simp only[bG,d,e,g];omega
  cbv;refine⟨_,rfl,lg (by omega) (by omega),?_⟩;cbv;refine⟨_,_,rfl,rfl,a8 ?_,?_⟩
  ·simp only[bG,d,e,g];omega
  cbv;refine⟨Ya (.int p.1),Ya (.int p.2),?_,rfl⟩;rw[dr hp,rK];rfl
 rintro σ B ⟨y,A,rfl,rfl⟩;rw[I,yV];cbv;exact q
noncomputable abbrev kB:YZ:=iI 36
theorem yw:∀m:Fin 64,Ad 0 (m.1:Int) 6=true:=by decide +kernel
theorem yx{m:Int}(h0:0<=m)(h1:m<64):Ad 0 m 6=true:=by
 have:=yw ⟨m.toNat,by omega⟩;rw[show((m.toNat:Nat):Int)=m by omega]at this;exact this
theorem yu{m:Int}(h:m<64):(YQ 0 m 6).toNat<=64:=by
 unfold YQ;rw[if_pos (by decide)];split<;>omega
noncomputable def xB(n c k:Int)(a:Yh)(w:Int)(b:List (Int×Int)):zf:=.tuple [.int n,.int c,.int k,.str a,.int w,.tuple (b.map pU)]
theorem Tq.dp{K:Yc}{w:Int}(h:Tq H u n c k kd w ps):Dp K H (.ref u) (xB n c k kd w ps):=by
 obtain⟨t,e,a,b,d⟩:=h;exact .tup (cu.of a) (.cons (.int _) (.cons (.int _) (.cons (.int _) (.cons (.str _) (.cons (.int _) (.cons (.tup (cu.of b) d.dps) .nil))))))
theorem uV{w:Int}(a:List (Int×Int))(h:(DL kd).canLay0=true):(xB n c k kd w a).canLay0=true:=by
 unfold xB;rw[Ae];have b:(Dz (a.map pU)).canLay0=true:=by
  rw[Ae];exact lj a
 rw[cb,cb,cb,cb,cb,cb,h,b];rfl
theorem vv(h:wQ kd):(DL kd).canLay0=true:=by
 rcases h with rfl|rfl|rfl<;>kernel_rfl
theorem uf{w:Int}(a:List (Int×Int)):(xB n c k kd w a).depth<=60:=by
 have:=lD a;show max 0 (max 0 (max 0 (max 0 (max 0 (max (jJ (a.map pU)+ 1) 0)))))+ 1<=60;omega
theorem gU{K:Yc}{w:Int}(hk:wQ kd)(h1:Tq H u n c k kd w ps)(h2:Tq H u' n c k kd w ps)(q:Q (.bl false) H):pT K (.ref u) (.ref u') H Q:=iZ (.inl h1.dp) (.inl h2.dp) (uV ps (vv hk)) (uf ps) q
theorem rm{K:Yc}(h1:H u=Ya (.tup [.int n,.int c,.int k]))(h2:H u'=Ya (.tup [.int n,.int c,.int k]))(q:Q (.bl false) H):pT K (.ref u) (.ref u') H Q:=
 iZ (d:=.tuple [.int n,.int c,.int k]) (.inl (.tup (cu.of h1) (.cons (.int _) (.cons (.int _) (.cons (.int _) .nil))))) (.inl (.tup (cu.of h2) (.cons (.int _) (.cons (.int _) (.cons (.int _) .nil))))) (by rfl) (by show 1<=60;decide) q
theorem rA{K:Yc}{a:List V}(h1:H u=Ya (.tup xs))(b:iT H xs ps)(h2:H u'=Ya (.tup a))(c:iT H a ps)(q:Q (.bl false) H):pT K (.ref u) (.ref u') H Q:=by
 have e:(Dz (ps.map pU)).canLay0=true:=by
  rw[Ae];exact lj ps
 have:=lD ps;exact iZ (d:=.tuple (ps.map pU)) (.inl (.tup (cu.of h1) b.dps)) (.inl (.tup (cu.of h2) c.dps)) e (by show jJ (ps.map pU)+ 1<=60;omega) q
def TD(B:Hp)(m:List (fP×V)):Prop:=∀z v,dG m (Y1 z)=Ya v->∃u n c k a w b,v=.ref u/\Tq B u n c k a w b/\Pt n c k a w b/\z=gC n c k a w b
theorem Tq.up{w:Int}(h:Tq H u n c k kd w ps)(s:kj H H'):Tq H' u n c k kd w ps:=by
 obtain⟨t,a,b,d,e⟩:=h;exact⟨t,a,s _ _ b,s _ _ d,e.mono s⟩
theorem TD.up{a:Hp}(h:TD B m)(s:kj B a):TD a m:=λz v e=>by
 obtain⟨u,n,c,k,b,w,d,f,g,i⟩:=h z v e;exact⟨u,n,c,k,b,w,d,f,g.up s,i⟩
theorem TD.put(h:TD B m){w:Int}(t:Tq B u n c k kd w ps)(pt:Pt n c k kd w ps):TD B (iL m (Y1 (gC n c k kd w ps)) (.ref u)):=λz v e=>by
 rw[qD]at e;split at e
 ·rename_i w1;cases e;exact⟨u,n,c,k,kd,w,ps,rfl,t,pt,Sum.inr.inj w1⟩
 ·exact h z v e
def lK(K:Yc):Sp:=λb H Q _=>∃(a:Ye) (ns:List Int),b=[.ref a]/\bP K H a (ns.map V.int)/\ns.length<=63/\∀c,Q (.bl true) c
theorem gx:ax ["_law_script","_law_told","_law_k","_law_parts_here","_law_call","_law_text_here","_law_back"] ["_law_script"] (aj kB):=iH
variable{dW:Ye}{cX:Ye}{jk:Ye}{e8:Ye}{ic:Ye}{je:Ye}{gZ:Yu}{fV:Yu}{iz:Yu}{eL:Yu}{gc:Yu}{ib:Yu}(fu:∅ 5 fv eG pS (eu K mg))(bo:∅ 5 cK eH bX (eJ K))(dO:∅ 5 dh cQ bX (cN K))(cS:∅ 5 cF cy bX (cC K))(dM:∅ 5 dA cO bX (cP K))(d4:∅ 5 dW gZ bX (gJ K mg))(dN:Binds K gZ bX [])(bI:∅ 5 cX fV bX (fZ K mg))(bH:Binds K fV bX [])(jr:∅ 5 jk iz bQ (iy K mg))(ju:el K mg "read_call" jk iz bQ)(fh:∅ 5 e8 eL p7 (eP K))(fe:el K mg "_law_cell_at" e8 eL p7)(ik:∅ 5 ic gc qC (gh K))(hV:el K mg "_law_parts" ic gc qC)(jw:∅ 5 je ib q0 (hG K))(i9:el K mg "_law_text" je ib q0)(tM:mg "max"=Yb)(bj:cH K aB "shown" cX)(bO:cH K aB "told" dW)(bD:cH K aR "shown" cX)(cg:cH K aR "told" dW)(bC:cH K aQ "shown" cX)(ck:cH K aQ "told" dW)
include eV fu dX bo aZ dO bF cS bh dM bB d4 dN bI bH jr ju fh fe ik hV jw i9 kZ br ei tM gP d3 av aE aF aG aW aV ay aM bj bO aH aS bD cg aI aT bC ck in
theorem uL(F:b7 K "law" "law" kB f fd):∅ 6 f fd ["_law_script"] (lK K):=by
 refine F.oj gx ?_;rintro _ A _ _ H _ _ _ hr Z N _ ⟨sa,ks,rfl,h⟩;refine⟨_,(ah (bg (i:=1) gx.nd rfl (Or.inl rfl) qJ)
   (ah (n6 PassesOwn.never rfl (pD rfl gP (aa ae (aa (bf (pG rfl) (by rfl) tM DI (aa ae (aa (bf (df (K:=K) rfl) (by rfl) ei yQ (aa (kg (ml (K:=K) rfl) (pv 0) lC (lz ae)) af)) af))) (aa ae af)))) (cx (i:=2) gx.nd rfl (Or.inr rfl))
   (ah (bg (i:=3) gx.nd rfl (Or.inl rfl) (bA ik hV hr (aa (iv ["_law_script","_law_k","_law_j"] [Ya 0,Ya 2,Yb] rfl rfl (by kernel_rfl) (kD rfl gP (aa ae af)) (λ_ _ _ _ _ nd=>cx (i:=2) nd rfl (Or.inl rfl)) (λ_ _ _ _ _=>fH) (λ_ _ _ _ _=>(bA fh fe hr (aa (pv 0) (aa (aw gu (pv 1) (pv 2)) af))))) af)))
   (ah (bg (i:=4) gx.nd rfl (Or.inl rfl) (bA fu dX hr (aa (a7 (bx (K:=K) rfl) (pv 3) ae (λ_ _=>rfl)) (aa (a7 (bx (K:=K) rfl) (pv 3) ae (λ_ _=>rfl)) (aa (a7 (bx (K:=K) rfl) (pv 3) ae (λ_ _=>rfl)) (aa (a7 (bx (K:=K) rfl) (pv 3) ae (λ_ _=>rfl)) (aa (a7 (bx (K:=K) rfl) (pv 3) ae (λ_ _=>rfl)) (aa (a7 (bx (K:=K) rfl) (pv 3) ae (λ_ _=>rfl)) af))))))))
   (ah (bg (i:=5) gx.nd rfl (Or.inl rfl) (bV (ed.cons aF.cl bC bI bH (ed.cons av.cl bj bI bH (ed.cons aE.cl bD bI bH ed.nil))) (pv 4) hr))
   (ah (bL (PW.pt (j7 (iQ (ee K rfl (bf (ek (K:=K) rfl) (by rfl) br gm (aa (pv 5) (aa (ij d3 YU) af))))) (lF (aL jh (pv 5) (bA jw i9 hr (aa (pv 3) af)) (aU _))))) (ai (aC mK)) aN)
   (ah (bg (i:=6) gx.nd rfl (Or.inl rfl) (bA jr ju hr (aa (pv 5) af)))
   (ah (bL (PW.pt (j7 (aL (l9 (K:=K) rfl Z) (bV (ed.cons aF.cl ck d4 dN (ed.cons av.cl bO d4 dN (ed.cons aE.cl cg d4 dN ed.nil))) (pv 6) hr) (pv 3) (aU _)) (j7 (aL jh (bV (ed.cons aF.cl aI dO bF (ed.cons av.cl ay cS bh (ed.cons aE.cl aH dM bB ed.nil))) (pv 6) hr) (a7 (bx (K:=K) rfl) (pv 3) ae (λ_ _=>rfl)) (aU _)) (lF (aL jh (bV (ed.cons aF.cl bC bI bH (ed.cons av.cl bj bI bH (ed.cons aE.cl bD bI bH ed.nil))) (pv 6) hr) (pv 5) (aU _)))))) (ai (aC mK)) aN)
   (ah (bL (PW.pt (j7 (ee K rfl (bf (ek (K:=K) rfl) (by rfl) br gm (aa (bT (K:=K) rfl (pv 6) rfl) (aa (ij kZ Bk) af)))) (j7 (aL (l9 (K:=K) rfl Z) (bV (ed.cons aF.cl aT bo aZ (ed.cons av.cl aM bo aZ (ed.cons aE.cl aS bo aZ ed.nil))) (pv 6) hr) (bV (ed.cons aF.cl aT bo aZ (ed.cons av.cl aM bo aZ (ed.cons aE.cl aS bo aZ ed.nil))) (pv 4) hr) (aU _)) (lF (aL (l9 (K:=K) rfl Z) (bT (K:=K) rfl (pv 6) rfl) (bT (K:=K) rfl (pv 4) rfl) (aU _)))))) (ai (aC mK)) aN)
   (ai (bL (aL (l9 (K:=K) rfl Z) (jd PySem.F.plainAttrs_dict Am PySem.F.type_dict_setdefault qA (pv 1) (aa (pv 5) (aa (pv 3) af))) (pv 3) (aU _)) (ai (aC mK)) aN))))))))))
   (ai (aC mK)))),?_⟩
 obtain⟨hS,bv,kk⟩:=h;cbv;intro d H0 hd s0 g0;have bJ:=s0.seq hS;cbv;unfold tD;cbv;intro l H1 hl s1 g1;have sl:=bP.of (K:=K) g1;have ln:=jq (ks.map V.int) Yb (Ya 54);rw[Yk]at ln;generalize m3 (ks.map V.int) Yb (Ya 54)=ys at g1 sl ln;cbv;refine⟨1,_,rfl,?_⟩;cbv;refine⟨0,_,6,rfl,by decide,by decide,yx (by split<;>omega) (by split<;>omega),?_⟩;have rs:=yu (m:=if(ys.length:Int)>1 then(ys.length:Int)else 1) (by split<;>omega);refine rb (λi σ B=>∃v1 v2 v3 v4 v5,∃m:List (fP×V),σ=[Ya (.ref sa),Ya (.ref d),v1,v2,v3,v4,v5]/\aJ H B/\B d=Ya (.dK m)/\m.length<=i/\TD B m) ⟨Yb,Yb,Yb,Yb,Yb,[],rfl,s0.trans s1,s1 _ _ g0,Ym _,(λz v e=>nomatch e)⟩ ?_ ?_
 ·rintro i σ B hi ⟨v1,v2,v3,v4,v5,m,rfl,sB,gd,lm,td⟩;have bz:i<64:=Yy hi rs;have bn:=sB.seq hS;cbv;refine⟨6,rfl,by decide,by decide,λD hD=>?_⟩;refine nH (λt σ A=>∃v,∃cs:List Int,σ=[Ya (.ref sa),Ya (.int (0+ (i:Int)*6)),v]/\aJ B A/\A D=Ya (.lst (cs.map V.int))/\cs.length=t) ⟨Yb,[],rfl,aP hD,ao,rfl⟩ ?_ ?_
  ·rintro t σ A ht ⟨v,cs,rfl,sA,an,lc⟩;have bK:t<6:=by simpa using ht
   cbv;refine⟨sa,_,rfl,ks,sA.seq bn,by omega,λc=>?_⟩;cbv;refine⟨_,an,aX (by rw[Yk];omega),_,cs++[c],rfl,(λb o e=>by rw[aA (aq e hD)];exact sA _ _ e),by rw[ao,YT];rfl,by rw[Y8,lc];rfl⟩
  rintro σ A ⟨v,cs,rfl,sA,an,lc⟩;obtain⟨c0,c1,c2,c3,c4,c5,rfl⟩:∃c0 c1 c2 c3 c4 c5,cs=[c0,c1,c2,c3,c4,c5]:=by
   have lc:cs.length=6:=lc
   match cs,lc with
   |[a,b,c,d,e,f],_=>exact⟨a,b,c,d,e,f,rfl⟩
  cbv;refine⟨D,c0,c1,c2,c3,c4,c5,rfl,an,λA1 u n c k kd q G t1 tq pt=>?_⟩;obtain⟨t,xs,N,bt,px⟩:=id tq;have su:=cu.of (K:=K) N;generalize hL:[V.int n,V.int c,V.int k,V.str kd,V.int q,V.ref t]=L at N su;have a0:dH L 0=Ya (.int n):=by rw[←hL];exact ak (j:=0) rfl
  have a1:dH L 1=Ya (.int c):=by rw[←hL];exact ak (j:=1) rfl
  have a2:dH L 2=Ya (.int k):=by rw[←hL];exact ak (j:=2) rfl
  have a3:dH L 3=Ya (.str kd):=by rw[←hL];exact ak (j:=3) rfl
  have a4:dH L 4=Ya (.int q):=by rw[←hL];exact ak (j:=4) rfl
  have a5:dH L 5=Ya (.ref t):=by rw[←hL];exact ak (j:=5) rfl
  cbv;refine⟨n,c,k,kd,q,t,rfl,xs,bt,pt.w0,pt.w1,pt.hk,λA2 p C dx t' Y hp as hT g2 g3=>?_⟩;have ex:(if kd="own"then[]else xs)=xs:=by
   split
   ·rename_i e;have e2:=pt.ow e;subst e2;cases px;rfl
   ·rfl
  rw[ex]at g3;have p2:=aD Y px;have ap:CO K mg A2 p kd n c k q t':=⟨C,dx,as,hT,g2⟩;rcases as with⟨rfl,e⟩|⟨rfl,e⟩|⟨rfl,e⟩
  ·rw[aV]at e;cases e;cbv;refine⟨p,rfl,"own",n,c,k,q,t',xs,G,ap,g3,p2,pt,λA3 t3=>?_⟩;have aK:=cu.of (K:=K) ((Y.trans t3) _ _ N);cbv;refine⟨_,_,_,true,rfl,.str _,(by kernel_rfl),?_⟩;cbv;refine⟨u,rfl,n,c,k,"own",q,G,tq.same (Y.trans t3),pt,?_⟩;cbv;rw[decide_eq_true (rfl:gC n c k "own" q G=_)];refine cI (λh=>absurd h (by decide)) λ_=>?_;cbv;refine⟨n,c,k,"own",q,G,rfl,pt,λA4 pb tb xb t4 I gb J=>?_⟩;obtain⟨Cb,ab,ac,O,ad⟩:=I.ob;have hC:Cb=aQ:=by
    rcases ac with⟨z,z2⟩|⟨z,z2⟩|⟨z,z2⟩
    ·rw[aV]at z2;cases z2;rfl
    ·exact absurd z (by decide +kernel)
    ·exact absurd z (by decide +kernel)
   subst hC;obtain⟨cl,n1,n2,n3,n4,n5⟩:=id O;cbv;refine⟨pb,rfl,"own",n,c,k,q,tb,I,λA5 ub r aY g5=>?_⟩;have Q:aJ A1 A5:=Y.trans (t3.trans (t4.trans r));cbv;refine gU pt.hk ⟨tb,xb,g5,r _ _ gb,aD r J⟩ (tq.same Q) ?_;have R:=r _ _ ad;have ba:=cu.of (K:=K) (Q _ _ N);cbv;refine⟨pb,rfl,?_⟩;cbv;rw[decide_eq_true (rfl:("own":Yh)=_)];refine cI (λh=>absurd h (by decide)) λ_=>?_;cbv;refine⟨pb,rfl,"own",n,c,k,q,tb,xb,G,I.same r,r _ _ gb,aD r J,pt,λA6 t6=>?_⟩;cbv;rw[decide_eq_true (rfl:gC n c k "own" q G=_)];refine cI (λh=>absurd h (by decide)) λ_=>?_;have E:=t6 _ _ R;cbv;refine⟨_,_,_,false,rfl,.int _,(by kernel_rfl),?_⟩;cbv;refine⟨pb,rfl,_,ab,_,_,_,_,_,O,E,λA7 w7 t7 bd g7=>?_⟩;have S:aJ A2 A7:=t3.trans (t4.trans (r.trans (t6.trans t7)));have T:=S _ _ g2;cbv;refine⟨p,rfl,_,dx,_,_,_,_,_,hT,T,λU w8 W be g8=>?_⟩;cbv;refine rm (W _ _ g7) g8 ?_;have am:=(t7.trans W) _ _ E;have bi:=W _ _ T;have X:aJ A4 U:=r.trans (t6.trans (t7.trans W));have s:aJ A2 U:=S.trans W;cbv;refine rA (X _ _ gb) (aD X J) (s _ _ g3) (aD s p2) ?_;have g:aJ B U:=sA.trans (t1.trans (Y.trans s));have M:=g _ _ gd;have x:=tq.same (Y.trans s);cbv;refine⟨d,m,_,_,rfl,rfl,M,by omega,λv e=>?_,λe=>?_⟩
   ·obtain⟨u',n',c',k',bl,w',bm,rfl,ag,al,ez⟩:=td _ _ e;obtain⟨rfl,rfl,rfl,rfl,rfl,rfl⟩:=og pt al ez;cbv;refine gU pt.hk (ag.same g) x ?_;cbv;exact⟨_,_,_,_,_,m,rfl,sB.trans g,M,by omega,td.up (kj.same g)⟩
   ·have y:kj U (upd U d (.dK (iL m (Y1 (gC n c k "own" q G)) (.ref u)))):=λb ys z=>by
     rw[aA (m5 z M (by intro z;cases z))];exact z
    have lp:=dJ m (Y1 (gC n c k "own" q G):fP) (.ref u);cbv;refine gU pt.hk (x.up y) (x.up y) ?_;cbv;exact⟨_,_,_,_,_,_,rfl,λb o z=>by rw[aA (aq z hd)];exact g _ _ (sB _ _ z),ao,by omega,((td.up (kj.same g)).up y).put (x.up y) pt⟩
  ·rw[aG]at e;cases e;cbv;refine⟨p,rfl,"heard",n,c,k,q,t',xs,G,ap,g3,p2,pt,λA3 t3=>?_⟩;have aK:=cu.of (K:=K) ((Y.trans t3) _ _ N);cbv;refine⟨_,_,_,true,rfl,.str _,(by kernel_rfl),?_⟩;cbv;refine⟨u,rfl,n,c,k,"heard",q,G,tq.same (Y.trans t3),pt,?_⟩;cbv;rw[decide_eq_true (rfl:gC n c k "heard" q G=_)];refine cI (λh=>absurd h (by decide)) λ_=>?_;cbv;refine⟨n,c,k,"heard",q,G,rfl,pt,λA4 pb tb xb t4 I gb J=>?_⟩;obtain⟨Cb,ab,ac,O,ad⟩:=I.ob;have hC:Cb=aB:=by
    rcases ac with⟨z,z2⟩|⟨z,z2⟩|⟨z,z2⟩
    ·exact absurd z (by decide +kernel)
    ·rw[aG]at z2;cases z2;rfl
    ·exact absurd z (by decide +kernel)
   subst hC;obtain⟨cl,n1,n2,n3,n4,n5⟩:=id O;cbv;refine⟨pb,rfl,"heard",n,c,k,q,tb,I,λA5 ub r aY g5=>?_⟩;have Q:aJ A1 A5:=Y.trans (t3.trans (t4.trans r));cbv;refine gU pt.hk ⟨tb,xb,g5,r _ _ gb,aD r J⟩ (tq.same Q) ?_;have R:=r _ _ ad;have ba:=cu.of (K:=K) (Q _ _ N);cbv;refine⟨pb,rfl,?_⟩;cbv;rw[decide_eq_true (rfl:("heard":Yh)=_)];refine cI (λh=>absurd h (by decide)) λ_=>?_;cbv;refine⟨pb,rfl,"heard",n,c,k,q,tb,xb,G,I.same r,r _ _ gb,aD r J,pt,λA6 t6=>?_⟩;cbv;rw[decide_eq_true (rfl:gC n c k "heard" q G=_)];refine cI (λh=>absurd h (by decide)) λ_=>?_;have E:=t6 _ _ R;cbv;refine⟨_,_,_,false,rfl,.int _,(by kernel_rfl),?_⟩;cbv;refine⟨pb,rfl,_,ab,_,_,_,_,_,O,E,λA7 w7 t7 bd g7=>?_⟩;have S:aJ A2 A7:=t3.trans (t4.trans (r.trans (t6.trans t7)));have T:=S _ _ g2;cbv;refine⟨p,rfl,_,dx,_,_,_,_,_,hT,T,λU w8 W be g8=>?_⟩;cbv;refine rm (W _ _ g7) g8 ?_;have am:=(t7.trans W) _ _ E;have bi:=W _ _ T;have X:aJ A4 U:=r.trans (t6.trans (t7.trans W));have s:aJ A2 U:=S.trans W;cbv;refine rA (X _ _ gb) (aD X J) (s _ _ g3) (aD s p2) ?_;have g:aJ B U:=sA.trans (t1.trans (Y.trans s));have M:=g _ _ gd;have x:=tq.same (Y.trans s);cbv;refine⟨d,m,_,_,rfl,rfl,M,by omega,λv e=>?_,λe=>?_⟩
   ·obtain⟨u',n',c',k',bl,w',bm,rfl,ag,al,ez⟩:=td _ _ e;obtain⟨rfl,rfl,rfl,rfl,rfl,rfl⟩:=og pt al ez;cbv;refine gU pt.hk (ag.same g) x ?_;cbv;exact⟨_,_,_,_,_,m,rfl,sB.trans g,M,by omega,td.up (kj.same g)⟩
   ·have y:kj U (upd U d (.dK (iL m (Y1 (gC n c k "heard" q G)) (.ref u)))):=λb ys z=>by
     rw[aA (m5 z M (by intro z;cases z))];exact z
    have lp:=dJ m (Y1 (gC n c k "heard" q G):fP) (.ref u);cbv;refine gU pt.hk (x.up y) (x.up y) ?_;cbv;exact⟨_,_,_,_,_,_,rfl,λb o z=>by rw[aA (aq z hd)];exact g _ _ (sB _ _ z),ao,by omega,((td.up (kj.same g)).up y).put (x.up y) pt⟩
  ·rw[aW]at e;cases e;cbv;refine⟨p,rfl,"one",n,c,k,q,t',xs,G,ap,g3,p2,pt,λA3 t3=>?_⟩;have aK:=cu.of (K:=K) ((Y.trans t3) _ _ N);cbv;refine⟨_,_,_,true,rfl,.str _,(by kernel_rfl),?_⟩;cbv;refine⟨u,rfl,n,c,k,"one",q,G,tq.same (Y.trans t3),pt,?_⟩;cbv;rw[decide_eq_true (rfl:gC n c k "one" q G=_)];refine cI (λh=>absurd h (by decide)) λ_=>?_;cbv;refine⟨n,c,k,"one",q,G,rfl,pt,λA4 pb tb xb t4 I gb J=>?_⟩;obtain⟨Cb,ab,ac,O,ad⟩:=I.ob;have hC:Cb=aR:=by
    rcases ac with⟨z,z2⟩|⟨z,z2⟩|⟨z,z2⟩
    ·exact absurd z (by decide +kernel)
    ·exact absurd z (by decide +kernel)
    ·rw[aW]at z2;cases z2;rfl
   subst hC;obtain⟨cl,n1,n2,n3,n4,n5⟩:=id O;cbv;refine⟨pb,rfl,"one",n,c,k,q,tb,I,λA5 ub r aY g5=>?_⟩;have Q:aJ A1 A5:=Y.trans (t3.trans (t4.trans r));cbv;refine gU pt.hk ⟨tb,xb,g5,r _ _ gb,aD r J⟩ (tq.same Q) ?_;have R:=r _ _ ad;have ba:=cu.of (K:=K) (Q _ _ N);cbv;refine⟨pb,rfl,?_⟩;cbv;rw[decide_eq_true (rfl:("one":Yh)=_)];refine cI (λh=>absurd h (by decide)) λ_=>?_;cbv;refine⟨pb,rfl,"one",n,c,k,q,tb,xb,G,I.same r,r _ _ gb,aD r J,pt,λA6 t6=>?_⟩;cbv;rw[decide_eq_true (rfl:gC n c k "one" q G=_)];refine cI (λh=>absurd h (by decide)) λ_=>?_;have E:=t6 _ _ R;cbv;refine⟨_,_,_,false,rfl,.int _,(by kernel_rfl),?_⟩;cbv;refine⟨pb,rfl,_,ab,_,_,_,_,_,O,E,λA7 w7 t7 bd g7=>?_⟩;have S:aJ A2 A7:=t3.trans (t4.trans (r.trans (t6.trans t7)));have T:=S _ _ g2;cbv;refine⟨p,rfl,_,dx,_,_,_,_,_,hT,T,λU w8 W be g8=>?_⟩;cbv;refine rm (W _ _ g7) g8 ?_;have am:=(t7.trans W) _ _ E;have bi:=W _ _ T;have X:aJ A4 U:=r.trans (t6.trans (t7.trans W));have s:aJ A2 U:=S.trans W;cbv;refine rA (X _ _ gb) (aD X J) (s _ _ g3) (aD s p2) ?_;have g:aJ B U:=sA.trans (t1.trans (Y.trans s));have M:=g _ _ gd;have x:=tq.same (Y.trans s);cbv;refine⟨d,m,_,_,rfl,rfl,M,by omega,λv e=>?_,λe=>?_⟩
   ·obtain⟨u',n',c',k',bl,w',bm,rfl,ag,al,ez⟩:=td _ _ e;obtain⟨rfl,rfl,rfl,rfl,rfl,rfl⟩:=og pt al ez;cbv;refine gU pt.hk (ag.same g) x ?_;cbv;exact⟨_,_,_,_,_,m,rfl,sB.trans g,M,by omega,td.up (kj.same g)⟩
   ·have y:kj U (upd U d (.dK (iL m (Y1 (gC n c k "one" q G)) (.ref u)))):=λb ys z=>by
     rw[aA (m5 z M (by intro z;cases z))];exact z
    have lp:=dJ m (Y1 (gC n c k "one" q G):fP) (.ref u);cbv;refine gU pt.hk (x.up y) (x.up y) ?_;cbv;exact⟨_,_,_,_,_,_,rfl,λb o z=>by rw[aA (aq z hd)];exact g _ _ (sB _ _ z),ao,by omega,((td.up (kj.same g)).up y).put (x.up y) pt⟩
 rintro σ B ⟨v1,v2,v3,v4,v5,m,rfl,sB,gd,lm,td⟩;cbv;exact kk B
end
end K13
namespace K13
open PySem L2
theorem uh{l:W.OpenLaw}{w:YA}{K:W.Frag}{h:YC}{mg:Yh->Option Yd}{fa n bB bF bH bI o bJ bK bY p q g r t u x y z A B C D E F I J L M gw aB aR aQ aK:Ye}{d4 d5 d9 ea eb ec ef eg ei ej b0 b1 b2 b3 b4 b5 b6 ca ce ch ci cl co cq cr cs cy cz:Yu}(X:K.In h)(G:h.Ns Yz mg)(em:mg "law"=Ya (.ref fa))
  {d:Bl} {nK:Nat} {en eo ep:Bl} {b:Bl} {a:Bl}
  (eq:nI K "is_whole" bF)
  (es:nI K "is_word" bH)
  (et:nI K "make_call" bI)
  (cA:nI K "shown_causes" q)
  (cE:nI K "rise" r)
  (cF:nI K "read_number" t)
  (cK:nI K "read_hand" u)
  (cL:nI K "read_count" x)
  (cO:nI K "read_word" y)
  (cQ:nI K "read_name" z)
  (cS:nI K "read_cause" A)
  (cV:nI K "read_causes" B)
  (cW:nI K "read_call" C)
  (cX:nI K "_law_cell_at" D)
  (c0:nI K "_law_long" E)
  (c1:nI K "_law_word" F)
  (c2:nI K "_law_causes" I)
  (c3:nI K "_law_parts" J)
  (c4:nI K "_law_text" L)
  (c5:nI K "law" M)
  (vj:nI K "Call" gw)
  (mx:nI K "HeardCall" aB)
  (pI:nI K "OneCall" aR)
  (pV:nI K "OwnCall" aQ)
  (nZ:W.nsIn K Yz "DIGITS"=Ya (Ya (.str "0123456789" d)))
  (pJ:W.nsIn K Yz "KINDS"=Ya (Ya (.ref aK)))
  (kr:W.nsIn K Yz "LAST_HAND"=Ya (Ya (.int 62 b)))
  (iU:W.nsIn K Yz "MOST_FIGURES"=Ya (Ya (.int 60 a)))
  (wA:W.nsIn K Yz "abs"=Ya Yb)
  (vZ:W.nsIn K Yz "all"=Ya Yb)
  (u9:W.nsIn K Yz "bool"=Ya Yb)
  (xi:W.nsIn K Yz "int"=Ya Yb)
  (k7:W.nsIn K Yz "isinstance"=Ya Yb)
  (xj:W.nsIn K Yz "len"=Ya Yb)
  (wz:W.nsIn K Yz "max"=Ya Yb)
  (sY:W.nsIn K Yz "range"=Ya Yb)
  (wq:W.nsIn K Yz "set"=Ya Yb)
  (qw:W.nsIn K Yz "sorted"=Ya Yb)
  (xh:W.nsIn K Yz "str"=Ya Yb)
  (sd:W.nsIn K Yz "tuple"=Ya Yb)
  (ay:cH K aB "kind" bK)
  (aM:cH K aB "name" o)
  (bj:cH K aB "shown" g)
  (bO:cH K aB "told" p)
  (aH:cH K aR "kind" bY)
  (aS:cH K aR "name" o)
  (bD:cH K aR "shown" g)
  (cg:cH K aR "told" p)
  (aI:cH K aQ "kind" bJ)
  (aT:cH K aQ "name" o)
  (bC:cH K aQ "shown" g)
  (ck:cH K aQ "told" p)
  (dS:Mk K aB n)
  (fO:Mk K aR n)
  (fM:Mk K aQ bB)
  (bW:rp K gw "__init__" n)
  (c6:b7 K "__init__" "Call.__init__" cM n d4)
  (db:b7 K "__init__" "OwnCall.__init__" cn bB d5)
  (dd:b7 K "is_whole" "is_whole" gs bF d9)
  (de:b7 K "is_word" "is_word" iO bH ea)
  (dh:b7 K "make_call" "make_call" fb bI eb)
  (di:b7 K "name" "Call.name" e9 o ec)
  (dl:b7 K "kind" "OwnCall.kind" du bJ ef)
  (dm:b7 K "kind" "HeardCall.kind" cD bK eg)
  (dn:b7 K "kind" "OneCall.kind" dj bY ei)
  (ds:b7 K "told" "Call.told" fg p ej)
  (N:b7 K "shown_causes" "shown_causes" dv q b0)
  (O:b7 K "shown" "Call.shown" eB g b1)
  (P:b7 K "rise" "rise" nY r b2)
  (Q:b7 K "read_number" "read_number" d8 t b3)
  (R:b7 K "read_hand" "read_hand" fy u b4)
  (S:b7 K "read_count" "read_count" eA x b5)
  (T:b7 K "read_word" "read_word" e5 y b6)
  (U:b7 K "read_name" "read_name" eX z ca)
  (V:b7 K "read_cause" "read_cause" eE A ce)
  (Y:b7 K "read_causes" "read_causes" d6 B ch)
  (Z:b7 K "read_call" "read_call" eY C ci)
  (ab:b7 K "_law_cell_at" "_law_cell_at" dw D cl)
  (ac:b7 K "_law_long" "_law_long" fm E co)
  (ad:b7 K "_law_word" "_law_word" fq F cq)
  (ag:b7 K "_law_causes" "_law_causes" d7 I cr)
  (al:b7 K "_law_parts" "_law_parts" eD J cs)
  (am:b7 K "_law_text" "_law_text" eZ L cy)
  (ap:b7 K "law" "law" kB M cz)
  (oi:eh K gw)
  (av:eh K aB)
  (aE:eh K aR)
  (aF:eh K aQ)
  (rj:K.lookup aK=Ya ⟨.type "tuple",Yb,.seq #[.str "own" en,.str "heard" eo,.str "one" ep] nK,#[]⟩)
 :∃fd:Yu,(∀(s:Yg) (v:Yd),Bo s fd ⟨[v],[]⟩ [("_law_script",v)])/\∀base:YC,K.In base->base.Ns Yz mg->az l.prog w K mg base bN 6 fa fd ["_law_script"] (lK K):=by
 have e:=em.symm.trans (W.mg_of X G c5);cases e;have dx:Binds K _ jW []:=c6.bq;have ev:Binds K _ jW []:=db.bq;have dy:el K mg _ _ _ ["value"]:=dd.cal X G eq;have dz:el K mg _ _ _ ["word"]:=de.cal X G es;have as:el K mg _ _ _ pS:=dh.cal X G et;have dA:Binds K _ bX []:=di.bq;have a1:Binds K _ bX []:=dl.bq;have a2:Binds K _ bX []:=dm.bq;have a3:Binds K _ bX []:=dn.bq;have ew:Binds K _ bX []:=ds.bq;have a4:el K mg _ _ _ qL:=N.cal X G cA;have dD:Binds K _ bX []:=O.bq;have a5:el K mg _ _ _ ["hands"]:=P.cal X G cE;have f:el K mg _ _ _ bQ:=Q.cal X G cF;have j:el K mg _ _ _ bQ:=R.cal X G cK;have k:el K mg _ _ _ bQ:=S.cal X G cL;have ba:el K mg _ _ _ bQ:=T.cal X G cO;have bd:el K mg _ _ _ bQ:=U.cal X G cQ;have be:el K mg _ _ _ bQ:=V.cal X G cS;have bh:el K mg _ _ _ ["texts"]:=Y.cal X G cV;have bi:el K mg _ _ _ bQ:=Z.cal X G cW;have bl:el K mg _ _ _ p7:=ab.cal X G cX;have m:el K mg _ _ _ fS:=ac.cal X G c0;have bm:el K mg _ _ _ fS:=ad.cal X G c1;have bn:el K mg _ _ _ fS:=ag.cal X G c2;have bo:el K mg _ _ _ qC:=al.cal X G c3;have br:el K mg _ _ _ q0:=am.cal X G c4;have lJ:=W.mg_of X G vj;have aG:=W.mg_of X G mx;have aW:=W.mg_of X G pI;have aV:=W.mg_of X G pV;have fK:=W.mg_of X G nZ;have fN:RelV (.str "0123456789") (.str "0123456789" d):=⟨_,rfl⟩;have fG:kI K (.str "0123456789"):=rfl;have dt:=W.mg_of X G pJ;have dC:RelV (.ref aK) (.ref aK):=rfl;have dB:mq K (.ref aK):=⟨aK,rfl,λH=>.inr ⟨_,_,_,rj,rfl,rfl,(by show 3<=Yp;decide),.cons ⟨_,rfl⟩ (.cons ⟨_,rfl⟩ (.cons ⟨_,rfl⟩ .nil))⟩⟩;have c9:=W.mg_of X G kr;have cZ:RelV (.int 62) (.int 62 b):=⟨_,rfl⟩;have cY:iB K (.int 62):=rfl;have cc:=W.mg_of X G iU;have cm:RelV (.int 60) (.int 60 a):=⟨_,rfl⟩;have cj:eS K (.int 60):=rfl;have we:mg "abs"=none:=W.mg_none_of X G wA;have vO:mg "all"=none:=W.mg_none_of X G vZ;have ra:mg "bool"=none:=W.mg_none_of X G u9;have tJ:mg "int"=none:=W.mg_none_of X G xi;have eC:mg "isinstance"=none:=W.mg_none_of X G k7;have kT:mg "len"=none:=W.mg_none_of X G xj;have vH:mg "max"=none:=W.mg_none_of X G wz;have oO:mg "range"=none:=W.mg_none_of X G sY;have xg:mg "set"=none:=W.mg_none_of X G wq;have qP:mg "sorted"=none:=W.mg_none_of X G qw;have oJ:mg "str"=none:=W.mg_none_of X G xh;have oU:mg "tuple"=none:=W.mg_none_of X G sd;obtain⟨_,_,kV,dc,pm,an,cd,ct,_,rfl,_⟩:=id ap.ex;refine⟨W.fnOf "law" "law" (er kB) (c8 kB) (aj kB) .none kV dc pm an cd ct,λs v=>.of_eq rfl,λbase _ _=>?_⟩;have c:Tg l.prog w mg base:=trivial;have dF:=iP c c6;have ex:=fQ c (dF.mono (by decide)) dx oi lJ bW db;have ey:=mM c ra tJ eC dd;have ez:=nr c (ey.mono (by decide)) dy we de;have dK:=k6 c dx (dF.mono (by decide)) (ex.mono (by decide)) ev (ez.mono (by decide)) dz av aE aF aG aW aV dS fO fM dt dC dB dh;have dL:=lV c di;have bt:=jz c dl;have bv:=gQ c dm;have bz:=jA c dn;have eG:=k5 c av aE aF aG aW aV (bt.mono (by decide)) a1 (bv.mono (by decide)) a2 (bz.mono (by decide)) a3 ay aH aI ds;have dM:=jH c N;have dN:=kq c av aE aF aG aW aV (bt.mono (by decide)) a1 (bv.mono (by decide)) a2 (bz.mono (by decide)) a3 ay aH aI (dL.mono (by decide)) dA (dM.mono (by decide)) a4 oJ aM aS aT O;have dO:=rV c xg qP P;have i:=j0 c tJ vO kT fK fN fG cc cm cj Q;have aY:=lY c (i.mono (by decide)) f c9 cZ cY R;have aZ:=kn c (i.mono (by decide)) f S;have dR:=lA c (i.mono (by decide)) f T;have dT:=lW c kT f (i.mono (by decide)) (aY.mono (by decide)) j (aZ.mono (by decide)) k U;have dV:=ku c kT (aY.mono (by decide)) j (aZ.mono (by decide)) k V;have dW:=j3 c (dO.mono (by decide)) a5 (dV.mono (by decide)) be oU Y;have dX:=mf c eC dt dC dB oJ kT (dK.mono (by decide)) as (dR.mono (by decide)) ba (dT.mono (by decide)) bd (dW.mono (by decide)) bh Z;have dZ:=jB c kT ab;have a0:=l0 c ac;have d0:=lU c ad;have d1:=jO c oU (a0.mono (by decide)) m oO ag;have d2:=ko c m (a0.mono (by decide)) (d0.mono (by decide)) bm (d1.mono (by decide)) bn al;have d3:=kX c oJ am;exact uL c ra eC av aE aF aG aW aV a1 a2 a3 ay aH aI dA oJ aM aS aT kT as oO (dK.mono (by decide)) (dL.mono (by decide)) (bt.mono (by decide)) (bv.mono (by decide)) (bz.mono (by decide)) (eG.mono (by decide)) ew (dN.mono (by decide)) dD (dX.mono (by decide)) bi (dZ.mono (by decide)) bl (d2.mono (by decide)) bo (d3.mono (by decide)) br vH bj bO bD cg bC ck ap
theorem x4{l:CK}{q:Yx}{b:List Yh}{i:(Yh->Option Yd)->YC->Prop}{e:YA->YC->Prop}{d:DefRec}{K:Params->Yc}(hn:l.most=Ya 63)(c:d.params.defaults=[])
  (j:∀(w:YA) (h:YC),e w h->(K w.params).In h)
  (F:∀(w:YA) (mg:Yh->Option Yd) (g:Ye) (h:YC),(K w.params).In h->h.Ns Yz mg->mg d.name=Ya (.ref g)->
   ∃fd:Yu,(∀(s:Yg) (u:Yd),Bo s fd ⟨[u],[]⟩ [("_law_script",u)])/\∀base:YC,(K w.params).In base->base.Ns Yz mg->az l.prog w (K w.params) mg base bN 6 g fd ["_law_script"] (lK (K w.params))):
  De q b i e l.row.toRowW d [] (λf vs=>PySem.call f vs):=
 L2.sM (n:=63) (k:=6) (x:="_law_script") (CX:=λ_=>bN) (sp:=λw=>lK (K w.params)) hn (by decide) c ⟨rfl,by decide,by decide⟩ j F (λ_ _ a ns m _ o=>⟨a,ns,rfl,o,m,λ_=>rfl⟩) λ_ _ _ _ _ z=>z
end K13
end
section
open Lean in
local macro_rules | `(#synth $f $k*) => return mkNullNode (← k.mapM λi => `(def $(mkIdent (.mkSimple s!"tw{(`PySem.Challenge.cw_groupcall_k13_calls_shown_holds ++ .mkSimple s!"{f.raw.getId}_{i.raw.toNat}").hash}")) := Nat))
namespace PySem.W.Fast
#synth heap 39 46 417
#synth tree 47 70 85 100 135 212 241 270 318 409 416
#synth view 39
#synth sts 49 71 86 101 136 213 242 271 319 410
#synth o 43 45 46 49 51 53 54 55 56 57 58 59 60 61 63 64 65 66 67 68 69 70 71 73 74 75 76 77 79 80 81 82 83 84 85 86 88 89 90 91 92 94 95 96 97 98 99 100 101 103 104 105 106 107 109 110 111 112 113 114 115 116 118 119 120 121 122 123 125 126 127 128 129 130 131 133 134 135 136 138 139 140 141 143 144 145 147 148 149 150 151 152 154 155 156 157 158 159 161 162 163 164 165 166 168 169 170 171 172 173 175 176 177 178 179 180 182 183 184 185 186 187 189 190 191 192 193 194 196 197 198 199 200 201 203 204 205 206 207 208 209 210 211 212 213 215 216 217 218 219 221 222 223 225 226 227 228 229 230 232 233 234 235 236 237 238 239 240 241 242 244 245 246 247 248 250 251 252 254 255 256 257 258 259 261 262 263 264 265 266 267 268 269 270 271 273 274 275 276 277 279 280 281 283 284 285 286 287 288 290 291 292 293 294 295 296 297 298 299 300 302 303 304 305 306 307 309 310 311 312 313 314 316 317 318 319 321 323 324 325 326 327 328 330 331 332 333 334 335 337 338 339 340 341 342 344 345 346 347 348 349 351 352 353 354 355 356 358 359 360 361 363 364 365 366 367 368 370 371 372 373 374 375 377 378 379 380 381 382 384 385 386 387 388 389 391 392 393 394 395 396 398 399 400 401 402 403 405 406 407 408 409 410 412 414 415 416
#synth env 41
def tw6637991171346296777:=Nat
end PySem.W.Fast
end
open PySem PySem.W PyProof.Rows
set_option maxRecDepth 100000 in
set_option maxHeartbeats 0 in
theorem PySem.Challenge.cw_groupcall_k13_calls_shown_holds : PySem.Challenge.rw_groupcall_k13_calls_shown.Holds := by
 w_on;o_law;k_head;(case hw=>w_witness2)
 k_fill
 refine K13.x4 (l:=PySem.Challenge.rw_groupcall_k13_calls_shown) rfl rfl (λw h Y=>PySem.W.kIn_of Y) ?F
 case F=>
  intro w mg fa h KX G hmg;refine' K13.uh KX G hmg ?h0 ?h1 ?h2 ?h3 ?h4 ?h5 ?h6 ?h7 ?h8 ?h9 ?h10 ?h11 ?h12 ?h13 ?h14 ?h15 ?h16 ?h17 ?h18 ?h19 ?h20 ?h21 ?h22 ?h23 ?h24 ?h25 ?h26 ?h27 ?h28 ?h29 ?h30 ?h31 ?h32 ?h33 ?h34 ?h35 ?h36 ?h37 ?h38 ?h39 ?h40 ?h41 ?h42 ?h43 ?h44 ?h45 ?h46 ?h47 ?h48 ?h49 ?h50 ?h51 ?h52 ?h53 ?h54 ?h55 ?h56 ?h57 ?h58 ?h59 ?h60 ?h61 ?h62 ?h63 ?h64 ?h65 ?h66 ?h67 ?h68 ?h69 ?h70 ?h71 ?h72 ?h73 ?h74 ?h75 ?h76 ?h77 ?h78 ?h79 ?h80 ?h81 ?h82 ?h83 ?h84 ?h85 ?h86 ?h87 ?h88
  (case h0|h1|h2|h3|h4|h5|h6|h7|h8|h9|h10|h11|h12|h13|h14|h15|h16|h17|h18|h19|h20|h21|h22|h23=>show _=_;k_is)
  (case h24|h25|h26|h27|h28|h29|h30|h31|h32|h33|h34|h35|h36|h37|h38|h39=>first|k_is|rfl|decide)
  (case h40|h41|h42|h43|h44|h45|h46|h47|h48|h49|h50|h51|h52|h53|h54=>constructor<;>k_is)
  (case h55=>constructor<;>first|k_is|rfl)
  (case h56|h57|h58|h59|h60|h61|h62|h63|h64|h65|h66|h67|h68|h69|h70|h71|h72|h73|h74|h75|h76|h77|h78|h79|h80|h81|h82|h83=>exact L2.uB (by k_is) (by k_is) (by k_is))
  (case h84|h85|h86|h87=>constructor;(constructor<;>k_is);all_goals(show _=_;k_is))
  (case h88=>first|k_is|rfl|decide)
