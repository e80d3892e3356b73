import PyProof.Rows.All
import Wide.All
import OpenK.AllK
import Wide.FinOn
import Lean
import PyProof.EqAt
import PyProof.EqKinds
import PyProof.TupleCall
import PyProof.AttrMissHeap
import KE.KSortTup
import KE.KDictList
import KE.KNest
import KE.KNestM
import OpenK.KRaise
import KE.KIsAll
import KE.KMatchCls
import PyProof.ExcAttrAll.ValueError
import PyProof.Rows.Range3
import PyProof.ZipIter
import PyProof.Rows.FactsT2
import PyProof.Rows.ZipGen
import KE.KItemsList
import PyProof.TupleKey
import PyProof.DictFindH
import PyProof.EnumMake
import PyProof.EnumStmt
import Wide.Seal
import PySem.Challenge.RW_groupcall_k81_whole_judged
set_option Elab.async false
set_option linter.all false
set_option maxRecDepth 100000
set_option maxHeartbeats 16000000
namespace L2
open PySem PySem.Spec PyProof.Rows
abbrev cU:=Sum Int Str
def iA:cU->Value->Bool
 | .inl k,v=>Value.isInt k v
 | .inr x,v=>Value.isStrOf x v
def Jg (w:World):cU->Int
 | .inl k=>hashInt k
 | .inr x=>hashStr w x
theorem bT:∀ {k:cU} {v:Value},iA k v=true->(∃ i t,k=Sum.inl i/\v=Value.int i t)∨(∃ x t,k=Sum.inr x/\v=Value.str x t)
 | .inl i,v,h=>by
  obtain ⟨t,e⟩:=Value.isInt_shape (k:=i) (v:=v) h
  exact .inl ⟨i,t,rfl,e⟩
 | .inr x,v,h=>by
  obtain ⟨t,e⟩:=Value.isStrOf_shape (x:=x) (v:=v) h
  exact .inr ⟨x,t,rfl,e⟩
theorem zU (i:Int) (t:Tok):iA (.inl i) (.int i t)=true:=by simp [iA,Value.isInt]
theorem zW (x:Str) (t:Tok):iA (.inr x) (.str x t)=true:=by simp [iA,Value.isStrOf]
theorem EX (a b:Int):decide ((Sum.inl a:cU)=Sum.inl b)=(a == b):=by
 by_cases e:a=b
 ·subst e; simp
 ·have h:¬ (Sum.inl a:cU)=Sum.inl b:=fun q=>e (Sum.inl.inj q)
  rw [decide_eq_false h]
  exact (beq_eq_false_iff_ne.mpr e).symm
theorem GH (a b:Str):decide ((Sum.inr a:cU)=Sum.inr b)=decide (a=b):=by
 by_cases e:a=b
 ·subst e; simp
 ·have h:¬ (Sum.inr a:cU)=Sum.inr b:=fun q=>e (Sum.inr.inj q)
  rw [decide_eq_false h,decide_eq_false e]
theorem Gf (a:Int) (b:Str):decide ((Sum.inl a:cU)=Sum.inr b)=false:=decide_eq_false (fun q=>nomatch q)
theorem EG (a:Str) (b:Int):decide ((Sum.inr a:cU)=Sum.inl b)=false:=decide_eq_false (fun q=>nomatch q)
def bB (prog:Program) (w:World):PySem.KeyKind prog w cU where
 is:=iA
 hash:=Jg w
 inj:=fun v a b ha hb=>by
  rcases bT ha with ⟨i,t,rfl,rfl⟩ | ⟨x,t,rfl,rfl⟩
  ·rcases bT hb with ⟨j,u,rfl,e⟩ | ⟨y,u,rfl,e⟩
   ·injection e with e1 _; rw [e1]
   ·exact nomatch e
  ·rcases bT hb with ⟨j,u,rfl,e⟩ | ⟨y,u,rfl,e⟩
   ·exact nomatch e
   ·injection e with e1 _; rw [e1]
 byValue:=fun k v h=>by
  rcases bT h with ⟨i,t,rfl,rfl⟩ | ⟨x,t,rfl,rfl⟩ <;> rfl
 pyHash:=fun hv h=>by
  rcases bT hv with ⟨i,t,rfl,rfl⟩ | ⟨x,t,rfl,rfl⟩
  ·exact wpAny_pyHash_int h
  ·exact wpAny_pyHash_str h
 eqBool:=fun hu hv h=>by
  rcases bT hu with ⟨i,t,rfl,rfl⟩ | ⟨x,t,rfl,rfl⟩
  ·rcases bT hv with ⟨j,u,rfl,rfl⟩ | ⟨y,u,rfl,rfl⟩
   ·rw [EX] at h; exact wpAny_eqBool_int h
   ·rw [Gf] at h; exact SeqAt.EqAt.int_str i t y u _ _ _ _ h
  ·rcases bT hv with ⟨j,u,rfl,rfl⟩ | ⟨y,u,rfl,rfl⟩
   ·rw [EG] at h; exact SeqAt.EqAt.str_int x t j u _ _ _ _ h
   ·rw [GH] at h; exact wpAny_eqBool_str h
 «strs»:=fun k x t v h=>by
  rcases bT h with ⟨i,u,rfl,e⟩ | ⟨y,u,rfl,e⟩
  ·exact nomatch e
  ·injection e with e1 _
   subst e1
   cases v <;> rfl
theorem kO (prog:Program) (w:World) (i:Int) (t:Tok):(bB prog w).is (.inl i) (.int i t)=true:=zU i t
theorem wO (prog:Program) (w:World) (x:Str) (t:Tok):(bB prog w).is (.inr x) (.str x t)=true:=zW x t
end L2
namespace L2
open PySem PySem.Spec PyProof.Rows
inductive V where
 | non | bl (b:Bool) | int (i:Int) | str (x:Str) | byt (b:Array UInt8) | flt (b:UInt64) | ref (a:Addr) | ty (n:String)
 deriving DecidableEq
def RelV:V->Value->Prop
 | .non,u=>u=Value.none
 | .bl b,u=>u=Value.bool b
 | .int i,u=>∃ t,u=Value.int i t
 | .str x,u=>∃ t,u=Value.str x t
 | .byt b,u=>∃ t,u=Value.bytes b t
 | .flt b,u=>∃ t,u=Value.float b t
 | .ref a,u=>u=Value.ref a
 | .ty n,u=>u=Value.type n
abbrev Vals:List V->List Value->Prop:=Paired RelV
theorem Vals.length {xs:List V} {us:List Value} (r:Vals xs us):xs.length=us.length:=Paired.length r
theorem Vals.get:∀ {xs:List V} {us:List Value} {i:Nat} {x:V},Vals xs us->xs[i]?=some x->∃ u,us[i]?=some u/\RelV x u
 | _,_,_,_,.nil,e=>by simp at e
 | _,_,0,_,.cons r _,e=>by simp at e; subst e; exact ⟨_,rfl,r⟩
 | _,_,i + 1,x,.cons _ t,e=>by
  obtain ⟨u,h1,h2⟩:=Vals.get (i:=i) (x:=x) t (by simpa using e)
  exact ⟨u,by simpa using h1,h2⟩
theorem Vals.set {x:V} {u:Value} (r:RelV x u):∀ {xs:List V} {us:List Value} (i:Nat),Vals xs us->Vals (xs.set i x) (us.set i u)
 | _,_,_,.nil=>.nil
 | _,_,0,.cons _ t=>.cons r t
 | _,_,i + 1,.cons q t=>.cons q (Vals.set r i t)
theorem Vals.append:∀ {xs ys:List V} {us ws:List Value},Vals xs us->Vals ys ws->Vals (xs ++ ys) (us ++ ws)
 | _,_,_,_,.nil,s=>s
 | _,_,_,_,.cons r t,s=>.cons r (Vals.append t s)
theorem Vals.take:∀ {xs:List V} {us:List Value} (n:Nat),Vals xs us->Vals (xs.take n) (us.take n)
 | _,_,0,_=>.nil
 | _,_,_ + 1,.nil=>.nil
 | _,_,n + 1,.cons r t=>.cons r (Vals.take n t)
theorem Vals.drop:∀ {xs:List V} {us:List Value} (n:Nat),Vals xs us->Vals (xs.drop n) (us.drop n)
 | _,_,0,r=>r
 | _,_,_ + 1,.nil=>.nil
 | _,_,n + 1,.cons _ t=>Vals.drop n t
def fZ:Option V->Option Value->Prop
 | some v,some u=>RelV v u
 | none,none=>True
 | _,_=>False
def KV {κ:Type}:List (κ×V)->List (κ×Value)->Prop:=Paired fun (p:κ×V) (q:κ×Value)=>p.1=q.1/\RelV p.2 q.2
def kV:cU->V
 | .inl i=>.int i
 | .inr x=>.str x
inductive HO where
 | lst (xs:List V)
 | tup (xs:List V)
 | dK (kvs:List (cU×V)) | dT (kvs:List (List cU×V))
 | set (S:Int->Bool) (n:Nat)
 | ins (C dx:Addr) (fs:List (Str×V))
 | own (x:Addr)
 | xd (fs:List (Str×V))
 | met (f x:Addr)
 | rng (lo hi:Int)
 | frz (o:Obj) (u:HO)
 | tbl (ps:Array Value)
 | ext (φ:Heap->Prop)
abbrev Hp:=Addr->Option HO
def upd (H:Hp) (a:Addr) (o:HO):Hp:=fun b=>if b=a then some o else H b
theorem au {H:Hp} {a:Addr} {o:HO}:upd H a o a=some o:=by unfold upd; rw [if_pos rfl]
theorem aG {H:Hp} {a b:Addr} {o:HO} (h:b≠a):upd H a o b=H b:=by unfold upd; rw [if_neg h]
theorem bK {H:Hp} {a b:Addr} {o u:HO} (h:H a=some o) (h':H b=some u) (d:o≠u):a≠b:=by
 intro e; subst e; rw [h] at h'; exact d (Option.some.inj h')
theorem aI {H:Hp} {a b:Addr} {o:HO} (h:H a=some o) (h':H b=none):a≠b:=by
 intro e; subst e; rw [h] at h'; cases h'
def jM (h:Heap) (a:Addr) (items:Array Value):Prop:=∃ o,h.get? a=some o/\o.cls=.type "tuple"/\∃ n,o.data=.seq items n/\o.dict=none/\o.slots=#[]
theorem jM.tup {h:Heap} {a:Addr} {items:Array Value} (x:jM h a items):IsTup h a items:=let ⟨o,e,c,n,d,_⟩:=x; ⟨o,e,c,n,d⟩
theorem jM.lt {h:Heap} {a:Addr} {items:Array Value} (x:jM h a items):a < h.objs.size:=x.tup.lt
theorem jM.new (h:Heap) (items:Array Value):jM (h.push { cls:=.type "tuple",data:=.seq items }) h.objs.size items:=⟨_,Heap.get?_push_size _ rfl,rfl,_,rfl,rfl,rfl⟩
section
variable (P:Program) (w:World)
def cL (H:Hp) (h:Heap) (a:Addr):HO->Prop
 | .lst xs=>xs.length<=sizeLine/\∃ (its:List Value) (n:Nat),Vals xs its/\h.get? a=some { cls:=.type "list",data:=.seq its.toArray n }
 | .tup xs=>xs.length<=sizeLine/\∃ its:List Value,Vals xs its/\jM h a its.toArray
 | .dK kvs=>kvs.length<=sizeLine/\(a == sysModules)=false/\∃ vs,KV kvs vs/\h.DictOf (bB P w) a vs
 | .dT kvs=>kvs.length<=sizeLine/\(a == sysModules)=false/\∃ xs:List (List cU×Addr×Value),
   Paired (fun (p:List cU×V) (q:List cU×Addr×Value)=>p.1=q.1/\H q.2.1=some (.tup (p.1.map kV))/\RelV p.2 q.2.2) kvs xs /\
   ∃ o es ep,h.get? a=some o/\o.ExactDict/\o.data=.dict es ep/\es.toList=xs.map (entryOfKey (tupleKind (bB P w)))/\(xs.map (·.1)).Nodup
 | .set S n=>h.SetOf (intKind P w) a S n
 | .ins C dx fs=>H dx=some (.own a)/\fs.length<=1000/\dx≠a/\h.get? a=some (PySem.W.instObj C dx) /\
   ∃ mA,h.Ns1 dx mA/\(∀ f,fZ (fs.lookup f) (mA f))/\PySem.Within mA (fs.map (·.1))
 | .own _=>∃ o,h.get? a=some o
 | .xd fs=>∃ mA,h.Ns1 a mA/\∀ f,fZ (fs.lookup f) (mA f)
 | .rng lo hi=>∃ t u v,h.get? a=some { cls:=.type "range",data:=.fields #[.int lo t,.int hi u,.int 1 v] }
 | .frz o u=>h.get? a=some o/\cL H h a u
 | .tbl ps=>h.get? a=some { cls:=.none,data:=.fields ps }
 | .met f x=>h.get? a=some (PySem.W.methodObj (.ref f) (.ref x))
 | .ext φ=>φ h/\(∃ o,h.get? a=some o)/\∀ h1 h2:Heap,φ h1->(∀ o,h1.get? a=some o->h2.get? a=some o)->φ h2
def k7 (H:Hp) (h:Heap):Prop:=∀ a o,H a=some o->cL P w H h a o
end
section
variable {P:Program} {w:World} {H H':Hp} {h h':Heap} {a:Addr} {o:HO}
theorem cL.lt (x:cL P w H h a o):a < h.objs.size:=by
 cases o with
 | lst xs=>obtain ⟨_,_,_,_,e⟩:=x; exact Heap.lt_size e
 | tup xs=>obtain ⟨_,_,_,p⟩:=x; exact p.lt
 | dK kvs=>obtain ⟨_,_,_,_,o,_,_,e,_⟩:=x; exact Heap.lt_size e
 | dT kvs=>obtain ⟨_,_,_,_,o,_,_,e,_⟩:=x; exact Heap.lt_size e
 | set S n=>obtain ⟨o,_,_,_,e,_⟩:=x; exact Heap.lt_size e
 | ins C dx fs=>obtain ⟨_,_,_,e,_⟩:=x; exact Heap.lt_size e
 | own y=>obtain ⟨_,e⟩:=x; exact Heap.lt_size e
 | xd fs=>obtain ⟨_,⟨_,_,_,e,_⟩,_⟩:=x; exact Heap.lt_size e
 | rng lo hi=>obtain ⟨_,_,_,e⟩:=x; exact Heap.lt_size e
 | frz ob u=>obtain ⟨e,_⟩:=x; exact Heap.lt_size e
 | tbl ps=>exact Heap.lt_size (show h.get? a=some _ from x)
 | met f y=>exact Heap.lt_size (show h.get? a=some _ from x)
 | ext φ=>obtain ⟨_,⟨_,e⟩,_⟩:=x; exact Heap.lt_size e
theorem Paired.mapP {α β:Type} {F G:α->β->Prop}:∀ {l₁:List α} {l₂:List β},Paired F l₁ l₂->(∀ a b,F a b->G a b)->Paired G l₁ l₂
 | _,_,.nil,_=>.nil
 | _,_,.cons r t,f=>.cons (f _ _ r) (Paired.mapP t f)
theorem cL.stay (x:cL P w H h a o) (k:∀ b u,(b=a∨H b=some (.own a))->h.get? b=some u->h'.get? b=some u)
  (ho:∀ b,H b=some (.own a)->H' b=some (.own a)) (ht:∀ b xs,H b=some (.tup xs)->H' b=some (.tup xs)):cL P w H' h' a o:=by
 induction o with
 | lst xs=>obtain ⟨z,its,n,r,e⟩:=x; exact ⟨z,its,n,r,k _ _ (.inl rfl) e⟩
 | tup xs=>obtain ⟨z,its,r,ob,e,c⟩:=x; exact ⟨z,its,r,ob,k _ _ (.inl rfl) e,c⟩
 | dK kvs=>obtain ⟨z,y,vs,r,ob,es,ep,e,c⟩:=x; exact ⟨z,y,vs,r,ob,es,ep,k _ _ (.inl rfl) e,c⟩
 | dT kvs =>
  obtain ⟨z,y,xs,r,ob,es,ep,e,c⟩:=x
  exact ⟨z,y,xs,Paired.mapP r fun p q z=>⟨z.1,ht _ _ z.2.1,z.2.2⟩,ob,es,ep,k _ _ (.inl rfl) e,c⟩
 | set S n=>obtain ⟨ob,es,ep,t,e,c⟩:=x; exact ⟨ob,es,ep,t,k _ _ (.inl rfl) e,c⟩
 | ins C dx fs =>
  obtain ⟨d,z,ne,e,mA,⟨od,es,ep,e2,c⟩,r⟩:=x
  exact ⟨ho _ d,z,ne,k _ _ (.inl rfl) e,mA,⟨od,es,ep,k _ _ (.inr d) e2,c⟩,r⟩
 | own y=>obtain ⟨ob,e⟩:=x; exact ⟨ob,k _ _ (.inl rfl) e⟩
 | xd fs=>obtain ⟨mA,⟨od,es,ep,e,c⟩,r⟩:=x; exact ⟨mA,⟨od,es,ep,k _ _ (.inl rfl) e,c⟩,r⟩
 | rng lo hi=>obtain ⟨t,u,v,e⟩:=x; exact ⟨t,u,v,k _ _ (.inl rfl) e⟩
 | frz ob u ih=>obtain ⟨e,q⟩:=x; exact ⟨k _ _ (.inl rfl) e,ih q⟩
 | tbl ps =>
  have e:h.get? a=some { cls:=.none,data:=.fields ps }:=x
  show h'.get? a=some { cls:=.none,data:=.fields ps }
  exact k a _ (.inl rfl) e
 | met f y =>
  have e:h.get? a=some (PySem.W.methodObj (.ref f) (.ref y)):=x
  show h'.get? a=some (PySem.W.methodObj (.ref f) (.ref y))
  exact k a _ (.inl rfl) e
 | ext φ=>obtain ⟨p,⟨o,e⟩,st⟩:=x; exact ⟨st _ _ p fun o q=>k _ _ (.inl rfl) q,⟨o,k _ _ (.inl rfl) e⟩,st⟩
theorem k7.lt (x:k7 P w H h) (e:H a=some o):a < h.objs.size:=(x a o e).lt
theorem k7.fresh (x:k7 P w H h) (e:h.objs.size<=a):H a=none:=by
 cases q:H a with
 | none=>rfl
 | some u=>exact absurd (Nat.lt_of_lt_of_le (x.lt q) e) (Nat.lt_irrefl _)
theorem k7.kept (x:k7 P w H h) (k:∀ b u,h.get? b=some u->h'.get? b=some u):k7 P w H h':=fun a o e =>
 (x a o e).stay (fun b u _ q=>k b u q) (fun _ q=>q) fun _ _ q=>q
theorem k7.laid (x:k7 P w H h) (k:∀ b u,h.get? b=some u->h'.get? b=some u) (hp:h.objs.size<=a) (new:cL P w (upd H a o) h' a o):k7 P w (upd H a o) h':=fun b u e=>by
 have hn:=x.fresh hp
 by_cases hb:b=a
 ·subst hb; rw [au] at e; cases e; exact new
 ·rw [aG hb] at e
  exact (x b u e).stay (fun c v _ q=>k c v q) (fun c q=>by rw [aG (aI q hn)]; exact q) fun c xs q=>by rw [aG (aI q hn)]; exact q
end
def Rd (H:Hp) (a:Addr) (u:HO):Prop:=H a=some u∨∃ o,H a=some (.frz o u)
theorem Rd.ok {P:Program} {w:World} {H:Hp} {h:Heap} {a:Addr} {u:HO} (r:Rd H a u) (x:k7 P w H h):cL P w H h a u:=by
 rcases r with r | ⟨o,r⟩
 ·exact x a u r
 ·obtain ⟨_,q⟩:=x a _ r
  exact q
def IF:Option HO->Prop
 | some (.lst _)=>True
 | some (.dK _)=>True
 | some (.dT _)=>True
 | some (.set _ _)=>True
 | some (.ins _ _ _)=>True
 | some (.ext _)=>True
 | _=>False
section
variable {P:Program} {w:World} {H:Hp} {h h':Heap} {x e:Addr} {o':HO}
theorem k7.write (ok:k7 P w H h) (mu:IF (H x)) (he:e=x∨H e=some (.own x)) (k:∀ b u,b≠e->h.get? b=some u->h'.get? b=some u) (heo:∃ u,h'.get? e=some u)
  (new:cL P w (upd H x o') h' x o'):k7 P w (upd H x o') h':=fun b u q=>by
 have nown:∀ c y,H c=some (.own y)->c≠x:=fun c y r z=>by subst z; rw [r] at mu; exact mu
 have ntup:∀ c xs,H c=some (.tup xs)->c≠x:=fun c xs r z=>by subst z; rw [r] at mu; exact mu
 by_cases hb:b=x
 ·subst hb; rw [au] at q; cases q; exact new
 ·rw [aG hb] at q
  by_cases hbe:b=e
  ·have q':H b=some (.own x):=by
    rcases he with z | z
    ·exact absurd (hbe.trans z) hb
    ·rw [hbe]; exact z
   rw [q] at q'; cases q'
   obtain ⟨v,hv⟩:=heo
   exact ⟨v,by rw [hbe]; exact hv⟩
  ·refine (ok b u q).stay (fun c v hc r=>k c v ?_ r) (fun c r=>by rw [aG (nown c b r)]; exact r) fun c xs r=>by rw [aG (ntup c xs r)]; exact r
   rcases hc with rfl | hc
   ·exact hbe
   ·rintro rfl
    rcases he with z | z
    ·exact nown c b hc z
    ·rw [hc] at z; cases z; exact hb rfl
end
structure Un (fs ex:List Addr) (H H':Hp) (h h':Heap):Prop where
 keep:∀ b o,h.get? b=some o->H b=none->b∉fs->b∉ex->h'.get? b=some o
 slot:∀ b o,h.get? b=some o->H b=none->b∈fs->b∉ex->∃ sl,h'.get? b=some { o with slots:=sl }
 free:∀ b o,h.get? b=some o->H b=none->b∉ex->H' b=none
 there:∀ b o,h.get? b=some o->b∉ex->∃ o',h'.get? b=some o'
 tups:∀ b xs,H b=some (.tup xs)->H' b=some (.tup xs)
 frzs:∀ b o u,H b=some (.frz o u)->H' b=some (.frz o u)
 tbls:∀ b ps,H b=some (.tbl ps)->∃ more,H' b=some (.tbl (ps ++ more))
section
variable {fs fs' ex ex':List Addr} {H H1 H2:Hp} {h h1 h2 h':Heap} {a x e:Addr} {o:HO}
theorem Un.any (u:Un fs ex H H1 h h1) {b:Addr} {ob:Obj} (q:h.get? b=some ob) (n:H b=none) (hx:b∉ex):∃ sl,h1.get? b=some { ob with slots:=sl }:=by
 by_cases hb:b∈fs
 ·exact u.slot b ob q n hb hx
 ·exact ⟨ob.slots,u.keep b ob q n hb hx⟩
theorem Un.kept (k:∀ b u,h.get? b=some u->h'.get? b=some u):Un fs ex H H h h' :=
 ⟨fun b ob q _ _ _=>k b ob q,fun b ob q _ _ _=>⟨ob.slots,k b ob q⟩,fun _ _ _ n _=>n,fun b ob q _=>⟨ob,k b ob q⟩,fun _ _ q=>q,fun _ _ _ q=>q,fun _ ps q=>⟨#[],by rw [q]; simp⟩⟩
theorem Un.refl:Un fs ex H H h h:=Un.kept fun _ _ q=>q
theorem Un.laid (k:∀ b u,h.get? b=some u->h'.get? b=some u) (hp:h.objs.size<=a) (hn:H a=none):Un fs ex H (upd H a o) h h' where
 keep:=fun b u q _ _ _=>k b u q
 slot:=fun b u q _ _ _=>⟨u.slots,k b u q⟩
 free:=fun b u q n _=>by rw [aG (Nat.ne_of_lt (Nat.lt_of_lt_of_le (Heap.lt_size q) hp))]; exact n
 there:=fun b u q _=>⟨u,k b u q⟩
 tups:=fun b xs q=>by rw [aG (aI q hn)]; exact q
 frzs:=fun b u xs q=>by rw [aG (aI q hn)]; exact q
 tbls:=fun b ps q=>⟨#[],by rw [aG (aI q hn),q]; simp⟩
theorem Un.write (mu:IF (H x)) (he:e=x∨H e=some (.own x)) (k:∀ b u,b≠e->h.get? b=some u->h'.get? b=some u) (heo:∃ u,h'.get? e=some u):Un fs ex H (upd H x o) h h':=by
 have hx:∀ b,H b=none->b≠x:=fun b n z=>by subst z; rw [n] at mu; exact mu
 have hb:∀ b,H b=none->b≠e:=fun b n z=>by
  subst z
  rcases he with r | r
  ·exact hx b n r
  ·rw [n] at r; cases r
 have hm:∀ b u,H b=some u->¬ IF (some u)->b≠x:=fun b u q nm z=>by subst z; rw [q] at mu; exact nm mu
 refine ⟨fun b u q n _ _=>k b u (hb b n) q,fun b u q n _ _=>⟨u.slots,k b u (hb b n) q⟩,fun b u q n _=>by rw [aG (hx b n)]; exact n,fun b u q _=>?_,
  fun b xs q=>by rw [aG (hm b _ q fun z=>z)]; exact q,fun b u xs q=>by rw [aG (hm b _ q fun z=>z)]; exact q,fun b ps q=>⟨#[],by rw [aG (hm b _ q fun z=>z),q]; simp⟩⟩
 by_cases hbe:b=e
 ·subst hbe; exact heo
 ·exact ⟨u,k b u hbe q⟩
end
def IL (h:Heap) (H:Hp):List Addr:=(List.range h.objs.size).filter fun a=>(H a).isSome
def uW (h:Heap) (H:Hp):Heap:=PySem.W.hideAll h (IL h H)
theorem Ab (h:Heap) (H:Hp):(uW h H).objs.size=h.objs.size:=PySem.W.hideAll_size _ _
theorem Ax {h:Heap} {H:Hp} {b:Addr} {o:Obj} (e:h.get? b=some o) (n:H b=none):(uW h H).get? b=some o :=
 PySem.W.hideAll_get _ e fun hm=>by
  have q:(H b).isSome=true:=(List.mem_filter.mp hm).2
  rw [n] at q; simp at q
theorem CB {h:Heap} {H:Hp} {b:Addr} {o:Obj} (e:(uW h H).get? b=some o):h.get? b=some o/\H b=none:=by
 have e':h.get? b=some o:=PySem.W.of_hideAll (IL h H) e
 refine ⟨e',?_⟩
 cases q:H b with
 | none=>rfl
 | some x =>
  have hm:b∈IL h H:=List.mem_filter.mpr ⟨List.mem_range.mpr (Heap.lt_size e'),by simp [q]⟩
  have z:(uW h H).get? b=none:=PySem.W.hideAll_none (IL h H) hm
  rw [z] at e; cases e
end L2
namespace L2
open PySem PySem.Spec PyProof.Rows
structure Mod (K:PySem.W.Frag) (mg:Str->Option Value) (base:Heap):Prop where
 kin:K.In base
 glob:base.Ns mainGlobals mg
 blt:∃ mb,base.Ns builtinsNs mb/\∀ x:Str,x≠"__name__"->mb x=bootBuiltins x
 nolimit:base.NoLimit
structure Cx where
 prog:Program
 w:World
 K:PySem.W.Frag
 mg:Str->Option Value
 base:Heap
 A:Around
 N:List Str
 s₀:Shared
 H₀:Hp
 env:Env
 outer:List Env
 stack:List Env
 ex:List Addr
 fn:Str->Bool
 calm:Bool
 pn:List (Addr×Obj)
 xe:Value->Shared->Prop
def Bv (l:List Env):List Addr:=l.filterMap (·.frame)
abbrev Cx.fs (X:Cx):List Addr:=Bv X.outer
def Jp (sc:Scope) (x:Str):Prop:=sc.names.lookup x=some .local∨sc.names.lookup x=some .cell∨sc.names.lookup x=some .free
def GO (sc:Scope) (x:Str):Prop:=sc.names.lookup x=some .local∨sc.names.lookup x=some .cell
def Jj (env:Env) (h:Heap) (m:Str->Option Value) (x:Str) (u:Value):Prop :=
 (env.kindOf x=some .local/\m x=some u)∨((env.kindOf x=some .cell∨env.kindOf x=some .free)/\∃ c,env.cells.lookup x=some c/\h.IsCell c (some u))
structure Cx.Ok (X:Cx):Prop where
 mod:Mod X.K X.mg X.base
 kind:X.env.scope.kind=.function
 glob:X.env.globals=mainGlobals
 blt:X.env.builtins=builtinsNs
 above:X.s₀.heap.objs.size<=X.env.locals
 inj:∀ x y c,X.env.cells.lookup x=some c->X.env.cells.lookup y=some c->x=y
 has:∀ x,(X.env.kindOf x=some .cell∨X.env.kindOf x=some .free)->∃ c,X.env.cells.lookup x=some c
 cab:∀ x c,X.fn x=true->X.env.cells.lookup x=some c->X.s₀.heap.objs.size<=c
 hd:X.calm=true->X.A.handled=none
 frames:X.A.frames=some X.stack
 stk:X.stack=X.outer∨(X.stack=X.env :: X.outer/\X.env.frame=some X.env.locals)
 exf:∀ b∈X.ex,b≠X.env.locals/\∀ x c,X.env.cells.lookup x=some c->c≠b
 bs:∀ b o,X.base.get? b=some o->X.s₀.heap.get? b=some o/\X.H₀ b=none
 bsz:X.base.objs.size<=X.s₀.heap.objs.size
 noex:∀ b o,X.base.get? b=some o->b∉X.ex
 exfs:∀ b∈X.ex,b∉X.fs
 funs:X.s₀.heap.FunFrames X.base X.outer
 frf:∀ b∈X.fs,X.H₀ b=none
structure aV (X:Cx) (pins:List (Addr×Obj)) (σ:List (Option V)) (H:Hp) (s:Shared):Prop where
 ok:X.Ok
 os:s.os=X.s₀.os
 bare:AllBare s.gens
 base:Un X.fs X.ex X.H₀ H X.s₀.heap s.heap
 loc:∃ m,s.heap.Ns X.env.locals m/\∀ (i:Nat) (x:Str) (v:V),X.N[i]?=some x->σ[i]?=some (some v)->Jp X.env.scope x->∃ u,RelV v u/\Jj X.env s.heap m x u
 cell:∀ x c,X.env.cells.lookup x=some c->∃ v,s.heap.IsCell c v
 free:H X.env.locals=none
 freeC:∀ x c,X.env.cells.lookup x=some c->H c=none
 pin:∀ p∈X.pn ++ pins,s.heap.get? p.1=some p.2/\H p.1=none/\p.1≠X.env.locals/\p.1∉X.fs/\∀ v,p.2.data≠.cell v
 hok:k7 X.prog X.w H s.heap
 len:σ.length=X.N.length
section
variable {X:Cx} {pins:List (Addr×Obj)} {σ:List (Option V)} {H H':Hp} {s:Shared} {h':Heap}
theorem Cx.Ok.nofr (ok:X.Ok) {b:Addr} {o:Obj} (e:X.base.get? b=some o):b∉X.fs:=fun hb=>by
 have:=(ok.funs.mem hb).1
 rw [e] at this; cases this
theorem aV.bs (I:aV X pins σ H s):∀ b o,X.base.get? b=some o->s.heap.get? b=some o/\H b=none:=fun b o e =>
 ⟨I.base.keep b o (I.ok.bs b o e).1 (I.ok.bs b o e).2 (I.ok.nofr e) (I.ok.noex b o e),I.base.free b o (I.ok.bs b o e).1 (I.ok.bs b o e).2 (I.ok.noex b o e)⟩
theorem aV.bk (I:aV X pins σ H s):∀ b o,X.base.get? b=some o->s.heap.get? b=some o:=fun b o e=>(I.bs b o e).1
theorem aV.mod (I:aV X pins σ H s):Mod X.K X.mg X.base:=I.ok.mod
theorem aV.kIn (I:aV X pins σ H s):X.K.In s.heap:=I.ok.mod.kin.keeps I.bk
theorem aV.lt (I:aV X pins σ H s):X.env.locals < s.heap.objs.size:=let ⟨_,hn,_⟩:=I.loc; hn.lt
theorem aV.sz (I:aV X pins σ H s):X.s₀.heap.objs.size<=s.heap.objs.size:=Nat.le_trans I.ok.above (Nat.le_of_lt I.lt)
theorem aV.nofs (I:aV X pins σ H s) {a:Addr} (h:s.heap.objs.size<=a):a∉X.fs:=fun hb=>by
 obtain ⟨_,o,ho,_⟩:=I.ok.funs.mem hb
 exact absurd (Nat.lt_of_lt_of_le (Heap.lt_size ho) (Nat.le_trans I.sz h)) (Nat.lt_irrefl _)
theorem aV.cne (I:aV X pins σ H s):∀ x c,X.env.cells.lookup x=some c->c≠X.env.locals:=fun x c e z=>by
 obtain ⟨v,o,ho,hd⟩:=I.cell x c e
 obtain ⟨m,⟨o',es,ep,ho',hd',_⟩,_⟩:=I.loc
 rw [z,ho'] at ho; cases ho; rw [hd'] at hd; cases hd
theorem aV.funs (I:aV X pins σ H s):s.heap.FunFrames X.base X.outer:=by
 have all:∀ (l:List Env),(∀ b∈Bv l,b∈X.fs)->X.s₀.heap.FunFrames X.base l->s.heap.FunFrames X.base l:=by
  intro l
  induction l with
  | nil=>intro _ _; trivial
  | cons env r ih =>
   intro hs hl
   obtain ⟨hk,⟨L,o,hf,hn,ho,hd⟩,hr⟩:=hl
   have hL:L∈X.fs:=hs L (by unfold Bv; rw [List.filterMap_cons,hf]; exact List.mem_cons_self)
   obtain ⟨sl,e⟩:=I.base.slot L o ho (I.ok.frf L hL) hL fun z=>I.ok.exfs L z hL
   exact ⟨hk,⟨L,_,hf,hn,e,hd⟩,ih (fun b hb=>hs b (by unfold Bv; rw [List.filterMap_cons,hf]; exact List.mem_cons_of_mem _ hb)) hr⟩
 exact all X.outer (fun _ hb=>hb) I.ok.funs
theorem aV.stack (I:aV X pins σ H s):s.heap.FunFrames X.base X.stack:=by
 rcases I.ok.stk with e | ⟨e,hf⟩
 ·rw [e]; exact I.funs
 ·rw [e]
  obtain ⟨m,hn,_⟩:=I.loc
  refine .cons (by rw [I.ok.kind]; decide) hf hn ?_ I.funs
  exact Heap.get?_none_of_le (Nat.le_trans I.ok.bsz I.ok.above)
theorem aV.stkSub (I:aV X pins σ H s):∀ b∈Bv X.stack,b∈X.env.locals :: X.fs:=fun b hb=>by
 rcases I.ok.stk with e | ⟨e,hf⟩
 ·rw [e] at hb; exact List.mem_cons_of_mem _ hb
 ·rw [e] at hb
  unfold Bv at hb
  rw [List.filterMap_cons,hf] at hb
  exact hb
theorem aV.stkFree (I:aV X pins σ H s):∀ b∈Bv X.stack,H b=none:=fun b hb=>by
 rcases List.mem_cons.mp (I.stkSub b hb) with e | hb
 ·rw [e]; exact I.free
 ·obtain ⟨_,o,ho,_⟩:=I.ok.funs.mem hb
  exact I.base.free b o ho (I.ok.frf b hb) fun z=>I.ok.exfs b z hb
theorem aV.step {g':Array GenState} {t':Nat} {d':Drawn} {ch:List Addr} (I:aV X pins σ H s)
  (hch:∀ b∈ch,(b∈X.ex∨X.s₀.heap.objs.size<=b)/\b≠X.env.locals/\(∀ x c,X.env.cells.lookup x=some c->c≠b)/\∀ p∈X.pn ++ pins,p.1≠b)
  (keep:∀ b o,b≠X.env.locals->b∉X.fs->b∉ch->s.heap.get? b=some o->H b=none->h'.get? b=some o)
  (slot:∀ b o,b≠X.env.locals->b∈X.fs->b∉ch->s.heap.get? b=some o->H b=none->∃ sl,h'.get? b=some { o with slots:=sl }) (free:∀ b o,b∉ch->s.heap.get? b=some o->H b=none->H' b=none)
  (there:∀ b o,b∉ch->s.heap.get? b=some o->∃ o',h'.get? b=some o')
  (tups:∀ b xs,H b=some (.tup xs)->H' b=some (.tup xs)) (frzs:∀ b o u,H b=some (.frz o u)->H' b=some (.frz o u)) (tbls:∀ b ps,H b=some (.tbl ps)->∃ more,H' b=some (.tbl (ps ++ more)))
  (ns:∀ m,s.heap.Ns X.env.locals m->h'.Ns X.env.locals m) (hok:k7 X.prog X.w H' h') (hg:AllBare g') :
  aV X pins σ H' { s with heap:=h',gens:=g',drawn:=d',toks:=t' }:=by
 have neL:∀ b o,X.s₀.heap.get? b=some o->b≠X.env.locals:=fun b o e=>Nat.ne_of_lt (Nat.lt_of_lt_of_le (Heap.lt_size e) I.ok.above)
 have neC:∀ b o,X.s₀.heap.get? b=some o->b∉X.ex->b∉ch:=fun b o e hx hb=>by
  rcases (hch b hb).1 with z | z
  ·exact hx z
  ·exact absurd (Nat.lt_of_lt_of_le (Heap.lt_size e) z) (Nat.lt_irrefl _)
 have cellK:∀ x c,X.env.cells.lookup x=some c->∀ v,s.heap.IsCell c v->h'.IsCell c v:=fun x c e v ⟨o,ho,hd⟩=>by
  have nch:c∉ch:=fun z=>(hch c z).2.2.1 x c e rfl
  by_cases hc:c∈X.fs
  ·obtain ⟨sl,q⟩:=slot c o (I.cne x c e) hc nch ho (I.freeC x c e)
   exact ⟨_,q,hd⟩
  ·exact ⟨o,keep c o (I.cne x c e) hc nch ho (I.freeC x c e),hd⟩
 refine ⟨I.ok,I.os,hg,⟨fun b o e n hb hx=>?_,fun b o e n hb hx=>?_,fun b o e n hx=>?_,fun b o e hx=>?_,fun b xs e=>tups b xs (I.base.tups b xs e),fun b o xs e=>frzs b o xs (I.base.frzs b o xs e),fun b ps e=>?_⟩,?_,fun x c e=>?_,?_,fun x c e=>?_,fun p hp=>?_,hok,I.len⟩
 ·exact keep b o (neL b o e) hb (neC b o e hx) (I.base.keep b o e n hb hx) (I.base.free b o e n hx)
 ·obtain ⟨sl,e1⟩:=I.base.slot b o e n hb hx
  obtain ⟨sl',e2⟩:=slot b _ (neL b o e) hb (neC b o e hx) e1 (I.base.free b o e n hx)
  exact ⟨sl',e2⟩
 ·obtain ⟨o',e1⟩:=I.base.there b o e hx
  exact free b o' (neC b o e hx) e1 (I.base.free b o e n hx)
 ·obtain ⟨o',e1⟩:=I.base.there b o e hx
  exact there b o' (neC b o e hx) e1
 ·obtain ⟨m1,e1⟩:=I.base.tbls b ps e
  obtain ⟨m2,e2⟩:=tbls b _ e1
  exact ⟨m1 ++ m2,by rw [e2,Array.append_assoc]⟩
 ·obtain ⟨m,hn,hl⟩:=I.loc
  refine ⟨m,ns m hn,fun i x v e1 e2 e3=>?_⟩
  obtain ⟨u,r,l⟩:=hl i x v e1 e2 e3
  refine ⟨u,r,?_⟩
  rcases l with l | ⟨k,c,e,z⟩
  ·exact .inl l
  ·exact .inr ⟨k,c,e,cellK x c e _ z⟩
 ·obtain ⟨v,z⟩:=I.cell x c e
  exact ⟨v,cellK x c e v z⟩
 ·obtain ⟨m,⟨o,_,_,ho,_⟩,_⟩:=I.loc
  exact free _ o (fun z=>(hch _ z).2.1 rfl) ho I.free
 ·obtain ⟨v,o,ho,hd⟩:=I.cell x c e
  exact free c o (fun z=>(hch c z).2.2.1 x c e rfl) ho (I.freeC x c e)
 ·obtain ⟨e,n,ne,nf,d⟩:=I.pin p hp
  have nch:p.1∉ch:=fun z=>(hch p.1 z).2.2.2 p hp rfl
  exact ⟨keep p.1 p.2 ne nf nch e n,free p.1 p.2 nch e n,ne,nf,d⟩
theorem aV.un {t':Nat} (I:aV X pins σ H s) (u:Un X.fs [] H H' s.heap h') (hok:k7 X.prog X.w H' h'):aV X pins σ H' { s with heap:=h',toks:=t' }:=by
 obtain ⟨m,⟨o,es,ep,ho,r⟩,_⟩:=id I.loc
 obtain ⟨sl,hL⟩:=u.any ho I.free (by simp)
 exact I.step (g':=s.gens) (d':=s.drawn) (ch:=[]) (fun _ z=>nomatch z) (fun b o _ hb _ e n=>u.keep b o e n hb (by simp)) (fun b o _ hb _ e n=>u.slot b o e n hb (by simp)) (fun b o _ e n=>u.free b o e n (by simp)) (fun b o _ e=>u.there b o e (by simp)) u.tups u.frzs u.tbls (fun m' hm=>by
  obtain ⟨o',es',ep',ho',r'⟩:=hm
  rw [ho] at ho'; cases ho'
  exact ⟨_,es',ep',hL,r'⟩) hok I.bare
theorem aV.call {g':Array GenState} {t':Nat} {d':Drawn} {ch:List Addr} (I:aV X pins σ H s) (u:Un (Bv X.stack) ch H H' s.heap h') (hok:k7 X.prog X.w H' h') (hg:AllBare g')
  (hch:∀ b∈ch,(b∈X.ex∨X.s₀.heap.objs.size<=b)/\b≠X.env.locals/\(∀ x c,X.env.cells.lookup x=some c->c≠b)/\∀ p∈X.pn ++ pins,p.1≠b) :
  aV X pins σ H' { s with heap:=h',gens:=g',drawn:=d',toks:=t' }:=by
 obtain ⟨m,⟨o,es,ep,ho,r⟩,_⟩:=id I.loc
 obtain ⟨sl,hL⟩:=u.any ho I.free fun z=>(hch _ z).2.1 rfl
 exact I.step (ch:=ch) hch (fun b o hL hb hc e n=>u.keep b o e n (fun z=>(List.mem_cons.mp (I.stkSub b z)).elim hL hb) hc) (fun b o _ _ hc e n=>u.any e n hc) (fun b o hc e n=>u.free b o e n hc) (fun b o hc e=>u.there b o e hc) u.tups u.frzs u.tbls (fun m' hm=>by
  obtain ⟨o',es',ep',ho',r'⟩:=hm
  rw [ho] at ho'; cases ho'
  exact ⟨_,es',ep',hL,r'⟩) hok hg
theorem aV.turned {t':Nat} {it:Addr} (I:aV X pins σ H s) (k:∀ b o,b≠it->s.heap.get? b=some o->h'.get? b=some o) (hn:H it=none) (hL:it≠X.env.locals)
  (h1:it∈X.ex∨X.s₀.heap.objs.size<=it) (h2:∀ x c,X.env.cells.lookup x=some c->c≠it) (h3:∀ p∈X.pn ++ pins,p.1≠it):aV X pins σ H { s with heap:=h',toks:=t' }:=by
 have nit:∀ b u,H b=some u->b≠it:=fun b u e z=>by rw [z,hn] at e; cases e
 refine I.step (g':=s.gens) (d':=s.drawn) (ch:=[it]) (fun b hb=>?_) (fun b o _ _ hc e _=>k b o (fun z=>hc (by simp [z])) e) (fun b o _ _ hc e _=>⟨o.slots,k b o (fun z=>hc (by simp [z])) e⟩) (fun _ _ _ _ n=>n)
  (fun b o hc e=>⟨o,k b o (fun z=>hc (by simp [z])) e⟩) (fun _ _ e=>e) (fun _ _ _ e=>e) (fun b ps e=>⟨#[],by rw [e]; simp⟩) (fun m hm=>?_) (fun b u e=>?_) I.bare
 ·have e:b=it:=by simpa using hb
  subst e
  exact ⟨h1,hL,h2,h3⟩
 ·obtain ⟨o,es,ep,ho,r⟩:=hm
  exact ⟨o,es,ep,k _ o (Ne.symm hL) ho,r⟩
 ·refine (I.hok b u e).stay (fun c v hc q=>k c v ?_ q) (fun _ q=>q) fun _ _ q=>q
  rcases hc with z | z
  ·rw [z]; exact nit b u e
  ·exact nit c _ z
theorem aV.tok (I:aV X pins σ H s) (t:Nat):aV X pins σ H { s with toks:=t }:=I.un (h':=s.heap) (t':=t) Un.refl I.hok
theorem aV.kept {t':Nat} (I:aV X pins σ H s) (k:∀ b u,s.heap.get? b=some u->h'.get? b=some u):aV X pins σ H { s with heap:=h',toks:=t' }:=I.un (Un.kept k) (I.hok.kept k)
theorem aV.laid {a:Addr} {o:HO} {t':Nat} (I:aV X pins σ H s) (k:∀ b u,s.heap.get? b=some u->h'.get? b=some u) (hp:s.heap.objs.size<=a) (new:cL X.prog X.w (upd H a o) h' a o) :
  aV X pins σ (upd H a o) { s with heap:=h',toks:=t' }:=I.un (Un.laid k hp (I.hok.fresh hp)) (I.hok.laid k hp new)
theorem aV.write {x e:Addr} {o:HO} {t':Nat} (I:aV X pins σ H s) (mu:IF (H x)) (he:e=x∨H e=some (.own x)) (k:∀ b u,b≠e->s.heap.get? b=some u->h'.get? b=some u) (heo:∃ u,h'.get? e=some u)
  (new:cL X.prog X.w (upd H x o) h' x o):aV X pins σ (upd H x o) { s with heap:=h',toks:=t' }:=I.un (Un.write mu he k heo) (I.hok.write mu he k heo new)
theorem aV.pins_of {pins':List (Addr×Obj)} (I:aV X pins σ H s) (h:∀ p∈pins',s.heap.get? p.1=some p.2/\H p.1=none/\p.1≠X.env.locals/\p.1∉X.fs/\∀ v,p.2.data≠.cell v):aV X pins' σ H s :=
 ⟨I.ok,I.os,I.bare,I.base,I.loc,I.cell,I.free,I.freeC,fun p hp=>(List.mem_append.mp hp).elim (fun z=>I.pin p (List.mem_append_left _ z)) (h p),I.hok,I.len⟩
theorem wF {N:List Str} (hN:N.Nodup) {i j:Nat} {x:Str} (a:N[i]?=some x) (b:N[j]?=some x):i=j:=by
 obtain ⟨h1,e1⟩:=List.getElem?_eq_some_iff.mp a
 obtain ⟨h2,e2⟩:=List.getElem?_eq_some_iff.mp b
 exact (List.getElem_inj hN).mp (e1.trans e2.symm)
theorem oq {M:Model} {A:Around} {E:Value->Shared->Prop} {i:Nat} {x:Str} {v:V} {u:Value} {Q:Unit->Shared->Prop} (I:aV X pins σ H s) (hN:X.N.Nodup) (hi:X.N[i]?=some x) (hx:GO X.env.scope x) (r:RelV v u)
  (h:∀ s',aV X pins (σ.set i (some v)) H s'->(∃ a,Heap.SameBut a s.heap s'.heap/\(a=X.env.locals∨X.env.cells.lookup x=some a))->Q () s') (hf:X.fn x=true∨X.env.scope.names.lookup x=some .local:=by first | exact .inl rfl | exact .inr rfl | assumption):wpAny M A (storeName X.env x u) Q E s:=by
 obtain ⟨m,hn,hl⟩:=id I.loc
 have hcls:(X.env.scope.kind == .class || (X.env.scope.kind == .module && X.env.locals != X.env.globals))=false:=by rw [I.ok.kind]; rfl
 have hiσ:i < σ.length:=by rw [I.len]; exact (List.getElem?_eq_some_iff.mp hi).1
 have cne:=I.cne
 have tracked:∀ {a:Addr} {h':Heap},(∃ o,s.heap.get? a=some o/\H a=none)->Heap.SameBut a s.heap h'->k7 X.prog X.w H h':=fun {a h'} ha hs b ob e=>by
  obtain ⟨_,_,hfree⟩:=ha
  refine (I.hok b ob e).stay (fun c w' hc q=>(hs.2 c ?_).trans q) (fun _ q=>q) fun _ _ q=>q
  rintro rfl
  rcases hc with rfl | hc
  ·rw [hfree] at e; cases e
  ·rw [hfree] at hc; cases hc
 rcases hx with hk | hk
 ·refine wpAny_storeName_local hk hn (fun h' hn' hs=>?_) hcls
  obtain ⟨oL,_,_,hoL,_⟩:=id hn
  refine h _ ⟨I.ok,I.os,I.bare,⟨fun b o e n hb hx=>?_,fun b o e n hb hx=>?_,I.base.free,fun b o e hx=>?_,I.base.tups,I.base.frzs,I.base.tbls⟩,⟨_,hn',fun j y v' e1 e2 e3=>?_⟩,fun y c e=>?_,I.free,I.freeC,fun p hp=>?_,tracked ⟨oL,hoL,I.free⟩ hs,by simpa using I.len⟩ ⟨_,hs,.inl rfl⟩
  ·exact (hs.2 b (Nat.ne_of_lt (Nat.lt_of_lt_of_le (Heap.lt_size e) I.ok.above))).trans (I.base.keep b o e n hb hx)
  ·obtain ⟨sl,e1⟩:=I.base.slot b o e n hb hx
   exact ⟨sl,(hs.2 b (Nat.ne_of_lt (Nat.lt_of_lt_of_le (Heap.lt_size e) I.ok.above))).trans e1⟩
  ·obtain ⟨o',e1⟩:=I.base.there b o e hx
   exact ⟨o',(hs.2 b (Nat.ne_of_lt (Nat.lt_of_lt_of_le (Heap.lt_size e) I.ok.above))).trans e1⟩
  ·by_cases hj:j=i
   ·subst hj
    rw [hi] at e1; cases e1
    rw [List.getElem?_set_self hiσ] at e2
    cases e2
    exact ⟨u,r,.inl ⟨hk,by simp⟩⟩
   ·rw [List.getElem?_set_ne (Ne.symm hj)] at e2
    obtain ⟨u',r',q⟩:=hl j y v' e1 e2 e3
    refine ⟨u',r',?_⟩
    rcases q with ⟨k,e⟩ | ⟨k,c,e,z⟩
    ·refine .inl ⟨k,?_⟩
     have:y≠x:=fun e=>hj (wF hN e1 (e ▸ hi))
     simp [this,e]
    ·exact .inr ⟨k,c,e,z.sameBut hs (cne y c e)⟩
  ·obtain ⟨w',z⟩:=I.cell y c e
   exact ⟨w',z.sameBut hs (cne y c e)⟩
  ·obtain ⟨e,n,ne,nf,d⟩:=I.pin p hp
   exact ⟨(hs.2 p.1 ne).trans e,n,ne,nf,d⟩
 ·have hfn:X.fn x=true:=by
   rcases hf with z | z
   ·exact z
   ·rw [z] at hk; cases hk
  obtain ⟨c,hc⟩:=I.ok.has x (.inl hk)
  obtain ⟨w',z⟩:=I.cell x c hc
  refine wpAny_storeName_cell I.ok.kind hk hc z (fun h' hc' hs=>?_)
  obtain ⟨oc,hoc,hocd⟩:=id z
  refine h { s with heap:=h' } ⟨I.ok,I.os,I.bare,⟨fun b o e n hb hx=>?_,fun b o e n hb hx=>?_,I.base.free,fun b o e hx=>?_,I.base.tups,I.base.frzs,I.base.tbls⟩,⟨m,hn.sameBut hs (Ne.symm (cne x c hc)),fun j y v' e1 e2 e3=>?_⟩,fun y c' e=>?_,I.free,I.freeC,fun p hp=>?_,tracked ⟨oc,hoc,I.freeC x c hc⟩ hs,by simpa using I.len⟩ ⟨c,hs,.inr hc⟩
  ·exact (hs.2 b (Nat.ne_of_lt (Nat.lt_of_lt_of_le (Heap.lt_size e) (I.ok.cab x c hfn hc)))).trans (I.base.keep b o e n hb hx)
  ·obtain ⟨sl,e1⟩:=I.base.slot b o e n hb hx
   exact ⟨sl,(hs.2 b (Nat.ne_of_lt (Nat.lt_of_lt_of_le (Heap.lt_size e) (I.ok.cab x c hfn hc)))).trans e1⟩
  ·obtain ⟨o',e1⟩:=I.base.there b o e hx
   exact ⟨o',(hs.2 b (Nat.ne_of_lt (Nat.lt_of_lt_of_le (Heap.lt_size e) (I.ok.cab x c hfn hc)))).trans e1⟩
  ·by_cases hj:j=i
   ·subst hj
    rw [hi] at e1; cases e1
    rw [List.getElem?_set_self hiσ] at e2
    cases e2
    exact ⟨u,r,.inr ⟨.inl hk,c,hc,hc'⟩⟩
   ·rw [List.getElem?_set_ne (Ne.symm hj)] at e2
    obtain ⟨u',r',q⟩:=hl j y v' e1 e2 e3
    refine ⟨u',r',?_⟩
    rcases q with q | ⟨k,c',e,z'⟩
    ·exact .inl q
    ·refine .inr ⟨k,c',e,z'.sameBut hs ?_⟩
     rintro rfl
     exact hj (wF hN e1 (I.ok.inj _ _ _ e hc ▸ hi))
  ·by_cases hcc:c'=c
   ·subst hcc; exact ⟨_,hc'⟩
   ·obtain ⟨w2,z2⟩:=I.cell y c' e
    exact ⟨w2,z2.sameBut hs hcc⟩
  ·obtain ⟨e,n,ne,nf,d⟩:=I.pin p hp
   refine ⟨(hs.2 p.1 ?_).trans e,n,ne,nf,d⟩
   intro q
   rw [q,hoc] at e
   have q':oc=p.2:=Option.some.inj e
   exact d w' (by rw [← q']; exact hocd)
theorem wZ {M:Model} {A:Around} {E:Value->Shared->Prop} {i:Nat} {x:Str} {v:V} {u:Value} {Q:Unit->Shared->Prop} (I:aV X pins σ H s) (hN:X.N.Nodup) (hi:X.N[i]?=some x) (hx:GO X.env.scope x) (r:RelV v u)
  (h:∀ s',aV X pins (σ.set i (some v)) H s'->Q () s') (hf:X.fn x=true∨X.env.scope.names.lookup x=some .local:=by first | exact .inl rfl | exact .inr rfl | assumption):wpAny M A (storeName X.env x u) Q E s :=
 oq I hN hi hx r (fun s' I' _=>h s' I') hf
theorem aV.call' {s':Shared} {ch:List Addr} (I:aV X pins σ H s) (ho:s'.os=s.os) (u:Un (Bv X.stack) ch H H' s.heap s'.heap) (hok:k7 X.prog X.w H' s'.heap) (hg:AllBare s'.gens)
  (hch:∀ b∈ch,(b∈X.ex∨X.s₀.heap.objs.size<=b)/\b≠X.env.locals/\(∀ x c,X.env.cells.lookup x=some c->c≠b)/\∀ p∈X.pn ++ pins,p.1≠b):aV X pins σ H' s':=by
 obtain ⟨h',g',d',t',o'⟩:=s'
 have e:o'=s.os:=ho
 subst e
 exact I.call (g':=g') (t':=t') (d':=d') u hok hg hch
end
abbrev XK:=Value->Option Addr->Hp->Prop
abbrev St:=List (Option V)
abbrev VK:=V->Hp->Prop
abbrev TE:=St->Hp->VK->Prop
abbrev TT:=St->Hp->(Bool->Hp->Prop)->Prop
abbrev TA:=St->Hp->(List V->Hp->Prop)->Prop
structure mI where
 nx:St->Hp->Prop
 rt:VK
 bk:St->Hp->Prop:=fun _ _=>False
 ct:St->Hp->Prop:=fun _ _=>False
abbrev TS:=mI->St->Hp->Prop
def EP (X:Cx) (pins:List (Addr×Obj)) (σ:St) (Q:VK) (u:Value) (s':Shared):Prop:=∃ v H',aV X pins σ H' s'/\RelV v u/\Q v H'
def TP (X:Cx) (pins:List (Addr×Obj)) (σ:St) (Q:Bool->Hp->Prop) (b:Bool) (s':Shared):Prop:=∃ H',aV X pins σ H' s'/\Q b H'
def AP (X:Cx) (pins:List (Addr×Obj)) (σ:St) (Q:List V->Hp->Prop) (us:List Value) (s':Shared):Prop:=∃ vs H',aV X pins σ H' s'/\Vals vs us/\Q vs H'
def SP (X:Cx) (pins:List (Addr×Obj)) (D:mI) (f:Flow) (s':Shared):Prop :=
 match f with
 | .next=>∃ σ' H',aV X pins σ' H' s'/\D.nx σ' H'
 | .brk=>∃ σ' H',aV X pins σ' H' s'/\D.bk σ' H'
 | .cont=>∃ σ' H',aV X pins σ' H' s'/\D.ct σ' H'
 | .ret u=>∃ v σ' H',aV X pins σ' H' s'/\RelV v u/\D.rt v H'
def PE (X:Cx) (e:Expr) (t:TE):Prop :=
 ∀ (pins:List (Addr×Obj)) (s:Shared) (σ:St) (H:Hp) (Q:VK),aV X pins σ H s->t σ H Q->wpAny (model X.prog X.w) X.A (eval e X.env) (EP X pins σ Q) X.xe s
def PT (X:Cx) (e:Expr) (t:TT):Prop :=
 ∀ (pins:List (Addr×Obj)) (s:Shared) (σ:St) (H:Hp) (Q:Bool->Hp->Prop),aV X pins σ H s->t σ H Q->wpAny (model X.prog X.w) X.A (isTrue e X.env (eval e X.env)) (TP X pins σ Q) X.xe s
def PW (X:Cx) (e:Expr) (t:TT):Prop :=
 ∀ (whole:Sem Value) (pins:List (Addr×Obj)) (s:Shared) (σ:St) (H:Hp) (Q:Bool->Hp->Prop),aV X pins σ H s->t σ H Q->wpAny (model X.prog X.w) X.A (isTrue e X.env whole) (TP X pins σ Q) X.xe s
theorem PW.pt {X:Cx} {e:Expr} {t:TT} (h:PW X e t):PT X e t:=h _
def PA (X:Cx) (es:List Expr) (t:TA):Prop :=
 ∀ (pos:Pos) (pins:List (Addr×Obj)) (s:Shared) (σ:St) (H:Hp) (Q:List V->Hp->Prop),aV X pins σ H s->t σ H Q->wpAny (model X.prog X.w) X.A (spliced (backTo pos (starEach es X.env))) (AP X pins σ Q) X.xe s
def PS (X:Cx) (st:Stmt) (t:TS):Prop :=
 ∀ (pins:List (Addr×Obj)) (s:Shared) (σ:St) (H:Hp) (D:mI),aV X pins σ H s->t D σ H->wpAny (model X.prog X.w) X.A (exec st X.env) (SP X pins D) X.xe s
def Ag (X:Cx) (st:List Stmt) (t:TS):Prop :=
 ∀ (pins:List (Addr×Obj)) (s:Shared) (σ:St) (H:Hp) (D:mI),aV X pins σ H s->t D σ H->wpAny (model X.prog X.w) X.A (execs st X.env) (SP X pins D) X.xe s
theorem cE {α:Type} {t:Sem α} {Q Q':α->Shared->Prop} {M:Model} {A:Around} {E:Value->Shared->Prop} {s:Shared} (h:wpAny M A t Q E s) (hQ:∀ a s,Q a s->Q' a s):wpAny M A t Q' E s:=wpAny_mono h hQ fun _ _ x=>x
end L2
namespace L2
open PySem PySem.Spec PyProof.Rows
section
variable {X:Cx}
theorem JO {a b:Expr} {ta tb:TE} (ha:PE X a ta) (hb:PE X b tb) {pins:List (Addr×Obj)} {s:Shared} {σ:St} {H:Hp} {R:V->V->Hp->Prop} (I:aV X pins σ H s) (h:ta σ H fun x H1=>tb σ H1 fun y H2=>R x y H2)
  {α:Type} {Q:α->Shared->Prop} {f:Value->Value->Sem α}
  (hf:∀ v u s2 x y H2,aV X pins σ H2 s2->RelV x v->RelV y u->R x y H2->wpAny (model X.prog X.w) X.A (f v u) Q X.xe s2) :
  wpAny (model X.prog X.w) X.A (eval a X.env) (fun v s₁=>wpAny (model X.prog X.w) X.A (eval b X.env) (fun u s₂=>wpAny (model X.prog X.w) X.A (f v u) Q X.xe s₂) X.xe s₁) X.xe s:=by
 refine cE (ha pins s σ H _ I h) fun v s1 ⟨x,H1,I1,r1,q1⟩=>?_
 refine cE (hb pins s1 σ H1 _ I1 q1) fun u s2 ⟨y,H2,I2,r2,q2⟩=>?_
 exact hf v u s2 x y H2 I2 r1 r2 q2
def zG (i:Nat):TE:=fun σ H Q=>∃ v,σ[i]?=some (some v)/\Q v H
def tC (v:V):TE:=fun _ H Q=>Q v H
theorem Gg {i:Nat} {x:Str} {pos:Pos} (hN:X.N[i]?=some x) (hv:Jp X.env.scope x) (hd:(x == ("__debug__":Str))=false:=by decide) (hcd:(x == ("__classdict__":Str))=false:=by decide):PE X (.Name x pos) (zG i):=by
 intro pins s σ H Q I h
 obtain ⟨v,e,h⟩:=h
 obtain ⟨m,hn,hl⟩:=I.loc
 obtain ⟨u,r,l⟩:=hl i x v hN e hv
 have fin:EP X pins σ Q u s:=⟨v,H,I,r,h⟩
 rcases l with ⟨hk,hm⟩ | ⟨hk,c,hc,hcell⟩
 ·exact wpAny_Name (wpAny_loadName_local I.ok.kind hk hn hm fin) hd
 ·rcases hk with hk | hk
  ·exact wpAny_Name (wpAny_loadName_cell I.ok.kind hk hc hcell fin) hd
  ·exact wpAny_Name (wpAny_loadName_free I.ok.kind hk hc hcell fin hcd) hd
theorem aa {i j pos}:PE X (.Constant (.int i) j pos) (tC (.int i)):=fun _ _ _ H _ I h=>wpAny_Constant_int ⟨.int i,H,I.tok _,⟨_,rfl⟩,h⟩
theorem oX {b j pos}:PE X (.Constant (.bool b) j pos) (tC (.bl b)):=fun _ _ _ H _ I h=>Constant_bool ⟨.bl b,H,I,rfl,h⟩
theorem dy {j pos}:PE X (.Constant .none j pos) (tC .non):=fun _ _ _ H _ I h=>Constant_none ⟨.non,H,I,rfl,h⟩
theorem aP {x j pos}:PE X (.Constant (.str x) j pos) (tC (.str x)):=fun _ _ _ H _ I h=>Calls.Constant_str ⟨.str x,H,I.tok _,⟨_,rfl⟩,h⟩
def Gl (X:Cx) (x:Str):Prop:=X.env.kindOf x=some .globalImplicit
theorem qt {E:Value->Shared->Prop} {pins:List (Addr×Obj)} {s:Shared} {σ:St} {H:Hp} {x:Str} {u:Value} {pos:Pos} {Q:Value->Shared->Prop} (I:aV X pins σ H s) (hg:Gl X x) (hm:X.mg x=some u) (h:Q u s)
  (hd:(x == ("__debug__":Str))=false:=by decide):wpAny (model X.prog X.w) X.A (eval (.Name x pos) X.env) Q E s :=
 Calls.Name_function_global I.ok.kind hg (Calls.loadGlobal_global (by rw [I.ok.glob]; exact I.mod.glob.keeps I.bk) hm h) hd
theorem rR {E:Value->Shared->Prop} {pins:List (Addr×Obj)} {s:Shared} {σ:St} {H:Hp} {x:Str} {u:Value} {pos:Pos} {Q:Value->Shared->Prop} (I:aV X pins σ H s) (hg:Gl X x) (hm:X.mg x=none) (hv:bootBuiltins x=some u) (h:Q u s)
  (hn:x≠"__name__":=by decide) (hd:(x == ("__debug__":Str))=false:=by decide):wpAny (model X.prog X.w) X.A (eval (.Name x pos) X.env) Q E s:=by
 obtain ⟨mb,h1,h2⟩:=I.mod.blt
 exact Calls.Name_function_global I.ok.kind hg (Calls.loadGlobal_builtin (by rw [I.ok.glob]; exact I.mod.glob.keeps I.bk) hm (by rw [I.ok.blt]; exact h1.keeps I.bk) ((h2 x hn).trans hv) h) hd
theorem yT {x:Str} {v:V} {u:Value} {pos:Pos} (hg:Gl X x) (hm:X.mg x=some u) (r:RelV v u) (hd:(x == ("__debug__":Str))=false:=by decide):PE X (.Name x pos) (tC v) :=
 fun _ _ _ H _ I h=>qt I hg hm ⟨v,H,I,r,h⟩ hd
theorem Cz {x:Str} {v:V} {u:Value} {pos:Pos} (hg:Gl X x) (hm:X.mg x=none) (hv:bootBuiltins x=some u) (r:RelV v u) (hn:x≠"__name__":=by decide) (hd:(x == ("__debug__":Str))=false:=by decide):PE X (.Name x pos) (tC v) :=
 fun _ _ _ H _ I h=>rR I hg hm hv ⟨v,H,I,r,h⟩ hn hd
variable {a b:Expr} {ta tb:TE} {pos:Pos}
def PC (X:Cx) (op:CmpOp) (a b:Expr) (t:TE):Prop :=
 ∀ (pins:List (Addr×Obj)) (s:Shared) (σ:St) (H:Hp) (Q:VK),aV X pins σ H s->t σ H Q ->
  wpAny (model X.prog X.w) X.A (eval a X.env) (fun v s₁=>wpAny (model X.prog X.w) X.A (eval b X.env) (fun u s₂=>wpAny (model X.prog X.w) X.A (compareOp op v u) (EP X pins σ Q) X.xe s₂) X.xe s₁) X.xe s
theorem ET {op:CmpOp} {t:TE} (h:PC X op a b t) (h1:behindInMarks op b=false:=by first | exact nobehind _ (by decide) (by decide) | rfl):PE X (.Compare a [op] [b] pos) t:=fun pins s σ H Q I hw=>wpAny_Compare1 (h pins s σ H Q I hw) h1
variable {tA tB':TT} {rest:List Expr}
def Iv (t u:TT):TT:=fun σ H Q=>t σ H fun c H1=>if c=true then u σ H1 Q else Q false H1
def JH (t u:TT):TT:=fun σ H Q=>t σ H fun c H1=>if c=true then Q true H1 else u σ H1 Q
def Ie (t:TT):TT:=fun σ H Q=>t σ H fun c H1=>Q (!c) H1
theorem fR (ha:PT X a tA):PW X (.BoolOp .And [a] pos) tA:=by
 intro wh pins s σ H Q I h
 refine isTrue_and (cE (ha pins s σ H Q I h) fun c s1 e=>?_)
 cases c with
 | true=>exact isTrue_and_nil e
 | false=>exact e
theorem oj (ha:PT X a tA):PW X (.BoolOp .Or [a] pos) tA:=by
 intro wh pins s σ H Q I h
 refine isTrue_or (cE (ha pins s σ H Q I h) fun c s1 e=>?_)
 cases c with
 | false=>exact isTrue_or_nil e
 | true=>exact e
theorem eX (ha:PT X a tA) (hb:PW X (.BoolOp .And (b :: rest) pos) tB'):PW X (.BoolOp .And (a :: b :: rest) pos) (Iv tA tB'):=by
 intro wh pins s σ H Q I h
 refine isTrue_and (cE (ha pins s σ H _ I h) fun c s1 ⟨H1,I1,q1⟩=>?_)
 cases c with
 | true=>exact hb wh pins s1 σ H1 Q I1 q1
 | false=>exact ⟨H1,I1,q1⟩
theorem rO (ha:PT X a tA) (hb:PW X (.BoolOp .Or (b :: rest) pos) tB'):PW X (.BoolOp .Or (a :: b :: rest) pos) (JH tA tB'):=by
 intro wh pins s σ H Q I h
 refine isTrue_or (cE (ha pins s σ H _ I h) fun c s1 ⟨H1,I1,q1⟩=>?_)
 cases c with
 | true=>exact ⟨H1,I1,q1⟩
 | false=>exact hb wh pins s1 σ H1 Q I1 q1
theorem sF (ha:PT X a tA):PT X (.UnaryOp .Not a pos) (Ie tA):=by
 intro pins s σ H Q I h
 exact isTrue_not (ha pins s σ H (fun c H1=>Q (!c) H1) I h)
def En (ta tb:TE):TE:=fun σ H Q=>ta σ H fun x H1=>∃ c,x=.bl c/\if c=true then tb σ H1 Q else Q (.bl false) H1
def Hn (ta tb:TE):TE:=fun σ H Q=>ta σ H fun x H1=>∃ c,x=.bl c/\if c=true then Q (.bl true) H1 else tb σ H1 Q
def Es (ta:TE):TE:=fun σ H Q=>ta σ H fun x H1=>∃ c,x=.bl c/\Q (.bl (!c)) H1
theorem fL {op} {t:TE} (h:PE X a t):PE X (.BoolOp op [a] pos) t:=fun pins s σ H Q I hw=>BoolOp_one (h pins s σ H Q I hw)
theorem iB (ha:PE X a ta) (hb:PE X (.BoolOp .And (b :: rest) pos) tb):PE X (.BoolOp .And (a :: b :: rest) pos) (En ta tb):=by
 intro pins s σ H Q I h
 refine BoolOp_and (cE (ha pins s σ H _ I h) fun v s1 ⟨x,H1,I1,r1,q1⟩=>?_)
 obtain ⟨c,rfl,q1⟩:=q1
 cases r1
 refine wpAny_truthy_bool ?_
 cases c with
 | true=>exact hb pins s1 σ H1 Q I1 q1
 | false=>exact ⟨.bl false,H1,I1,rfl,q1⟩
theorem Cn (ha:PE X a ta) (hb:PE X (.BoolOp .Or (b :: rest) pos) tb):PE X (.BoolOp .Or (a :: b :: rest) pos) (Hn ta tb):=by
 intro pins s σ H Q I h
 refine BoolOp_or (cE (ha pins s σ H _ I h) fun v s1 ⟨x,H1,I1,r1,q1⟩=>?_)
 obtain ⟨c,rfl,q1⟩:=q1
 cases r1
 refine wpAny_truthy_bool ?_
 cases c with
 | false=>exact hb pins s1 σ H1 Q I1 q1
 | true=>exact ⟨.bl true,H1,I1,rfl,q1⟩
theorem yB (ha:PE X a ta):PE X (.UnaryOp .Not a pos) (Es ta):=by
 intro pins s σ H Q I h
 refine UnaryOp_ (cE (ha pins s σ H _ I h) fun v s1 ⟨x,H1,I1,r1,q1⟩=>?_)
 obtain ⟨c,rfl,q1⟩:=q1
 cases r1
 exact not_of (wpAny_truthy_bool ⟨.bl (!c),H1,I1,rfl,q1⟩)
def JG (t:TT) (ta tb:TE):TE:=fun σ H Q=>t σ H fun c H1=>if c=true then ta σ H1 Q else tb σ H1 Q
theorem qJ {c:Expr} (hc:PT X c tA) (ha:PE X a ta) (hb:PE X b tb):PE X (.IfExp c a b pos) (JG tA ta tb):=by
 intro pins s σ H Q I h
 refine wpAny_IfExp (cE (hc pins s σ H _ I h) fun d s1 ⟨H1,I1,q1⟩=>?_)
 cases d with
 | true=>exact ha pins s1 σ H1 Q I1 q1
 | false=>exact hb pins s1 σ H1 Q I1 q1
end
end L2
namespace L2
open PySem PySem.Spec PyProof.Rows
def bb (K:PySem.W.Frag) (H:Hp) (a:Addr) (xs:List V):Prop :=
 Rd H a (.lst xs) ∨
  ∃ (o:Obj) (its:Array Value) (n:Nat),K.lookup a=some o/\o.cls=.type "list"/\o.dict=none/\o.data=.seq its n/\its.size<=sizeLine/\Vals xs its.toList
def aZ (K:PySem.W.Frag) (H:Hp) (a:Addr) (xs:List V):Prop :=
 Rd H a (.tup xs) ∨
  ∃ (o:Obj) (its:Array Value) (n:Nat),K.lookup a=some o/\o.cls=.type "tuple"/\o.data=.seq its n/\its.size<=sizeLine/\Vals xs its.toList
def IS:Value->Option V
 | .none=>some .non
 | .bool b=>some (.bl b)
 | .int i _=>some (.int i)
 | .str x _=>some (.str x)
 | .bytes b _=>some (.byt b)
 | .float b _=>some (.flt b)
 | .ref a=>some (.ref a)
 | .type n=>some (.ty n)
 | _=>none
theorem RelV.abs {x:V} {u:Value} (r:RelV x u):IS u=some x:=by
 cases x with
 | non=>cases r; rfl
 | bl _=>cases r; rfl
 | int _=>obtain ⟨t,rfl⟩:=r; rfl
 | str _=>obtain ⟨t,rfl⟩:=r; rfl
 | byt _=>obtain ⟨t,rfl⟩:=r; rfl
 | flt _=>obtain ⟨t,rfl⟩:=r; rfl
 | ref _=>cases r; rfl
 | ty _=>cases r; rfl
theorem RelV.inj {x y:V} {u:Value} (r:RelV x u) (q:RelV y u):x=y:=Option.some.inj (r.abs.symm.trans q.abs)
theorem Vals.inj:∀ {xs ys:List V} {us:List Value},Vals xs us->Vals ys us->xs=ys
 | _,_,_,.nil,.nil=>rfl
 | _,_,_,.cons r t,.cons r' t'=>by rw [r.inj r',Vals.inj t t']
section
variable {X:Cx} {pins:List (Addr×Obj)} {σ:St} {H:Hp} {s:Shared} {a:Addr} {xs ys:List V}
theorem bb.of {K:PySem.W.Frag} (h:H a=some (.lst xs)):bb K H a xs:=.inl (.inl h)
theorem aZ.of {K:PySem.W.Frag} (h:H a=some (.tup xs)):aZ K H a xs:=.inl (.inl h)
theorem aV.list (I:aV X pins σ H s) (h:bb X.K H a xs):∃ its:List Value,Vals xs its/\PlainL s.heap a its.toArray/\xs.length<=sizeLine:=by
 rcases h with h | ⟨o,its,n,hk,hc,hd,hs,hz,r⟩
 ·obtain ⟨z,its,n,r,e⟩:=h.ok I.hok
  exact ⟨its,r,⟨_,n,e,rfl,rfl,rfl⟩,z⟩
 ·refine ⟨its.toList,r,⟨o,n,I.kIn a o hk,hc,hd,by simpa using hs⟩,?_⟩
  have e:=r.length
  simp only [Array.length_toList] at e
  omega
theorem aV.tuple (I:aV X pins σ H s) (h:aZ X.K H a xs):∃ its:List Value,Vals xs its/\IsTup s.heap a its.toArray/\xs.length<=sizeLine:=by
 rcases h with h | ⟨o,its,n,hk,hc,hs,hz,r⟩
 ·obtain ⟨z,its,r,p⟩:=h.ok I.hok
  exact ⟨its,r,p.tup,z⟩
 ·refine ⟨its.toList,r,⟨o,I.kIn a o hk,hc,n,by simpa using hs⟩,?_⟩
  have e:=r.length
  simp only [Array.length_toList] at e
  omega
theorem aV.list_inj (I:aV X pins σ H s) (h:bb X.K H a xs) (h':bb X.K H a ys):xs=ys:=by
 obtain ⟨its,r,⟨o,n,e,_,_,d⟩,_⟩:=I.list h
 obtain ⟨its',r',⟨o',n',e',_,_,d'⟩,_⟩:=I.list h'
 rw [e] at e'; cases e'
 rw [d] at d'
 injection d' with d1 _
 have:its=its':=by simpa using congrArg Array.toList d1
 subst this
 exact r.inj r'
theorem aV.tuple_inj (I:aV X pins σ H s) (h:aZ X.K H a xs) (h':aZ X.K H a ys):xs=ys:=by
 obtain ⟨its,r,⟨o,e,_,n,d⟩,_⟩:=I.tuple h
 obtain ⟨its',r',⟨o',e',_,n',d'⟩,_⟩:=I.tuple h'
 rw [e] at e'; cases e'
 rw [d] at d'
 injection d' with d1 _
 have:its=its':=by simpa using congrArg Array.toList d1
 subst this
 exact r.inj r'
end
abbrev Cx.wish (X:Cx) (E:Value->Shared->Prop):Cx:={ X with xe:=E }
abbrev Cx.nox (X:Cx):Cx:=X.wish fun _ _=>False
theorem Cx.Ok.wish {X:Cx} (ok:X.Ok) (E:Value->Shared->Prop):(X.wish E).Ok :=
 ⟨ok.mod,ok.kind,ok.glob,ok.blt,ok.above,ok.inj,ok.has,ok.cab,ok.hd,ok.frames,ok.stk,ok.exf,ok.bs,ok.bsz,ok.noex,ok.exfs,ok.funs,ok.frf⟩
theorem Cx.Ok.unwish {X:Cx} {E:Value->Shared->Prop} (ok:(X.wish E).Ok):X.Ok :=
 ⟨ok.mod,ok.kind,ok.glob,ok.blt,ok.above,ok.inj,ok.has,ok.cab,ok.hd,ok.frames,ok.stk,ok.exf,ok.bs,ok.bsz,ok.noex,ok.exfs,ok.funs,ok.frf⟩
section
variable {X:Cx} {pins:List (Addr×Obj)} {σ:St} {H:Hp} {s:Shared} {E:Value->Shared->Prop}
theorem aV.wish (I:aV X pins σ H s) (E:Value->Shared->Prop):aV (X.wish E) pins σ H s:=⟨I.ok.wish E,I.os,I.bare,I.base,I.loc,I.cell,I.free,I.freeC,I.pin,I.hok,I.len⟩
theorem aV.unwish (I:aV (X.wish E) pins σ H s):aV X pins σ H s:=⟨I.ok.unwish,I.os,I.bare,I.base,I.loc,I.cell,I.free,I.freeC,I.pin,I.hok,I.len⟩
theorem SP.unwish {D:mI} {f:Flow} {s':Shared} (h:SP (X.wish E) pins D f s'):SP X pins D f s':=by
 cases f with
 | next=>obtain ⟨σ',H',I,q⟩:=h; exact ⟨σ',H',I.unwish,q⟩
 | brk=>obtain ⟨σ',H',I,q⟩:=h; exact ⟨σ',H',I.unwish,q⟩
 | cont=>obtain ⟨σ',H',I,q⟩:=h; exact ⟨σ',H',I.unwish,q⟩
 | ret u=>obtain ⟨v,σ',H',I,r,q⟩:=h; exact ⟨v,σ',H',I.unwish,r,q⟩
theorem Ag.nox {st:List Stmt} {t:TS} (h:Ag X.nox st t):Ag X st t:=fun pins s σ H D I hw =>
 wpAny_mono (h pins s σ H D (I.wish _) hw) (fun _ _ q=>q.unwish) fun _ _ z=>False.elim z
end
section
variable {X:Cx} {st:Stmt} {rest:List Stmt} {t u:TS} {e:Expr} {te:TE} {pos:Pos}
def Bh:TS:=fun D σ H=>D.nx σ H
def w4 (t u:TS):TS:=fun D σ H=>t { D with nx:=u D } σ H
theorem aJ:Ag X [] Bh:=fun _ _ σ H _ I h=>wpAny_execs_nil ⟨σ,H,I,h⟩
theorem af (h1:PS X st t) (h2:Ag X rest u):Ag X (st :: rest) (w4 t u):=by
 intro pins s σ H D I h
 refine wpAny_execs_cons (cE (h1 pins s σ H { D with nx:=u D } I h) fun f s1 q=>?_)
 cases f with
 | next =>
  obtain ⟨σ',H',I',q⟩:=q
  exact h2 pins s1 σ' H' D I' q
 | ret v=>exact q
 | brk=>exact q
 | cont=>exact q
theorem ai (h1:PS X st t):Ag X [st] t:=by
 intro pins s σ H D I h
 refine wpAny_execs_cons (cE (h1 pins s σ H D I h) fun f s1 q=>?_)
 cases f with
 | next=>exact wpAny_execs_nil q
 | ret v=>exact q
 | brk=>exact q
 | cont=>exact q
theorem aV.quiet {pins:List (Addr×Obj)} {σ:St} {H:Hp} {s:Shared} (I:aV X pins σ H s):interactive X.env=false:=by simp [interactive,I.ok.kind]
def BP (te:TE):TS:=fun D σ H=>te σ H fun _ H1=>D.nx σ H1
theorem bU (he:PE X e te) (hs:swapsWith e none pos.line X.env=pure false:=by rfl):PS X (.Expr e pos) (BP te):=by
 intro pins s σ H D I h
 exact wpAny_Expr_any (cE (he pins s σ H _ I h) fun v s1 ⟨x,H1,I1,r1,q1⟩=>⟨σ,H1,I1,q1⟩) I.quiet hs
def DD (te:TE):TS:=fun D σ H=>te σ H D.rt
theorem aK (he:PE X e te):PS X (.Return (some e) pos) (DD te):=by
 intro pins s σ H D I h
 exact wpAny_Return_some (cE (he pins s σ H _ I h) fun v s1 ⟨x,H1,I1,r1,q1⟩=>⟨x,σ,H1,I1,r1,q1⟩)
def EB:TS:=fun D _ H=>D.rt .non H
theorem Dr:PS X (.Return none pos) EB:=fun _ _ σ H _ I h=>wpAny_Return_none ⟨.non,σ,H,I,rfl,h⟩
def FG (c:TT) (t u:TS):TS:=fun D σ H=>c σ H fun b H1=>if b=true then t D σ H1 else u D σ H1
theorem a8 {c:Expr} {a b:List Stmt} {tc:TT} (hc:PT X c tc) (ha:Ag X a t) (hb:Ag X b u):PS X (.If c a b pos) (FG tc t u):=by
 intro pins s σ H D I h
 refine wpAny_If (cE (hc pins s σ H _ I h) fun d s1 ⟨H1,I1,q1⟩=>?_)
 cases d with
 | true=>exact ha pins s1 σ H1 D I1 q1
 | false=>exact hb pins s1 σ H1 D I1 q1
end
abbrev TG:=V->St->Hp->(St->Hp->Prop)->Prop
abbrev Cs:=List V->St->Hp->(St->Hp->Prop)->Prop
def PG (X:Cx) (target:Expr) (t:TG):Prop :=
 ∀ (pins:List (Addr×Obj)) (s:Shared) (σ:St) (H:Hp) (v:V) (u:Value) (Q:St->Hp->Prop),aV X pins σ H s->RelV v u->t v σ H Q ->
  wpAny (model X.prog X.w) X.A (assign target X.env u) (fun _ s'=>∃ σ' H',aV X pins σ' H' s'/\Q σ' H') X.xe s
def Hh (X:Cx) (ts:List Expr) (t:Cs):Prop :=
 ∀ (pins:List (Addr×Obj)) (s:Shared) (σ:St) (H:Hp) (vs:List V) (us:List Value) (Q:St->Hp->Prop),aV X pins σ H s->Vals vs us->t vs σ H Q ->
  wpAny (model X.prog X.w) X.A (assignInOrder ((assignEach ts X.env).map (·.2)) us) (fun _ s'=>∃ σ' H',aV X pins σ' H' s'/\Q σ' H') X.xe s
abbrev Dh:=V->V->V->Hp->(Hp->Prop)->Prop
def G5 (X:Cx) (t:Dh):Prop :=
 ∀ (pins:List (Addr×Obj)) (s:Shared) (σ:St) (H:Hp) (o i v:V) (ov iv u:Value) (Q:Hp->Prop),aV X pins σ H s->RelV o ov->RelV i iv->RelV v u->t o i v H Q ->
  wpAny (model X.prog X.w) X.A (setItem ov iv u) (fun _ s'=>∃ H',aV X pins σ H' s'/\Q H') X.xe s
section
variable {X:Cx} {pos:Pos}
def pf (i:Nat):TG:=fun v σ H Q=>Q (σ.set i (some v)) H
theorem aB {i:Nat} {x:Str} (hN:X.N.Nodup) (hi:X.N[i]?=some x) (hx:GO X.env.scope x) (hf:X.fn x=true∨X.env.scope.names.lookup x=some .local:=by first | exact .inl rfl | exact .inr rfl | assumption):PG X (.Name x pos) (pf i):=by
 intro pins s σ H v u Q I r h
 exact wpAny_assign_Name (wZ I hN hi hx r (fun s' I'=>⟨_,H,I',h⟩) hf)
def Fs:Cs:=fun vs σ H Q=>vs=[]/\Q σ H
def zp (t:TG) (u:Cs):Cs:=fun vs σ H Q=>∃ v r,vs=v :: r/\t v σ H fun σ' H'=>u r σ' H' Q
theorem cX:Hh X [] Fs:=by
 intro pins s σ H vs us Q I r h
 obtain ⟨e,h⟩:=h
 subst e
 cases r
 exact assignInOrder_nil ⟨σ,H,I,h⟩
theorem aS {e:Expr} {es:List Expr} {t:TG} {u:Cs} (h1:PG X e t) (h2:Hh X es u)
  (hs:(assignEach (e :: es) X.env).map (·.2)=assign e X.env :: (assignEach es X.env).map (·.2):=by rfl):Hh X (e :: es) (zp t u):=by
 intro pins s σ H vs us Q I r h
 obtain ⟨v,vr,e1,h⟩:=h
 subst e1
 cases r with
 | cons r rr =>
  rw [hs]
  refine assignInOrder_cons (cE (h1 pins s σ H _ _ _ I r h) fun _ s1 ⟨σ1,H1,I1,q1⟩=>?_)
  exact h2 pins s1 σ1 H1 _ _ Q I1 rr q1
def Ca (K:PySem.W.Frag) (n:Nat) (t:Cs):TG:=fun v σ H Q=>∃ a xs,v=.ref a/\aZ K H a xs/\xs.length=n/\t xs σ H Q
theorem GI {es:List Expr} {k:Nat} {t:Cs} {n:Nat} (hc:X.calm=true) (h:Hh X es t)
  (hn:(assignEach es X.env).length=n:=by rfl) (hst:(assignEach es X.env).findIdx? (·.1)=none:=by rfl):PG X (.Tuple es k pos) (Ca X.K n t):=by
 intro pins s σ H v u Q I r hw
 obtain ⟨a,xs,e1,hq,hl,hw⟩:=hw
 subst e1
 cases r
 obtain ⟨its,rv,ht,hz⟩:=I.tuple hq
 refine assign_Tuple_tuple (I.ok.hd hc) ht (by simp [hn,← hl,rv.length]) hst fun h' hx=>?_
 have I1:aV X pins σ H { s with heap:=h' }:=I.kept (t':=s.toks) fun b o e=>hx b o (Nat.ne_of_lt (Heap.lt_size e)) e
 exact h pins _ σ H xs _ Q I1 (by simpa using rv) hw
def Ho (to ti:TE) (t:Dh):TG:=fun v σ H Q=>to σ H fun o H1=>ti σ H1 fun i H2=>t o i v H2 fun H3=>Q σ H3
theorem uK {o i:Expr} {to ti:TE} {t:Dh} (ho:PE X o to) (hi:PE X i ti) (hs:G5 X t)
  (ha:∀ v,assign (.Subscript o i pos) X.env v=(do
   let ov ← holding [v] (eval o X.env)
   let iv ← holding [v,ov] (eval i X.env)
   standAt pos
   holding [v,ov,iv] (setItem ov iv v)
   release [v,ov,iv] []):=by intro _; rfl):PG X (.Subscript o i pos) (Ho to ti t):=by
 intro pins s σ H v u Q I r h
 rw [ha]
 refine wpAny_bind (wpAny_holding (cE (ho pins s σ H _ I h) fun ov s1 ⟨x,H1,I1,r1,q1⟩=>?_))
 refine wpAny_bind (wpAny_holding (cE (hi pins s1 σ H1 _ I1 q1) fun iv s2 ⟨y,H2,I2,r2,q2⟩=>?_))
 refine wpAny_bind (wpAny_standAt (wpAny_bind (wpAny_holding (cE (hs pins s2 σ H2 x y v ov iv u _ I2 r1 r2 r q2) fun _ s3 ⟨H3,I3,q3⟩=>?_))))
 exact wpAny_release ⟨σ,H3,I3,q3⟩
def zw (te:TE) (g:TG):TS:=fun D σ H=>te σ H fun x H1=>g x σ H1 D.nx
theorem iW {tg e:Expr} {te:TE} {g:TG} (he:PE X e te) (hg:PG X tg g) (hs:swapsWithSole [tg] e pos.line X.env=pure false:=by rfl) (hw:swappedStores [tg] e X.env=pure none:=by rfl)
  (h1:(assignEach [tg] X.env).map (·.2)=[assign tg X.env]:=by rfl):PS X (.Assign [tg] e pos) (zw te g):=by
 intro pins s σ H D I h
 refine wpAny_Assign_stores (cE (he pins s σ H _ I h) fun v s1 ⟨x,H1,I1,r1,q1⟩=>?_) hs hw
 rw [h1]
 exact cE (hg pins s1 σ H1 x v _ I1 r1 q1) fun _ s2 q=>q
theorem aC {i:Nat} {x:Str} {e:Expr} {te:TE} {pos':Pos} (hN:X.N.Nodup) (hi:X.N[i]?=some x) (hx:GO X.env.scope x) (he:PE X e te) (hs:swapsWith e (some (.Name x pos')) pos.line X.env=pure false:=by rfl) (hf:X.fn x=true∨X.env.scope.names.lookup x=some .local:=by first | exact .inl rfl | exact .inr rfl | assumption) :
  PS X (.Assign [.Name x pos'] e pos) (zw te (pf i)):=by
 intro pins s σ H D I h
 refine wpAny_Assign_Name (cE (he pins s σ H _ I h) fun v s1 ⟨y,H1,I1,r1,q1⟩=>?_) hs
 exact wZ I1 hN hi hx r1 (fun s2 I2=>⟨_,H1,I2,q1⟩) hf
end
section
variable {X:Cx} {pos:Pos}
end
structure It where
 go:Nat->Hp->Prop
 yld:Nat->Hp->V->Hp->Prop
 stop:Nat->Hp->Prop
def pS (X:Cx) (pins:List (Addr×Obj)) (H:Hp) (b:Addr):Prop :=
 H b=none/\b≠X.env.locals/\b∉X.fs/\(b∈X.ex∨X.s₀.heap.objs.size<=b)/\(∀ x c,X.env.cells.lookup x=some c->c≠b)/\∀ p∈X.pn ++ pins,p.1≠b
theorem aV.fpOk {X:Cx} {pins:List (Addr×Obj)} {σ:St} {H H':Hp} {s:Shared} {b:Addr} (I:aV X pins σ H s) (hb:s.heap.objs.size<=b) (hn:H' b=none):pS X pins H' b:=by
 refine ⟨hn,Nat.ne_of_gt (Nat.lt_of_lt_of_le I.lt hb),I.nofs hb,.inr (Nat.le_trans I.sz hb),fun x c e z=>?_,fun p hp z=>?_⟩
 ·obtain ⟨v,q⟩:=I.cell x c e
  exact absurd (Nat.lt_of_lt_of_le q.lt (by rw [z]; exact hb)) (Nat.lt_irrefl _)
 ·exact absurd (Nat.lt_of_lt_of_le (Heap.lt_size (I.pin p hp).1) (by rw [z]; exact hb)) (Nat.lt_irrefl _)
structure yr (P:Program) (w:World) (K:PySem.W.Frag) (tg:Expr) (J:It) (fp:List Addr) (it:Addr) (tn:Nat->Heap->Prop):Prop where
 mem:it∈fp
 obj:∀ i h,tn i h->∀ b∈fp,∃ o,h.get? b=some o/\∀ v,o.data≠.cell v
 keep:∀ i h h',tn i h->(∀ b∈fp,∀ o,h.get? b=some o->h'.get? b=some o)->tn i h'
 item:∀ (X:Cx),X.prog=P->X.w=w->X.K=K->X.calm=true->∀ (i:Nat) (pins:List (Addr×Obj)) (s:Shared) (σ:St) (H:Hp) (E:Value->Shared->Prop),aV X pins σ H s->(∀ b∈fp,pS X pins H b)->tn i s.heap->J.go i H ->
  wpAny (model P w) X.A (pyNext (.ref it)) (fun r s1=>∃ u,r=some u /\
   wpAny (model P w) X.A (letOwnedTupleGo tg (.ref it) u) (fun _ s2=>∃ x H',aV X pins σ H' s2/\RelV x u/\J.yld i H x H'/\tn (i + 1) s2.heap/\∀ b∈fp,H' b=none) E s1) E s
 done:∀ (X:Cx),X.prog=P->X.w=w->X.K=K->X.calm=true->∀ (i:Nat) (pins:List (Addr×Obj)) (s:Shared) (σ:St) (H:Hp) (E:Value->Shared->Prop),aV X pins σ H s->(∀ b∈fp,pS X pins H b)->tn i s.heap->J.stop i H ->
  wpAny (model P w) X.A (pyNext (.ref it)) (fun r s1=>r=none/\aV X pins σ H s1) E s
 self:∀ (A:Around) (i:Nat) (s:Shared) (Q:Value->Shared->Prop) (E:Value->Shared->Prop),tn i s.heap->Q (.ref it) s->wpAny (model P w) A (pyIter (.ref it)) Q E s
abbrev TI:=St->Hp->(It->Hp->Prop)->Prop
def JC (X:Cx) (pins:List (Addr×Obj)) (σ:St) (tg:Expr) (R:It->Hp->Prop) (itv:Value) (s2:Shared):Prop :=
 ∃ (it:Addr) (fp:List Addr) (tn:Nat->Heap->Prop) (J:It) (H':Hp),itv=.ref it/\aV X pins σ H' s2/\yr X.prog X.w X.K tg J fp it tn/\tn 0 s2.heap/\(∀ b∈fp,pS X pins H' b)/\R J H'
def PI (X:Cx) (tg iter:Expr) (wi:TI):Prop :=
 ∀ (pins:List (Addr×Obj)) (s:Shared) (σ:St) (H:Hp) (R:It->Hp->Prop),aV X pins σ H s->wi σ H R ->
  wpAny (model X.prog X.w) X.A (eval iter X.env) (fun v s1=>wpAny (model X.prog X.w) X.A (pyIter v) (JC X pins σ tg R) X.xe s1) X.xe s
theorem BW {M:Model} {A:Around} {E:Value->Shared->Prop} {s:Shared} {tg:Expr} {it:Addr} {u:Value} {o:Obj} {n:String} {vs:Array Value} {Q:Unit->Shared->Prop} (ho:s.heap.get? it=some o) (hc:o.cls=.type n) (hd:o.data=.fields vs)
  (hn:["enumerate","zip","dict_itemiterator","dict_reverseitemiterator","odict_iterator","itertools.zip_longest","itertools.pairwise"].contains n=false) (hQ:Q () s):wpAny M A (letOwnedTupleGo tg (.ref it) u) Q E s:=by
 unfold letOwnedTupleGo
 cases tg <;> first
  | exact wpAny_pure hQ
  | (cases u <;> first
    | exact wpAny_pure hQ
    | (refine wpAny_bind (wpAny_load ho ?_)
       rw [hc,hd]
       show wpAny M A (if (["enumerate","zip","dict_itemiterator","dict_reverseitemiterator","odict_iterator","itertools.zip_longest","itertools.pairwise"].contains n && vs[0]? == some (rawInt _))=true then _ else _) Q E s
       rw [if_neg (by intro h; rw [hn,Bool.false_and] at h; cases h)]
       exact wpAny_pure hQ))
def Cv (K:PySem.W.Frag) (a:Addr):It :=
 ⟨fun i H=>∃ xs x,bb K H a xs/\xs[i]?=some x,fun i H x H'=>H'=H/\∀ xs,bb K H a xs->xs[i]?=some x,fun i H=>∃ xs,bb K H a xs/\xs.length<=i⟩
def Ct (K:PySem.W.Frag) (a:Addr):It :=
 ⟨fun i H=>∃ xs x,aZ K H a xs/\xs[i]?=some x,fun i H x H'=>H'=H/\∀ xs,aZ K H a xs->xs[i]?=some x,fun i H=>∃ xs,aZ K H a xs/\xs.length<=i⟩
def Cr (lo:Int) (n:Nat):It:=⟨fun i _=>i < n,fun i H x H'=>H'=H/\x=.int (lo + i),fun i _=>n<=i⟩
theorem tD {P:Program} {w:World} {K:PySem.W.Frag} {tg:Expr} (a it:Addr):yr P w K tg (Cv K a) [it] it (fun i h=>h.IsListIter it a i) where
 mem:=by simp
 obj:=fun i h st b hb=>by
  have e:b=it:=by simpa using hb
  subst e
  obtain ⟨o,e,c,d⟩:=st
  exact ⟨o,e,fun v z=>by rw [d] at z; cases z⟩
 keep:=fun i h h' st k=>st.at fun o e=>k it (by simp) o e
 item:=by
  intro X hP hw hK hc i pins s σ H E I hf st hg
  subst hP hw hK
  obtain ⟨xs,x,hq,hx⟩:=hg
  obtain ⟨its,rv,p,hz⟩:=I.list hq
  obtain ⟨u,hu,ru⟩:=rv.get hx
  obtain ⟨f0,f1,f2,f3,f4,f5⟩:=hf it (by simp)
  refine wpAny_pyNext_list_item st p.isList (x:=u) (by simpa using hu) fun h' st' sb=>?_
  have I1:aV X pins σ H { s with heap:=h' }:=I.turned (t':=s.toks) (fun b o hb e=>(sb.2 b hb).trans e) f0 f1 f3 f4 f5
  obtain ⟨o,e,c,d⟩:=id st'
  exact ⟨u,rfl,BW (s:={ s with heap:=h' }) e c d (by decide) ⟨x,H,I1,ru,⟨rfl,fun ys hy=>by rw [I.list_inj hy hq]; exact hx⟩,st',fun b hb=>(hf b hb).1⟩⟩
 done:=by
  intro X hP hw hK hc i pins s σ H E I hf st hg
  subst hP hw hK
  obtain ⟨xs,hq,hx⟩:=hg
  obtain ⟨its,rv,p,hz⟩:=I.list hq
  obtain ⟨f0,f1,f2,f3,f4,f5⟩:=hf it (by simp)
  have hl:=rv.length
  exact wpAny_pyNext_list_end (I.ok.hd hc) st p.isList (by simp; omega) fun h' eb=>⟨rfl,I.turned (t':=s.toks) (fun b o hb e=>eb b o hb e) f0 f1 f3 f4 f5⟩
 self:=fun _ _ _ _ _ st h=>wpAny_pyIter_listiter st h
theorem qC {P:Program} {w:World} {K:PySem.W.Frag} {tg:Expr} (a it:Addr):yr P w K tg (Ct K a) [it] it (fun i h=>h.IsTupleIter it a i) where
 mem:=by simp
 obj:=fun i h st b hb=>by
  have e:b=it:=by simpa using hb
  subst e
  obtain ⟨o,e,c,d⟩:=st
  exact ⟨o,e,fun v z=>by rw [d] at z; cases z⟩
 keep:=fun i h h' st k=>st.at fun o e=>k it (by simp) o e
 item:=by
  intro X hP hw hK hc i pins s σ H E I hf st hg
  subst hP hw hK
  obtain ⟨xs,x,hq,hx⟩:=hg
  obtain ⟨its,rv,p,hz⟩:=I.tuple hq
  obtain ⟨u,hu,ru⟩:=rv.get hx
  obtain ⟨f0,f1,f2,f3,f4,f5⟩:=hf it (by simp)
  refine wpAny_pyNext_tuple_item st (show s.heap.IsTuple a its.toArray from p) (x:=u) (by simpa using hu) fun h' st' sb=>?_
  have I1:aV X pins σ H { s with heap:=h' }:=I.turned (t':=s.toks) (fun b o hb e=>(sb.2 b hb).trans e) f0 f1 f3 f4 f5
  obtain ⟨o,e,c,d⟩:=id st'
  exact ⟨u,rfl,BW (s:={ s with heap:=h' }) e c d (by decide) ⟨x,H,I1,ru,⟨rfl,fun ys hy=>by rw [I.tuple_inj hy hq]; exact hx⟩,st',fun b hb=>(hf b hb).1⟩⟩
 done:=by
  intro X hP hw hK hc i pins s σ H E I hf st hg
  subst hP hw hK
  obtain ⟨xs,hq,hx⟩:=hg
  obtain ⟨its,rv,p,hz⟩:=I.tuple hq
  obtain ⟨f0,f1,f2,f3,f4,f5⟩:=hf it (by simp)
  have hl:=rv.length
  exact wpAny_pyNext_tuple_end (I.ok.hd hc) st (show s.heap.IsTuple a its.toArray from p) (by simp; omega) fun h' eb=>⟨rfl,I.turned (t':=s.toks) (fun b o hb e=>eb b o hb e) f0 f1 f3 f4 f5⟩
 self:=fun _ _ _ _ _ st h=>wpAny_pyIter_tupleiter st h
theorem xJ {P:Program} {w:World} {K:PySem.W.Frag} {tg:Expr} (it:Addr) (lo:Int) (n:Nat):yr P w K tg (Cr lo n) [it] it (fun i h=>IsRangeIter h it (lo + (i:Nat) * 1) ((n:Int) - (i:Nat)) 1) where
 mem:=by simp
 obj:=fun i h st b hb=>by
  have e:b=it:=by simpa using hb
  subst e
  exact ⟨_,st,fun v z=>by
   have z':Data.fields _=Data.cell v:=z
   cases z'⟩
 keep:=fun i h h' st k=>k it (by simp) _ st
 item:=by
  intro X hP hw hK hc i pins s σ H E I hf st hg
  subst hP hw hK
  obtain ⟨f0,f1,f2,f3,f4,f5⟩:=hf it (by simp)
  have W:=Walks.range (prog:=X.prog) (w:=X.w) (I.ok.hd hc) it lo 1 n
  refine W.item i s _ _ hg st fun v h' tk hv st' kk=>?_
  obtain ⟨t,rfl⟩:=hv
  have I1:aV X pins σ H { s with heap:=h',toks:=tk }:=I.turned (fun b o hb e=>kk b o (by simpa using hb) e) f0 f1 f3 f4 f5
  refine ⟨_,rfl,BW (s:={ s with heap:=h',toks:=tk }) (n:="range_iterator") st' rfl rfl (by decide) ⟨.int (lo + i),H,I1,⟨t,?_⟩,⟨rfl,rfl⟩,st',fun b hb=>(hf b hb).1⟩⟩
  rw [Int.mul_one]
 done:=by
  intro X hP hw hK hc i pins s σ H E I hf st hg
  subst hP hw hK
  obtain ⟨f0,f1,f2,f3,f4,f5⟩:=hf it (by simp)
  exact wpAny_pyNext_range_end (I.ok.hd hc) st (by have:n<=i:=hg; omega) fun h' eb=>⟨rfl,I.turned (t':=s.toks) (fun b o hb e=>eb b o hb e) f0 f1 f3 f4 f5⟩
 self:=fun _ _ _ _ _ st h=>wpAny_pyIter_rangeiter st h
end L2
namespace L2
open PySem PySem.Spec PyProof.Rows
section
variable {X:Cx} {tg:Expr}
def AW (K:PySem.W.Frag) (tl:TE):TI:=fun σ H R=>tl σ H fun x H1=>∃ a,x=.ref a/\(∃ xs,bb K H1 a xs)/\R (Cv K a) H1
def Fz (K:PySem.W.Frag) (tl:TE):TI:=fun σ H R=>tl σ H fun x H1=>∃ a,x=.ref a/\(∃ xs,aZ K H1 a xs)/\R (Ct K a) H1
theorem CQ {l:Expr} {tl:TE} (hl:PE X l tl):PI X tg l (AW X.K tl):=by
 intro pins s σ H R I h
 refine cE (hl pins s σ H _ I h) fun v s1 ⟨x,H1,I1,r1,q1⟩=>?_
 obtain ⟨a,e,⟨xs,hq⟩,q⟩:=q1
 subst e
 cases r1
 obtain ⟨its,rv,p,hz⟩:=I1.list hq
 refine wpAny_pyIter_list p.isList ?_
 refine ⟨s1.heap.objs.size,[s1.heap.objs.size],_,_,H1,rfl,I1.kept (t':=s1.toks) fun b o e=>Heap.get?_push_of_some _ e,tD a _,⟨_,Heap.get?_push_size _ rfl,rfl,rfl⟩,fun b hb=>?_,q⟩
 have e:b=s1.heap.objs.size:=by simpa using hb
 subst e
 exact I1.fpOk (Nat.le_refl _) (I1.hok.fresh (Nat.le_refl _))
theorem EY {l:Expr} {tl:TE} (hl:PE X l tl):PI X tg l (Fz X.K tl):=by
 intro pins s σ H R I h
 refine cE (hl pins s σ H _ I h) fun v s1 ⟨x,H1,I1,r1,q1⟩=>?_
 obtain ⟨a,e,⟨xs,hq⟩,q⟩:=q1
 subst e
 cases r1
 obtain ⟨its,rv,p,hz⟩:=I1.tuple hq
 refine wpAny_pyIter_tuple (show s1.heap.IsTuple a its.toArray from p) ?_
 refine ⟨s1.heap.objs.size,[s1.heap.objs.size],_,_,H1,rfl,I1.kept (t':=s1.toks) fun b o e=>Heap.get?_push_of_some _ e,qC a _,⟨_,Heap.get?_push_size _ rfl,rfl,rfl⟩,fun b hb=>?_,q⟩
 have e:b=s1.heap.objs.size:=by simpa using hb
 subst e
 exact I1.fpOk (Nat.le_refl _) (I1.hok.fresh (Nat.le_refl _))
theorem Bo {pins:List (Addr×Obj)} {σ:St} {H:Hp} {s:Shared} {R:It->Hp->Prop} {E:Value->Shared->Prop} {lo hi:Int} {t u v:Tok} {tk:Nat} (I:aV X pins σ H s) (h1:-(2 ^ 62)<=lo) (h2:lo < 2 ^ 62) (h3:-(2 ^ 62)<=hi) (h4:hi < 2 ^ 62)
  (q:R (Cr lo (hi - lo).toNat) H):wpAny (model X.prog X.w) X.A (pyIter (.ref s.heap.objs.size)) (JC X pins σ tg R) E { s with heap:=s.heap.push { cls:=.type "range",data:=.fields #[.int lo t,.int hi u,.int 1 v] },toks:=tk }:=by
 refine wpAny_pyIter_range (IsRange.new ..) (small_one h1 h2 h3 h4) ?_
 have I1:aV X pins σ H { s with heap:=s.heap.push { cls:=.type "range",data:=.fields #[.int lo t,.int hi u,.int 1 v] },toks:=tk }:=I.kept fun b o e=>Heap.get?_push_of_some _ e
 refine ⟨(s.heap.push { cls:=.type "range",data:=.fields #[.int lo t,.int hi u,.int 1 v] }).objs.size,[(s.heap.push { cls:=.type "range",data:=.fields #[.int lo t,.int hi u,.int 1 v] }).objs.size],_,_,H,rfl,
  I1.kept (t':=tk) fun b o e=>Heap.get?_push_of_some _ e,xJ _ lo (hi - lo).toNat,?_,fun b hb=>?_,q⟩
 ·have e1:lo + ((0:Nat):Int) * 1=lo:=by simp
  have e2:(((hi - lo).toNat:Nat):Int) - ((0:Nat):Int)=Builtin.Range.rangeSize lo hi 1:=by rw [rangeSize_one]; split <;> omega
  show IsRangeIter _ _ (lo + ((0:Nat):Int) * 1) ((((hi - lo).toNat:Nat):Int) - ((0:Nat):Int)) 1
  rw [e1,e2]
  exact Heap.get?_push_size _ rfl
 ·have e:b=(s.heap.push { cls:=.type "range",data:=.fields #[.int lo t,.int hi u,.int 1 v] }).objs.size:=by simpa using hb
  subst e
  exact I1.fpOk (Nat.le_refl _) (I1.hok.fresh (Nat.le_refl _))
def Ep (ta:TA):TI:=fun σ H R=>ta σ H fun vs H1=>∃ j:Int,vs=[.int j]/\-(2 ^ 62)<=j/\j < 2 ^ 62/\R (Cr 0 j.toNat) H1
theorem eE {a:Expr} {ta:TA} {p pos:Pos} (hg:Gl X "range") (hm:X.mg "range"=none) (ha:PA X [a] ta) (hs:starEach [a] X.env=[(false,eval a X.env)]:=by rfl):PI X tg (.Call (.Name "range" p) [a] [] pos) (Ep ta):=by
 intro pins s σ H R I h
 refine Call_ (rR I hg hm boot_range (PyProof.Rows.callWith_type1 (cE (ha pos pins s σ H _ I h) fun us s1 ⟨vs,H1,I1,r1,q1⟩=>?_) hs rfl))
 obtain ⟨j,e,q1,q2,q⟩:=q1
 subst e
 cases r1 with
 | cons r rr =>
  cases rr
  obtain ⟨t,rfl⟩:=r
  exact call_range_1 (Bo I1 (by omega) (by omega) q1 q2 (by simpa using q))
def CJ (wi:TI) (g:TG) (tb:TS):TS:=fun D σ H=>wi σ H fun J H1=>∃ W:Nat->Nat->St->Hp->Prop,(∃ m,W 0 m σ H1)/\∀ i m σ H,W i m σ H ->
 (J.stop i H/\D.nx σ H)∨(J.go i H/\∃ N:St->Hp->Prop,(∀ σ' H',N σ' H'->∃ m',m' < m/\W (i + 1) m' σ' H')/\∀ x H',J.yld i H x H'->g x σ H' fun σ2 H2=>tb { D with nx:=N,ct:=N,bk:=D.nx } σ2 H2)
def om (fp:List Addr) (h:Heap):List (Addr×Obj):=fp.filterMap fun b=>(h.get? b).map fun o=>(b,o)
theorem fH {fp:List Addr} {h:Heap} {b:Addr} {o:Obj} (hb:b∈fp) (e:h.get? b=some o):(b,o)∈om fp h:=List.mem_filterMap.mpr ⟨b,hb,by rw [e]; rfl⟩
theorem zz {fp:List Addr} {h:Heap} {p:Addr×Obj} (hp:p∈om fp h):p.1∈fp/\h.get? p.1=some p.2:=by
 obtain ⟨b,hb,e⟩:=List.mem_filterMap.mp hp
 cases q:h.get? b with
 | none=>rw [q] at e; cases e
 | some o =>
  rw [q] at e
  have e':(b,o)=p:=Option.some.inj e
  subst e'
  exact ⟨hb,q⟩
theorem aV.pinned {pins:List (Addr×Obj)} {σ:St} {H:Hp} {s:Shared} {fp:List Addr} (I:aV X pins σ H s) (hf:∀ b∈fp,pS X pins H b) (ho:∀ b∈fp,∃ o,s.heap.get? b=some o/\∀ v,o.data≠.cell v):aV X (pins ++ om fp s.heap) σ H s :=
 I.pins_of fun p hp=>(List.mem_append.mp hp).elim (fun z=>I.pin p (List.mem_append_right _ z)) fun z=>by
  obtain ⟨hb,e⟩:=zz z
  obtain ⟨f0,f1,f2,_⟩:=hf p.1 hb
  obtain ⟨o,e',d⟩:=ho p.1 hb
  rw [e] at e'; cases e'
  exact ⟨e,f0,f1,f2,d⟩
theorem aV.unpinned {pins pl:List (Addr×Obj)} {σ:St} {H:Hp} {s:Shared} (I:aV X (pins ++ pl) σ H s):aV X pins σ H s:=I.pins_of fun p hp=>I.pin p (List.mem_append_right _ (List.mem_append_left _ hp))
theorem cA {iter:Expr} {body:List Stmt} {wi:TI} {g:TG} {tb:TS} {pos:Pos} (hp:PassesOwn (model X.prog X.w) X.A X.env X.xe) (hc:X.calm=true) (hi:PI X tg iter wi) (hg:PG X tg g) (hb:Ag X body tb)
  (hs:∀ x,foldedSetIterable iter X.env x=pure x:=by intro _; rfl):PS X (.For tg iter body [] pos) (CJ wi g tb):=by
 intro pins s σ H D I h
 refine wpAny_For (cE (hi pins s σ H _ I h) fun v s1 h1=>cE h1 fun itv s2 h2=>?_) hs
 obtain ⟨it,fp,tn,J,H2,e,I2,T,st2,f2,W,⟨m0,w0⟩,turn⟩:=h2
 subst e
 -- what stays true of the iterator's objects through the loop
 have stat:∀ {H':Hp},(∀ b∈fp,H' b=none)->∀ b∈fp,pS X pins H' b:=fun hn b hb=>⟨hn b hb,(f2 b hb).2⟩
 refine codeAny_forLoop_any (fun n s'=>∃ i σ' H',aV X pins σ' H' s'/\tn i s'.heap/\(∀ b∈fp,H' b=none)/\W i n σ' H') ?_ m0 ⟨0,σ,H2,I2,st2,fun b hb=>(f2 b hb).1,w0⟩
 rintro n s3 ⟨i,σ3,H3,I3,st3,fr3,w3⟩
 rcases turn i n σ3 H3 w3 with ⟨stop,qn⟩ | ⟨go,N,hN,step⟩
 ·refine wpAny_passesOwn hp (cE (T.done X rfl rfl rfl hc i pins s3 σ3 H3 X.xe I3 (stat fr3) st3 stop) fun r s4 ⟨hr,I4⟩=>?_)
  subst hr
  exact wpAny_execs_nil ⟨σ3,H3,I4,qn⟩
 ·refine wpAny_passesOwn hp (cE (T.item X rfl rfl rfl hc i pins s3 σ3 H3 X.xe I3 (stat fr3) st3 go) fun r s4 ⟨u,hr,h4⟩=>?_)
  subst hr
  refine wpAny_passesOwn hp (cE h4 fun _ s5 ⟨x,H5,I5,r5,y5,st5,fr5⟩=>?_)
  have I5':=I5.pinned (stat fr5) (T.obj _ _ st5)
  refine wpAny_passesOwn hp (cE (hg _ s5 σ3 H5 x u _ I5' r5 (step x H5 y5)) fun _ s6 ⟨σ6,H6,I6,q6⟩=>?_)
  refine wpAny_passesOwn hp (cE (hb _ s6 σ6 H6 _ I6 q6) fun f s7 q7=>?_)
  have again:∀ {σ7:St} {H7:Hp},aV X (pins ++ om fp s5.heap) σ7 H7 s7->N σ7 H7->∃ m,m < n/\∃ i σ' H',aV X pins σ' H' s7/\tn i s7.heap/\(∀ b∈fp,H' b=none)/\W i m σ' H':=fun {σ7 H7} I7 n7=>by
   obtain ⟨m',hm,w7⟩:=hN σ7 H7 n7
   refine ⟨m',hm,i + 1,σ7,H7,I7.unpinned,T.keep _ _ _ st5 fun b hb o e=>(I7.pin (b,o) (List.mem_append_right _ (List.mem_append_right _ (fH hb e)))).1,fun b hb=>?_,w7⟩
   obtain ⟨o,e,d⟩:=T.obj _ _ st5 b hb
   exact (I7.pin (b,o) (List.mem_append_right _ (List.mem_append_right _ (fH hb e)))).2.1
  cases f with
  | next=>obtain ⟨σ7,H7,I7,n7⟩:=q7; exact again I7 n7
  | cont=>obtain ⟨σ7,H7,I7,n7⟩:=q7; exact again I7 n7
  | brk=>obtain ⟨σ7,H7,I7,q7⟩:=q7; exact ⟨σ7,H7,I7.unpinned,q7⟩
  | ret v=>obtain ⟨x7,σ7,H7,I7,r7,q7⟩:=q7; exact ⟨x7,σ7,H7,I7.unpinned,r7,q7⟩
end
theorem bZ {K:PySem.W.Frag} {a:Addr} {xs:List V} {g:TG} {tb:TS} {D:mI} {σ:St} {H:Hp} (Pv:Nat->St->Hp->Prop) (h0:Pv 0 σ H) (hl:∀ i σ H,i<=xs.length->Pv i σ H->bb K H a xs)
  (hs:∀ i x σ H,xs[i]?=some x->Pv i σ H->g x σ H fun σ2 H2=>tb { D with nx:=Pv (i + 1),ct:=Pv (i + 1),bk:=D.nx } σ2 H2) (hd:∀ σ H,Pv xs.length σ H->D.nx σ H) :
  ∃ W:Nat->Nat->St->Hp->Prop,(∃ m,W 0 m σ H)/\∀ i m σ H,W i m σ H ->
   ((Cv K a).stop i H/\D.nx σ H)∨((Cv K a).go i H/\∃ N:St->Hp->Prop,(∀ σ' H',N σ' H'->∃ m',m' < m/\W (i + 1) m' σ' H')/\∀ x H',(Cv K a).yld i H x H'->g x σ H' fun σ2 H2=>tb { D with nx:=N,ct:=N,bk:=D.nx } σ2 H2):=by
 refine ⟨fun i m σ H=>m=xs.length - i/\i<=xs.length/\Pv i σ H,⟨xs.length,by simp,Nat.zero_le _,h0⟩,?_⟩
 rintro i m σ H ⟨rfl,hi,p⟩
 have q:=hl i σ H hi p
 by_cases hlt:i < xs.length
 ·refine .inr ⟨⟨xs,xs[i],q,by simp [hlt]⟩,Pv (i + 1),fun σ' H' p'=>⟨xs.length - (i + 1),by omega,rfl,hlt,p'⟩,fun x H' y=>?_⟩
  obtain ⟨e,y⟩:=y
  subst e
  exact hs i x σ _ (y xs q) p
 ·have e:i=xs.length:=by omega
  subst e
  exact .inl ⟨⟨xs,q,Nat.le_refl _⟩,hd σ H p⟩
theorem D6 {K:PySem.W.Frag} {a:Addr} {xs:List V} {g:TG} {tb:TS} {D:mI} {σ:St} {H:Hp} (Pv:Nat->St->Hp->Prop) (h0:Pv 0 σ H) (hl:∀ i σ H,i<=xs.length->Pv i σ H->aZ K H a xs)
  (hs:∀ i x σ H,xs[i]?=some x->Pv i σ H->g x σ H fun σ2 H2=>tb { D with nx:=Pv (i + 1),ct:=Pv (i + 1),bk:=D.nx } σ2 H2) (hd:∀ σ H,Pv xs.length σ H->D.nx σ H) :
  ∃ W:Nat->Nat->St->Hp->Prop,(∃ m,W 0 m σ H)/\∀ i m σ H,W i m σ H ->
   ((Ct K a).stop i H/\D.nx σ H)∨((Ct K a).go i H/\∃ N:St->Hp->Prop,(∀ σ' H',N σ' H'->∃ m',m' < m/\W (i + 1) m' σ' H')/\∀ x H',(Ct K a).yld i H x H'->g x σ H' fun σ2 H2=>tb { D with nx:=N,ct:=N,bk:=D.nx } σ2 H2):=by
 refine ⟨fun i m σ H=>m=xs.length - i/\i<=xs.length/\Pv i σ H,⟨xs.length,by simp,Nat.zero_le _,h0⟩,?_⟩
 rintro i m σ H ⟨rfl,hi,p⟩
 have q:=hl i σ H hi p
 by_cases hlt:i < xs.length
 ·refine .inr ⟨⟨xs,xs[i],q,by simp [hlt]⟩,Pv (i + 1),fun σ' H' p'=>⟨xs.length - (i + 1),by omega,rfl,hlt,p'⟩,fun x H' y=>?_⟩
  obtain ⟨e,y⟩:=y
  subst e
  exact hs i x σ _ (y xs q) p
 ·have e:i=xs.length:=by omega
  subst e
  exact .inl ⟨⟨xs,q,Nat.le_refl _⟩,hd σ H p⟩
theorem hU {lo:Int} {n:Nat} {g:TG} {tb:TS} {D:mI} {σ:St} {H:Hp} (Pv:Nat->St->Hp->Prop) (h0:Pv 0 σ H)
  (hs:∀ i σ H,i < n->Pv i σ H->g (.int (lo + i)) σ H fun σ2 H2=>tb { D with nx:=Pv (i + 1),ct:=Pv (i + 1),bk:=D.nx } σ2 H2) (hd:∀ σ H,Pv n σ H->D.nx σ H) :
  ∃ W:Nat->Nat->St->Hp->Prop,(∃ m,W 0 m σ H)/\∀ i m σ H,W i m σ H ->
   ((Cr lo n).stop i H/\D.nx σ H)∨((Cr lo n).go i H/\∃ N:St->Hp->Prop,(∀ σ' H',N σ' H'->∃ m',m' < m/\W (i + 1) m' σ' H')/\∀ x H',(Cr lo n).yld i H x H'->g x σ H' fun σ2 H2=>tb { D with nx:=N,ct:=N,bk:=D.nx } σ2 H2):=by
 refine ⟨fun i m σ H=>m=n - i/\i<=n/\Pv i σ H,⟨n,by simp,Nat.zero_le _,h0⟩,?_⟩
 rintro i m σ H ⟨rfl,hi,p⟩
 by_cases hlt:i < n
 ·refine .inr ⟨hlt,Pv (i + 1),fun σ' H' p'=>⟨n - (i + 1),by omega,rfl,hlt,p'⟩,fun x H' y=>?_⟩
  obtain ⟨e,y⟩:=y
  subst e y
  exact hs i σ _ hlt p
 ·have e:i=n:=by omega
  subst e
  exact .inl ⟨Nat.le_refl _,hd σ H p⟩
end L2
namespace L2
open PySem PySem.Spec PyProof.Rows
abbrev R2:=V->V->Hp->VK->Prop
def j3 (X:Cx) (f:Value->Value->Sem Value) (r:R2):Prop :=
 ∀ (pins:List (Addr×Obj)) (s:Shared) (σ:St) (H:Hp) (x y:V) (v u:Value) (Q:VK),aV X pins σ H s->RelV x v->RelV y u->r x y H Q ->
  wpAny (model X.prog X.w) X.A (f v u) (EP X pins σ Q) X.xe s
def IM (X:Cx) (f:Value->Sem Value) (r:V->Hp->VK->Prop):Prop :=
 ∀ (pins:List (Addr×Obj)) (s:Shared) (σ:St) (H:Hp) (x:V) (v:Value) (Q:VK),aV X pins σ H s->RelV x v->r x H Q ->
  wpAny (model X.prog X.w) X.A (f v) (EP X pins σ Q) X.xe s
def fg (X:Cx) (f:Value) (r:List V->Hp->VK->Prop):Prop :=
 ∀ (pins:List (Addr×Obj)) (s:Shared) (σ:St) (H:Hp) (xs:List V) (us:List Value) (Q:VK),aV X pins σ H s->Vals xs us->r xs H Q ->
  wpAny (model X.prog X.w) X.A (call f us) (EP X pins σ Q) X.xe s
def Ji (X:Cx) (r:V->Hp->(Bool->Hp->Prop)->Prop):Prop :=
 ∀ (pins:List (Addr×Obj)) (s:Shared) (σ:St) (H:Hp) (x:V) (v:Value) (Q:Bool->Hp->Prop),aV X pins σ H s->RelV x v->r x H Q ->
  wpAny (model X.prog X.w) X.A (truthy v) (TP X pins σ Q) X.xe s
def GS (r:R2) (ta tb:TE):TE:=fun σ H Q=>ta σ H fun x H1=>tb σ H1 fun y H2=>r x y H2 Q
def JI (r:V->Hp->VK->Prop) (ta:TE):TE:=fun σ H Q=>ta σ H fun x H1=>r x H1 Q
def rI (C:Int->Int->Prop) (g:Int->Int->V):R2:=fun x y H Q=>∃ i j,x=.int i/\y=.int j/\C i j/\Q (g i j) H
def zM (g:Int->Int->V):R2:=fun x y H Q=>∃ i j,x=.int i/\y=.int j/\Q (g i j) H
def rU (g:Int->V):V->Hp->VK->Prop:=fun x H Q=>∃ i,x=.int i/\Q (g i) H
section
variable {X:Cx} {a b c:Expr} {ta tb tc:TE} {pos:Pos}
theorem EV (ha:PE X a ta) (hb:PE X b tb) {pins:List (Addr×Obj)} {s:Shared} {σ:St} {H:Hp} {R:V->V->Hp->Prop} (I:aV X pins σ H s)
  (h:ta σ H fun x H1=>tb σ H1 fun y H2=>R x y H2) {Q:Value->Shared->Prop} {f:Value->Value->Sem Value}
  (hf:∀ v u s2 x y H2,aV X pins σ H2 s2->RelV x v->RelV y u->R x y H2->wpAny (model X.prog X.w) X.A (f v u) Q X.xe s2) :
  wpAny (model X.prog X.w) X.A (eval a X.env) (fun v s₁=>wpAny (model X.prog X.w) X.A (eval b X.env) (fun u s₂=>wpAny (model X.prog X.w) X.A (f v u) Q X.xe s₂) X.xe s₁) X.xe s:=by
 refine cE (ha pins s σ H _ I h) fun v s1 ⟨x,H1,I1,r1,q1⟩=>?_
 refine cE (hb pins s1 σ H1 _ I1 q1) fun u s2 ⟨y,H2,I2,r2,q2⟩=>?_
 exact hf v u s2 x y H2 I2 r1 r2 q2
theorem aq {op:Operator} {r:R2} (ho:j3 X (binaryOp op) r) (ha:PE X a ta) (hb:PE X b tb):PE X (.BinOp a op b pos) (GS r ta tb):=by
 intro pins s σ H Q I h
 exact wpAny_BinOp (EV ha hb I h fun v u s2 x y H2 I2 rx ry q=>ho pins s2 σ H2 x y v u Q I2 rx ry q)
theorem eN {op:UnaryOp} {r:V->Hp->VK->Prop} (ho:IM X (unaryOp op) r) (ha:PE X a ta):PE X (.UnaryOp op a pos) (JI r ta):=by
 intro pins s σ H Q I h
 exact UnaryOp_ (cE (ha pins s σ H _ I h) fun v s1 ⟨x,H1,I1,r1,q1⟩=>ho pins s1 σ H1 x v Q I1 r1 q1)
theorem Gm {f:Value->Value->Sem Value} {C:Int->Int->Prop} {g:Int->Int->Int}
  (rule:∀ (i j:Int) (t u:Tok) (s:Shared) (Q:Value->Shared->Prop) (E:Value->Shared->Prop),C i j->Q (.int (g i j) s.toks) { s with toks:=s.toks + 1 }->wpAny (model X.prog X.w) X.A (f (.int i t) (.int j u)) Q E s) :
  j3 X f (rI C fun i j=>.int (g i j)):=by
 intro pins s σ H x y v u Q I rx ry h
 obtain ⟨i,j,rfl,rfl,hc,q⟩:=h
 obtain ⟨t,rfl⟩:=rx
 obtain ⟨t',rfl⟩:=ry
 exact rule i j t t' s _ _ hc ⟨.int (g i j),H,I.tok _,⟨_,rfl⟩,q⟩
theorem Be {f:Value->Value->Sem Value} {g:Int->Int->Int}
  (rule:∀ (i j:Int) (t u:Tok) (s:Shared) (Q:Value->Shared->Prop) (E:Value->Shared->Prop),Q (.int (g i j) s.toks) { s with toks:=s.toks + 1 }->wpAny (model X.prog X.w) X.A (f (.int i t) (.int j u)) Q E s) :
  j3 X f (zM fun i j=>.int (g i j)):=by
 intro pins s σ H x y v u Q I rx ry h
 obtain ⟨i,j,rfl,rfl,q⟩:=h
 obtain ⟨t,rfl⟩:=rx
 obtain ⟨t',rfl⟩:=ry
 exact rule i j t t' s _ _ ⟨.int (g i j),H,I.tok _,⟨_,rfl⟩,q⟩
theorem CC {f:Value->Value->Sem Value} {g:Int->Int->Bool}
  (rule:∀ (i j:Int) (t u:Tok) (s:Shared) (Q:Value->Shared->Prop) (E:Value->Shared->Prop),Q (.bool (g i j)) s->wpAny (model X.prog X.w) X.A (f (.int i t) (.int j u)) Q E s) :
  j3 X f (zM fun i j=>.bl (g i j)):=by
 intro pins s σ H x y v u Q I rx ry h
 obtain ⟨i,j,rfl,rfl,q⟩:=h
 obtain ⟨t,rfl⟩:=rx
 obtain ⟨t',rfl⟩:=ry
 exact rule i j t t' s _ _ ⟨.bl (g i j),H,I,rfl,q⟩
def Jx (i j:Int):Prop:=0 < j/\j < 1073741824
def Bj (i j:Int):Prop:=0<=j/\j<=1000000/\i.natAbs < 2 ^ 64
def vC (i j:Int):Prop:=(-(2 ^ 64) < i/\i < 2 ^ 64)∨(-(2 ^ 64) < j/\j < 2 ^ 64)
theorem vC.ok {i j:Int} (h:vC i j):IntMulOk i j:=by
 rcases h with ⟨h1,h2⟩ | ⟨h1,h2⟩
 ·exact .of_left (intBits_le_64 h1 h2)
 ·exact .of_right (intBits_le_64 h1 h2)
theorem jH (k:Nat):(0:Int)<=2 ^ k:=by
 rw [two_pow_cast]
 exact Int.natCast_nonneg _
theorem bu:j3 X (binaryOp .Add) (zM fun i j=>.int (i + j)):=Be fun _ _ _ _ _ _ _ q=>add_int q
theorem oB:j3 X (binaryOp .Sub) (zM fun i j=>.int (i - j)):=Be fun _ _ _ _ _ _ _ q=>sub_int q
theorem gL:j3 X (binaryOp .Mult) (rI vC fun i j=>.int (i * j)):=Gm fun _ _ _ _ _ _ _ hc q=>mul_int q hc.ok
theorem bM:j3 X (binaryOp .FloorDiv) (rI Jx fun i j=>.int (i / j)):=Gm fun i j _ _ _ _ _ hc q=>by
 have h1:(0:Int) < j:=hc.1
 have h2:j < 1073741824:=hc.2
 exact floordiv_int (by omega) (by rw [Int.fdiv_eq_ediv_of_nonneg i (by omega)]; exact q) (.inl (PyProof.noPylong_small (by omega)))
theorem br:j3 X (binaryOp .Mod) (rI (fun _ j=>0 < j) fun i j=>.int (i % j)):=Gm fun i j _ _ _ _ _ hc q=>by
 have h1:(0:Int) < j:=hc
 exact mod_int' (by omega) (by rw [Int.fmod_eq_emod_of_nonneg i (by omega)]; exact q)
theorem xZ:j3 X (binaryOp .Pow) (rI Bj fun i j=>.int (i ^ j.toNat)):=Gm fun _ _ _ _ _ _ _ hc q=>pow_int_small hc.1 hc.2.1 hc.2.2 q
theorem uf:j3 X (binaryOp .LShift) (rI Bj fun i j=>.int (i * 2 ^ j.toNat)):=Gm fun _ _ _ _ _ _ _ hc q=>lshift_int_small hc.1 hc.2.1 hc.2.2 q
theorem kI:j3 X (binaryOp .RShift) (rI (fun _ j=>0<=j) fun i j=>.int (i / 2 ^ j.toNat)):=Gm fun i j _ _ _ _ _ hc q =>
 rshift_int hc (by rw [Int.fdiv_eq_ediv_of_nonneg i (jH _)]; exact q)
theorem iY:j3 X (binaryOp .BitAnd) (zM fun i j=>.int (Builtin.bitAnd i j)):=Be fun _ _ _ _ _ _ _ q=>and_int q
theorem IA:j3 X (binaryOp .BitOr) (zM fun i j=>.int (Builtin.bitOr i j)):=Be fun _ _ _ _ _ _ _ q=>or_int q
theorem Bc:j3 X (binaryOp .BitXor) (zM fun i j=>.int (Builtin.bitXor i j)):=Be fun _ _ _ _ _ _ _ q=>xor_int q
theorem JB {f:Value->Sem Value} {g:Int->Int}
  (rule:∀ (i:Int) (t:Tok) (s:Shared) (Q:Value->Shared->Prop) (E:Value->Shared->Prop),Q (.int (g i) s.toks) { s with toks:=s.toks + 1 }->wpAny (model X.prog X.w) X.A (f (.int i t)) Q E s) :
  IM X f (rU fun i=>.int (g i)):=by
 intro pins s σ H x v Q I rx h
 obtain ⟨i,rfl,q⟩:=h
 obtain ⟨t,rfl⟩:=rx
 exact rule i t s _ _ ⟨.int (g i),H,I.tok _,⟨_,rfl⟩,q⟩
theorem c9:IM X (unaryOp .USub) (rU fun i=>.int (-i)):=JB fun _ _ _ _ _ q=>neg_int q
theorem Gu:IM X (unaryOp .Invert) (rU fun i=>.int (Builtin.bitNot i)):=JB fun _ _ _ _ _ q=>invert_int q
end
def HP:V->V->Bool
 | .non,.non=>true | .non,.int _=>true | .int _,.non=>true | .non,.bl _=>true | .bl _,.non=>true | .non,.str _=>true | .str _,.non=>true
 | .int _,.int _=>true | .bl _,.bl _=>true | .str _,.str _=>true | .byt _,.byt _=>true
 | .int _,.str _=>true | .str _,.int _=>true | .bl _,.str _=>true | .str _,.bl _=>true
 | _,_=>false
def Jk:R2:=fun x y H Q=>HP x y=true/\Q (.bl (decide (x=y))) H
def Jf:R2:=fun x y H Q=>HP x y=true/\Q (.bl (!decide (x=y))) H
theorem zb {i j:Int}:decide (V.int i=V.int j)=(i == j):=by
 rw [Bool.eq_iff_iff]
 simp
theorem Cf {i j:Bool}:decide (V.bl i=V.bl j)=(i == j):=by
 rw [Bool.eq_iff_iff]
 simp
theorem yP {i j:Str}:decide (V.str i=V.str j)=(i == j):=by
 rw [Bool.eq_iff_iff]
 simp
theorem zm {i j:Array UInt8}:decide (V.byt i=V.byt j)=(i.toList == j.toList):=by
 rw [Bool.eq_iff_iff]
 cases i
 cases j
 simp
section
variable {X:Cx} {a b c:Expr} {ta tb tc:TE} {pos:Pos}
theorem bN {pins:List (Addr×Obj)} {σ:St} {H:Hp} {s:Shared} {Q:VK} {k k':Bool} (I:aV X pins σ H s) (q:Q (.bl k) H) (e:k=k'):EP X pins σ Q (.bool k') s:=by
 subst e
 exact ⟨.bl k,H,I,rfl,q⟩
theorem bw:j3 X (compareOp .Eq) Jk:=by
 intro pins s σ H x y v u Q I rx ry h
 obtain ⟨hs,q⟩:=h
 cases x with
 | non =>
  cases rx
  cases y with
  | non=>cases ry; exact PySem.EqNone.eq_none_none (bN I q (by simp))
  | bl j=>cases ry; exact PySem.EqNone.eq_none_bool (bN I q (by simp))
  | int j=>obtain ⟨t',rfl⟩:=ry; exact PySem.EqNone.eq_none_int (bN I q (by simp))
  | str j=>obtain ⟨t',rfl⟩:=ry; exact PySem.EqNone.eq_none_str (bN I q (by simp))
  | _=>exact absurd (show false=true from hs) Bool.false_ne_true
 | bl i =>
  cases rx
  cases y with
  | non=>cases ry; exact PySem.EqNone.eq_bool_none (bN I q (by simp))
  | bl j=>cases ry; exact eq_bool (bN I q Cf)
  | str j=>obtain ⟨t',rfl⟩:=ry; exact PySem.EqMixed.eq_bool_str (bN I q (by simp))
  | _=>exact absurd (show false=true from hs) Bool.false_ne_true
 | int i =>
  obtain ⟨t,rfl⟩:=rx
  cases y with
  | non=>cases ry; exact PySem.EqNone.eq_int_none (bN I q (by simp))
  | int j=>obtain ⟨t',rfl⟩:=ry; exact eq_int (bN I q zb)
  | str j=>obtain ⟨t',rfl⟩:=ry; exact PySem.EqMixed.eq_int_str (bN I q (by simp))
  | _=>exact absurd (show false=true from hs) Bool.false_ne_true
 | str i =>
  obtain ⟨t,rfl⟩:=rx
  cases y with
  | non=>cases ry; exact PySem.EqNone.eq_str_none (bN I q (by simp))
  | bl j=>cases ry; exact PySem.EqMixed.eq_str_bool (bN I q (by simp))
  | int j=>obtain ⟨t',rfl⟩:=ry; exact PySem.EqMixed.eq_str_int (bN I q (by simp))
  | str j=>obtain ⟨t',rfl⟩:=ry; exact eq_str (bN I q yP)
  | _=>exact absurd (show false=true from hs) Bool.false_ne_true
 | byt i =>
  obtain ⟨t,rfl⟩:=rx
  cases y with
  | byt j=>obtain ⟨t',rfl⟩:=ry; exact PySem.W.eq_bytes (bN I q zm)
  | _=>exact absurd (show false=true from hs) Bool.false_ne_true
 | _=>cases y <;> exact absurd (show false=true from hs) Bool.false_ne_true
theorem i6:j3 X (compareOp .NotEq) Jf:=by
 intro pins s σ H x y v u Q I rx ry h
 obtain ⟨hs,q⟩:=h
 cases x with
 | non =>
  cases rx
  cases y with
  | non=>cases ry; exact PySem.EqNone.ne_none_none (bN I q (by simp))
  | bl j=>cases ry; exact PySem.EqNone.ne_none_bool (bN I q (by simp))
  | int j=>obtain ⟨t',rfl⟩:=ry; exact PySem.EqNone.ne_none_int (bN I q (by simp))
  | str j=>obtain ⟨t',rfl⟩:=ry; exact PySem.EqNone.ne_none_str (bN I q (by simp))
  | _=>exact absurd (show false=true from hs) Bool.false_ne_true
 | bl i =>
  cases rx
  cases y with
  | non=>cases ry; exact PySem.EqNone.ne_bool_none (bN I q (by simp))
  | bl j=>cases ry; exact ne_bool (bN I q (congrArg not Cf))
  | str j=>obtain ⟨t',rfl⟩:=ry; exact PySem.EqMixed.ne_bool_str (bN I q (by simp))
  | _=>exact absurd (show false=true from hs) Bool.false_ne_true
 | int i =>
  obtain ⟨t,rfl⟩:=rx
  cases y with
  | non=>cases ry; exact PySem.EqNone.ne_int_none (bN I q (by simp))
  | int j=>obtain ⟨t',rfl⟩:=ry; exact ne_int (bN I q (congrArg not zb))
  | str j=>obtain ⟨t',rfl⟩:=ry; exact PySem.EqMixed.ne_int_str (bN I q (by simp))
  | _=>exact absurd (show false=true from hs) Bool.false_ne_true
 | str i =>
  obtain ⟨t,rfl⟩:=rx
  cases y with
  | non=>cases ry; exact PySem.EqNone.ne_str_none (bN I q (by simp))
  | bl j=>cases ry; exact PySem.EqMixed.ne_str_bool (bN I q (by simp))
  | int j=>obtain ⟨t',rfl⟩:=ry; exact PySem.EqMixed.ne_str_int (bN I q (by simp))
  | str j=>obtain ⟨t',rfl⟩:=ry; exact ne_str (bN I q (congrArg not yP))
  | _=>exact absurd (show false=true from hs) Bool.false_ne_true
 | byt i =>
  obtain ⟨t,rfl⟩:=rx
  cases y with
  | byt j=>obtain ⟨t',rfl⟩:=ry; exact PySem.W.ne_bytes (bN I q (congrArg not zm))
  | _=>exact absurd (show false=true from hs) Bool.false_ne_true
 | _=>cases y <;> exact absurd (show false=true from hs) Bool.false_ne_true
theorem y7:j3 X (compareOp .Lt) (zM fun i j=>.bl (decide (i < j))):=CC fun _ _ _ _ _ _ _ q=>lt_int q
theorem Ez:j3 X (compareOp .LtE) (zM fun i j=>.bl (decide (i<=j))):=CC fun _ _ _ _ _ _ _ q=>le_int q
theorem xm:j3 X (compareOp .Gt) (zM fun i j=>.bl (decide (j < i))):=CC fun _ _ _ _ _ _ _ q=>gt_int q
theorem Ce:j3 X (compareOp .GtE) (zM fun i j=>.bl (decide (j<=i))):=CC fun _ _ _ _ _ _ _ q=>ge_int q
theorem yG:j3 X (compareOp .Is) (fun x y H Q=>y=.non/\Q (.bl (decide (x=.non))) H):=by
 intro pins s σ H x y v u Q I rx ry h
 obtain ⟨rfl,q⟩:=h
 cases ry
 refine is_none_gen (bN I q ?_)
 cases x <;> first
  | (cases rx; rfl)
  | (obtain ⟨t,rfl⟩:=rx; rfl)
theorem kX:j3 X (compareOp .IsNot) (fun x y H Q=>y=.non/\Q (.bl (!decide (x=.non))) H):=by
 intro pins s σ H x y v u Q I rx ry h
 obtain ⟨rfl,q⟩:=h
 cases ry
 refine isnot_none_gen (bN I q ?_)
 cases x <;> first
  | (cases rx; rfl)
  | (obtain ⟨t,rfl⟩:=rx; rfl)
theorem ax (b:Expr) {op:CmpOp} (h:op≠.In:=by decide) (h2:op≠.NotIn:=by decide):behindInMarks op b=false:=by
 have e1:(op == CmpOp.In)=false:=by cases op <;> first | rfl | exact absurd rfl h
 have e2:(op == CmpOp.NotIn)=false:=by cases op <;> first | rfl | exact absurd rfl h2
 cases b <;> simp [behindInMarks,e1,e2]
theorem bL {op:CmpOp} {r:R2} (ho:j3 X (compareOp op) r) (ha:PE X a ta) (hb:PE X b tb) (hm:behindInMarks op b=false):PE X (.Compare a [op] [b] pos) (GS r ta tb):=by
 intro pins s σ H Q I h
 exact wpAny_Compare1 (EV ha hb I h fun v u s2 x y H2 I2 rx ry q=>ho pins s2 σ H2 x y v u Q I2 rx ry q) hm
def Bs (t:TE):TT:=fun σ H Q=>t σ H fun x H'=>∃ k,x=.bl k/\Q k H'
theorem aA {op:CmpOp} {r:R2} (ho:j3 X (compareOp op) r) (ha:PE X a ta) (hb:PE X b tb) (hm:behindInMarks op b=false):PT X (.Compare a [op] [b] pos) (Bs (GS r ta tb)):=by
 intro pins s σ H Q I h
 refine wpAny_isTrue_Compare1 (cE (ha pins s σ H _ I h) fun v s1 ⟨x,H1,I1,r1,q1⟩=>cE (hb pins s1 σ H1 _ I1 q1) fun u s2 ⟨y,H2,I2,r2,q2⟩ =>
  cE (ho pins s2 σ H2 x y v u _ I2 r1 r2 q2) fun c s3 ⟨z,H3,I3,r3,k,e,q3⟩=>?_) hm
 subst e
 cases r3
 exact wpAny_truthy_bool ⟨H3,I3,q3⟩
def BM (K:PySem.W.Frag) (x:V) (H:Hp) (k:Bool):Prop :=
 match x with
 | .non=>k=false
 | .bl b=>k=b
 | .int i=>k=(i != 0)
 | .str y=>y.length<=sizeLine/\k=((y.length:Int) != 0)
 | .byt y=>y.size<=sizeLine/\k=((y.size:Int) != 0)
 | .ref p=>(∃ xs,bb K H p xs/\k=!xs.isEmpty)∨(∃ xs,aZ K H p xs/\k=!xs.isEmpty)∨∃ kvs,H p=some (.dK kvs)/\k=!kvs.isEmpty
 | _=>False
theorem xy {κ:Type} {kvs:List (κ×V)} {vs:List (κ×Value)} (r:KV kvs vs):(!vs.isEmpty)=!kvs.isEmpty:=by
 cases r <;> rfl
theorem sg {xs:List V} {its:List Value} (r:Vals xs its):(!its.toArray.isEmpty)=!xs.isEmpty:=by
 cases r <;> simp
theorem qQ:(sizeLine:Nat) < 2 ^ 63:=by rw [sizeLine_eq]; decide
theorem Fe:Ji X (fun x H Q=>∃ k,BM X.K x H k/\Q k H):=by
 intro pins s σ H x v Q I rx h
 obtain ⟨k,e,q⟩:=h
 have hl:=qQ
 have hs:sizeLine=16777216:=sizeLine_eq
 cases x with
 | non =>
  cases rx
  have e':k=false:=e
  subst e'
  exact truthy_none ⟨H,I,q⟩
 | bl b =>
  cases rx
  have e':k=b:=e
  subst e'
  exact wpAny_truthy_bool ⟨H,I,q⟩
 | int i =>
  obtain ⟨t,rfl⟩:=rx
  have e':k=(i != 0):=e
  subst e'
  exact PySem.P.truthy_int ⟨H,I,q⟩
 | str y =>
  obtain ⟨t,rfl⟩:=rx
  obtain ⟨hy,e'⟩:y.length<=sizeLine/\k=((y.length:Int) != 0):=e
  subst e'
  exact PySem.P.truthy_str (by omega) ⟨H,I.tok _,q⟩
 | byt y =>
  obtain ⟨t,rfl⟩:=rx
  obtain ⟨hy,e'⟩:y.size<=sizeLine/\k=((y.size:Int) != 0):=e
  subst e'
  exact PySem.W.truthy_bytes (by omega) ⟨H,I.tok _,q⟩
 | ref p =>
  cases rx
  have e':(∃ xs,bb X.K H p xs/\k=!xs.isEmpty)∨(∃ xs,aZ X.K H p xs/\k=!xs.isEmpty)∨∃ kvs,H p=some (.dK kvs)/\k=!kvs.isEmpty:=e
  rcases e' with ⟨xs,hx,e'⟩ | ⟨xs,hx,e'⟩ | ⟨kvs,hx,e'⟩
  ·subst e'
   obtain ⟨its,r,pl,hz⟩:=I.list hx
   have hlen:=r.length
   exact wpAny_truthy_list pl.isList (by simp only [List.size_toArray]; omega) ⟨H,I.tok _,by rw [sg r]; exact q⟩
  ·subst e'
   obtain ⟨its,r,pl,hz⟩:=I.tuple hx
   have hlen:=r.length
   exact truthy_tuple pl (by simp only [List.size_toArray]; omega) ⟨H,I.tok _,by rw [sg r]; exact q⟩
  ·subst e'
   obtain ⟨hz,hS,vs,r,m⟩:kvs.length<=sizeLine/\(p == sysModules)=false/\∃ vs,KV kvs vs/\s.heap.DictOf (bB X.prog X.w) p vs:=I.hok p _ hx
   have hlen:kvs.length=vs.length:=Paired.length r
   exact wpAny_truthy_dict hS m (by omega) ⟨H,I.tok _,by rw [xy r]; exact q⟩
 | _=>exact (show False from e).elim
theorem wa (ha:PE X a ta) (he:∀ whole,isTrue a X.env whole=(do let v ← whole; standAt a.pos; holding [v] (truthy v))) :
  PT X a (fun σ H Q=>ta σ H fun x H'=>∃ k,BM X.K x H' k/\Q k H'):=by
 intro pins s σ H Q I h
 exact isTrue_plain (cE (ha pins s σ H _ I h) fun v s1 ⟨x,H1,I1,r1,q1⟩=>Fe pins s1 σ H1 x v Q I1 r1 q1) (he _)
theorem kS {x:V} {us:List Value} (r:Vals [x] us):∃ u,us=[u]/\RelV x u:=by
 cases r with
 | cons r1 r2=>cases r2; exact ⟨_,rfl,r1⟩
theorem yX {x y:V} {us:List Value} (r:Vals [x,y] us):∃ u w',us=[u,w']/\RelV x u/\RelV y w':=by
 cases r with
 | cons r1 r2 =>
  cases r2 with
  | cons r3 r4=>cases r4; exact ⟨_,_,rfl,r1,r3⟩
theorem jm (hc:X.calm=true):fg X (.builtin "max") (fun xs H Q=>∃ i j,xs=[.int i,.int j]/\Q (.int (if j > i then j else i)) H):=by
 intro pins s σ H xs us Q I r h
 obtain ⟨i,j,rfl,q⟩:=h
 obtain ⟨u,w',rfl,⟨t,rfl⟩,⟨t',rfl⟩⟩:=yX r
 refine max_two_ints (I.ok.hd hc) fun h' tk k=>⟨_,H,I.kept k,?_,q⟩
 by_cases hj:j > i
 ·rw [if_pos hj,if_pos hj]; exact ⟨_,rfl⟩
 ·rw [if_neg hj,if_neg hj]; exact ⟨_,rfl⟩
end
end L2
namespace L2
open PySem PySem.Spec PyProof.Rows
structure yk (h:Heap) (x dx C:Addr) (mA:Str->Option Value):Prop where
 obj:h.get? x=some (PySem.W.instObj C dx)
 ns:h.Ns1 dx mA
 ne:dx≠x
theorem zC {h:Heap} {dx:Addr} {mA:Str->Option Value} (n:h.Ns1 dx mA):∃ od,h.get? dx=some od/\∀ name,PySem.W.lookIn name od=some (mA name):=by
 obtain ⟨o,es,ep,ho,hd,hk,_,hm⟩:=n
 refine ⟨o,ho,fun name=>?_⟩
 have e:=hm name
 unfold nsFind findBy at e
 rw [← Array.find?_toList] at e
 unfold PySem.W.lookIn
 rw [hd]
 dsimp only
 split
 ·rename_i y q
  rw [q] at e
  exact congrArg some e
 ·rename_i q
  rw [q] at e
  have a:es.toList.any (·.refKey)=false:=by
   rw [List.any_eq_false]
   intro y hy
   obtain ⟨z,t,hkey⟩:=hk y (Array.mem_toList_iff.mp hy)
   simp [DictEntry.refKey,hkey]
  have a':¬ es.toList.any (·.refKey)=true:=by rw [a]; exact Bool.false_ne_true
  rw [if_neg a']
  exact congrArg some e
theorem yk.look {h:Heap} {x dx C:Addr} {mA:Str->Option Value} (I:yk h x dx C mA):∃ od,PySem.W.InstAt h x (PySem.W.instObj C dx) C (some od)/\∀ name,PySem.W.lookIn name od=some (mA name) :=
 let ⟨od,ho,hl⟩:=zC I.ns
 ⟨od,⟨I.obj,rfl,rfl,ho⟩,hl⟩
section
variable {prog:Program} {w:World} {A:Around} {E:Value->Shared->Prop} {s:Shared} {K:PySem.W.Frag} {x dx C f:Addr} {mA:Str->Option Value} {name:Str} {v:Value}
theorem Cy {expr:Bool} {Q:Value->Shared->Prop} (X:K.In s.heap) (I:yk s.heap x dx C mA) (hg:PySem.W.plainGet K C name=true) (hh:PySem.W.hasDictIn K C=true)
  (ha:PySem.W.findIn K (.ref C) name=some none) (hv:mA name=some v) (hv':PySem.W.handedIn v=true) (h:Q v { s with toks:=s.toks + 1 }) :
  wpAny (model prog w) A (getAttr (.ref x) name expr) Q E s:=by
 obtain ⟨od,J,hl⟩:=I.look
 exact PySem.W.get_value X J (PySem.W.plainGet_of hg).1 (PySem.W.findObj_own hh ha rfl (by rw [hl,hv])) hv' h
theorem AS {pl:Sem Bool} {Q:Value×List Value->Shared->Prop} (X:K.In s.heap) (I:yk s.heap x dx C mA) (hg:PySem.W.plainGet K C name=true)
  (hf:PySem.W.findIn K (.ref C) name=some (some (.ref f))) (ht:PySem.W.isFn K (.ref f)=true) (hv:mA name=none) (h:Q (.ref f,[.ref x]) s) :
  wpAny (model prog w) A (getMethod (.ref x) name pl) Q E s:=by
 obtain ⟨od,J,hl⟩:=I.look
 exact PySem.W.method_fn X J (PySem.W.plainGet_of hg).1 (PySem.W.plainGet_of hg).2 hf (beq_iff_eq.mp ht) (by show (PySem.W.lookIn name od).map (·.isSome)=some false; rw [hl,hv]; rfl) h
theorem Dn {ns:List Str} {Q:Unit->Shared->Prop} (X:K.In s.heap) (I:yk s.heap x dx C mA)
  (hs:PySem.W.findIn K (.ref C) "__setattr__"=some (some (.builtin "object.__setattr__"))) (hp:PySem.W.plainOver K C=true) (ht:PySem.W.takerIn K C name=some none) (hh:PySem.W.hasDictIn K C=true)
  (hw:PySem.Within mA ns) (hsz:ns.length<=sizeLine)
  (h:∀ h',yk h' x dx C (fun y=>if y=name then some v else mA y)->Heap.SameBut dx s.heap h'->Q () { s with heap:=h',toks:=s.toks + 2 }) :
  wpAny (model prog w) A (setAttr (.ref x) name v) Q E s:=by
 obtain ⟨od,J,hl⟩:=I.look
 refine PySem.W.set_plain X J hs (PySem.W.osa_open (s:={ s with toks:=s.toks + 1 }) (r:=none) X J hp ht fun b=>?_)
 obtain ⟨cd,hc,hd'⟩:=PySem.W.any_some hh
 have hx:s.heap.get? x=some ⟨.ref C,some dx,.plain,#[]⟩:=I.obj
 refine wpAny_bind (wpAny_pure (wpAny_bind (wpAny_bind (wpAny_loadPart hx (wpAny_bind (PySem.W.Looks.here (s:={ s with toks:=s.toks + 1 }) (PySem.W.looks_clsIn X hc) ?_))))))
 rw [hd']
 refine wpAny_pure (a:=some dx) (wpAny_bind (wpAny_pure (wpAny_bind ?_)))
 refine wpAny_nsSet1 (s:={ s with toks:=s.toks + 1 }) I.ns fun h' hn2 hs2=>?_
 obtain ⟨oD,esD,epD,hoD,hdD,hcD⟩:=hn2.count (PySem.Within.cons name v hw)
 refine wpAny_bind (wpAny_lookBehind hoD (by rw [hdD]; exact pastItsLine_dict (Nat.le_trans hcD (by rw [List.length_cons]; omega))) ?_)
 exact wpAny_pure (h _ ⟨(hs2.2 _ (Ne.symm I.ne)).trans I.obj,hn2,I.ne⟩ hs2)
theorem Bi {R:Result->Shared->Prop} {vs:List Value} {kw:List (Str×Value)} (X:K.In s.heap) (hm:PySem.W.makesIn K C=true)
  (hi:PySem.W.findIn K (.ref C) "__init__"=some (some (.ref f))) (hf:PySem.W.typeIn K (.ref f)=some (.type "function"))
  (h:codeAny (model prog w) (A.under (.builtin "type.__call__" ⟨.ref C :: vs,kw⟩)) (.call (.ref f) ⟨.ref (s.heap.objs.size + 1) :: vs,kw⟩) (PySem.W.InitBack (s.heap.objs.size + 1) R)
   { s with heap:=(s.heap.push PySem.W.emptyDict).push (PySem.W.instObj C s.heap.objs.size) }) :
  codeAny (model prog w) A (.call (.ref C) ⟨vs,kw⟩) R s:=by
 obtain ⟨hh,g,d,t,os⟩:=s
 exact PySem.W.make_core (PySem.W.makes_of X hm) (PySem.W.looks_findIn X hi) (fun self=>PySem.W.bind_fn X self hf) (.inl rfl) h
end
def eO (f:Str) (v:V):List (Str×V)->List (Str×V)
 | []=>[(f,v)]
 | (g,x) :: r=>if g=f then (g,v) :: r else (g,x) :: eO f v r
theorem pD (f g:Str) (v:V):∀ fs:List (Str×V),(eO f v fs).lookup g=if g=f then some v else fs.lookup g
 | []=>by
  show List.lookup g [(f,v)]=_
  by_cases h:g=f
  ·have hb:(g == f)=true:=beq_iff_eq.mpr h
   simp only [List.lookup,hb,if_pos h]
  ·have hb:(g == f)=false:=beq_eq_false_iff_ne.mpr h
   simp only [List.lookup,hb,if_neg h]
 | (k,x) :: r=>by
  have ih:=pD f g v r
  rw [show eO f v ((k,x) :: r)=(if k=f then (k,v) :: r else (k,x) :: eO f v r) from rfl]
  by_cases hk:k=f
  ·rw [if_pos hk]
   by_cases h:g=k
   ·have hb:(g == k)=true:=beq_iff_eq.mpr h
    simp only [List.lookup,hb,if_pos (h.trans hk)]
   ·have hb:(g == k)=false:=beq_eq_false_iff_ne.mpr h
    simp only [List.lookup,hb,if_neg (fun e:g=f=>h (e.trans hk.symm))]
  ·rw [if_neg hk]
   by_cases h:g=k
   ·have hb:(g == k)=true:=beq_iff_eq.mpr h
    simp only [List.lookup,hb,if_neg (fun e:g=f=>hk (h.symm.trans e))]
   ·have hb:(g == k)=false:=beq_eq_false_iff_ne.mpr h
    simp only [List.lookup,hb]
    exact ih
theorem oG (f:Str) (v:V):∀ fs:List (Str×V),f∈(eO f v fs).map (·.1)/\∀ g,g∈fs.map (·.1)->g∈(eO f v fs).map (·.1)
 | []=>⟨by simp [eO],fun g h=>by simp at h⟩
 | (k,x) :: r=>by
  obtain ⟨i1,i2⟩:=oG f v r
  rw [show eO f v ((k,x) :: r)=(if k=f then (k,v) :: r else (k,x) :: eO f v r) from rfl]
  by_cases hk:k=f
  ·rw [if_pos hk]
   subst hk
   exact ⟨by simp,fun g h=>by simpa using h⟩
  ·rw [if_neg hk]
   refine ⟨?_,fun g h=>?_⟩
   ·rw [List.map_cons]
    exact List.mem_cons_of_mem _ i1
   ·rw [List.map_cons] at h ⊢
    rcases List.mem_cons.mp h with e | e
    ·exact List.mem_cons.mpr (.inl e)
    ·exact List.mem_cons_of_mem _ (i2 g e)
theorem pE (f:Str) (v:V):∀ fs:List (Str×V),(eO f v fs).length<=fs.length + 1
 | []=>by simp [eO]
 | (k,x) :: r=>by
  have ih:=pE f v r
  rw [show eO f v ((k,x) :: r)=(if k=f then (k,v) :: r else (k,x) :: eO f v r) from rfl]
  by_cases hk:k=f
  ·rw [if_pos hk,List.length_cons,List.length_cons]; omega
  ·rw [if_neg hk,List.length_cons,List.length_cons]; omega
theorem fZ.some_of {v:V} {o:Option Value} (r:fZ (some v) o):∃ u,o=some u/\RelV v u:=by
 cases o with
 | none=>exact (show False from r).elim
 | some u=>exact ⟨u,rfl,r⟩
theorem fZ.none_of {o:Option Value} (r:fZ none o):o=none:=by
 cases o with
 | none=>rfl
 | some u=>exact (show False from r).elim
theorem zr {v:V} {u:Value} (r:RelV v u):PySem.W.handedIn u=true:=by
 cases v with
 | non=>cases (show u=Value.none from r); rfl
 | bl b=>cases (show u=Value.bool b from r); rfl
 | int i=>obtain ⟨t,e⟩:=(show ∃ t,u=Value.int i t from r); cases e; rfl
 | str x=>obtain ⟨t,e⟩:=(show ∃ t,u=Value.str x t from r); cases e; rfl
 | byt b=>obtain ⟨t,e⟩:=(show ∃ t,u=Value.bytes b t from r); cases e; rfl
 | flt b=>obtain ⟨t,e⟩:=(show ∃ t,u=Value.float b t from r); cases e; rfl
 | ref a=>cases (show u=Value.ref a from r); rfl
 | ty n=>cases (show u=Value.type n from r); rfl
section
variable {P:Program} {w:World} {H H':Hp} {h h':Heap} {a C dx:Addr} {fs fs':List (Str×V)}
theorem qz (hok:k7 P w H h) (e:H a=some (.ins C dx fs)):∃ mA,yk h a dx C mA/\(∀ f,fZ (fs.lookup f) (mA f))/\PySem.Within mA (fs.map (·.1))/\fs.length<=1000/\H dx=some (.own a):=by
 obtain ⟨d,z,ne,ob,mA,n,r,q⟩:=(show cL P w H h a (.ins C dx fs) from hok a _ e)
 exact ⟨mA,⟨ob,n,ne⟩,r,q,z,d⟩
end
structure xv (K:PySem.W.Frag) (C:Addr):Prop where
 pg:PySem.W.plainGet K C Str.empty=true
 hd:PySem.W.hasDictIn K C=true
 po:PySem.W.plainOver K C=true
 sa:PySem.W.findIn K (.ref C) "__setattr__"=some (some (.builtin "object.__setattr__"))
theorem xv.get {K:PySem.W.Frag} {C:Addr} (c:xv K C) (f:Str):PySem.W.plainGet K C f=true:=c.pg
def dA (K:PySem.W.Frag) (C:Addr) (f:Str):Prop:=PySem.W.findIn K (.ref C) f=some none
theorem dA.taker {K:PySem.W.Frag} {C:Addr} {f:Str} (n:dA K C f):PySem.W.takerIn K C f=some none:=by
 unfold PySem.W.takerIn
 rw [show PySem.W.findIn K (.ref C) f=some none from n]
 rfl
structure jC (K:PySem.W.Frag) (C:Addr) (m:Str) (f:Addr):Prop where
 at_:PySem.W.findIn K (.ref C) m=some (some (.ref f))
 fn:PySem.W.isFn K (.ref f)=true
 kp:PySem.W.keepIn K (.ref f)=true
section
variable {X:Cx} {pins:List (Addr×Obj)} {σ:St} {H:Hp} {s:Shared} {a C dx:Addr} {fs:List (Str×V)} {f:Str} {v:V} {A:Around} {E:Value->Shared->Prop}
theorem xY {b:Bool} {Q:Value->Shared->Prop} (I:aV X pins σ H s) (e:H a=some (.ins C dx fs)) (c:xv X.K C) (n:dA X.K C f) (l:fs.lookup f=some v)
  (h:∀ u s',aV X pins σ H s'->RelV v u->Q u s'):wpAny (model X.prog X.w) A (getAttr (.ref a) f b) Q E s:=by
 obtain ⟨mA,O,r,_,_,_⟩:=qz I.hok e
 obtain ⟨u,hu,ru⟩:=fZ.some_of (v:=v) (o:=mA f) (by rw [← l]; exact r f)
 exact Cy I.kIn O (c.get f) c.hd n hu (zr ru) (h u _ (I.tok _) ru)
theorem rN {m:Str} {g:Addr} {pl:Sem Bool} {Q:Value×List Value->Shared->Prop} (I:aV X pins σ H s) (e:H a=some (.ins C dx fs)) (c:xv X.K C) (k:jC X.K C m g) (l:fs.lookup m=none)
  (h:Q (.ref g,[.ref a]) s):wpAny (model X.prog X.w) A (getMethod (.ref a) m pl) Q E s:=by
 obtain ⟨mA,O,r,_,_,_⟩:=qz I.hok e
 have hn:mA m=none:=fZ.none_of (by rw [← l]; exact r m)
 exact AS I.kIn O (c.get m) k.at_ k.fn hn h
theorem yH {y:V} {u:Value} {Q:Unit->Shared->Prop} (I:aV X pins σ H s) (e:H a=some (.ins C dx fs)) (c:xv X.K C) (n:dA X.K C f) (hl:fs.length < 1000) (ry:RelV y u)
  (h:∀ s',aV X pins σ (upd H a (.ins C dx (eO f y fs))) s'->Q () s'):wpAny (model X.prog X.w) A (setAttr (.ref a) f u) Q E s:=by
 obtain ⟨mA,O,r,wi,_,ho⟩:=qz I.hok e
 have hz:(fs.map (·.1)).length<=sizeLine:=by rw [List.length_map,sizeLine_eq]; omega
 refine Dn I.kIn O c.sa c.po n.taker c.hd wi hz fun h' O' sb=>h _ ?_
 have hd:∃ o,h'.get? dx=some o:=let ⟨o,_,_,e',_⟩:=O'.ns; ⟨o,e'⟩
 refine I.write (x:=a) (e:=dx) (by rw [e]; exact True.intro) (.inr ho) (fun b q hb z=>(sb.2 b hb).trans z) hd ?_
 refine ⟨by rw [aG O.ne]; exact ho,?_,O.ne,O'.obj,_,O'.ns,fun g=>?_,fun g hg=>?_⟩
 ·have:=pE f y fs; omega
 ·show fZ ((eO f y fs).lookup g) (if g=f then some u else mA g)
  rw [pD]
  by_cases q:g=f
  ·rw [if_pos q,if_pos q]; exact ry
  ·rw [if_neg q,if_neg q]; exact r g
 ·by_cases q:g=f
  ·rw [q]; exact (oG f y fs).1
  ·refine (oG f y fs).2 g (wi g fun z=>hg ?_)
   show (if g=f then some u else mA g)=none
   rw [if_neg q]; exact z
theorem aV.made (I:aV X pins σ H s):aV X pins σ (upd (upd H s.heap.objs.size (.own (s.heap.objs.size + 1))) (s.heap.objs.size + 1) (.ins C s.heap.objs.size []))
  { s with heap:=(s.heap.push PySem.W.emptyDict).push (PySem.W.instObj C s.heap.objs.size) }:=by
 have e1:(s.heap.push PySem.W.emptyDict).get? s.heap.objs.size=some PySem.W.emptyDict:=Heap.get?_push_size s.heap rfl
 have e2:((s.heap.push PySem.W.emptyDict).push (PySem.W.instObj C s.heap.objs.size)).get? (s.heap.objs.size + 1)=some (PySem.W.instObj C s.heap.objs.size):=by
  have:=Heap.get?_push_size (s.heap.push PySem.W.emptyDict) (o:=PySem.W.instObj C s.heap.objs.size) rfl
  rwa [Heap.size_push] at this
 have e3:(s.heap.push PySem.W.emptyDict).Ns s.heap.objs.size (fun _=>none):=⟨PySem.W.emptyDict,#[],_,e1,rfl,(fun e he=>absurd he (by simp)),fun _=>rfl⟩
 have I1:=I.laid (a:=s.heap.objs.size) (o:=.own (s.heap.objs.size + 1)) (h':=s.heap.push PySem.W.emptyDict) (t':=s.toks) (fun b u q=>Heap.get?_push_of_some _ q) (Nat.le_refl _) ⟨_,e1⟩
 refine I1.laid (a:=s.heap.objs.size + 1) (o:=.ins C s.heap.objs.size []) (t':=s.toks) (fun b u q=>Heap.get?_push_of_some _ q) (Nat.le_of_eq (Heap.size_push _ _)) ?_
 have ne:s.heap.objs.size≠s.heap.objs.size + 1:=Nat.ne_of_lt (Nat.lt_succ_self _)
 refine ⟨by rw [aG ne,au],Nat.zero_le _,ne,e2,fun _=>none,(Heap.Ns1.of_empty e3).at fun o q=>Heap.get?_push_of_some _ q,fun _=>True.intro,fun y hy=>absurd rfl hy⟩
theorem DV {prog:Program} {w:World} {env:Env} {e:Expr} {f:Str} {pos:Pos} {s:Shared} {Q:Value->Shared->Prop} (hb:attributeBase e f env (eval e env)=eval e env)
  (h:wpAny (model prog w) A (eval e env) (fun o s₁=>wpAny (model prog w) A (getAttr o f true) Q E s₁) E s):wpAny (model prog w) A (eval (.Attribute e f pos) env) Q E s :=
 Attribute_any_ h (by rw [arm_eval_Attribute,hb])
end
def FR (K:PySem.W.Frag) (ta:TE) (f:Str):TE:=fun σ H Q=>ta σ H fun x H1=>∃ a C dx fs v,x=.ref a/\H1 a=some (.ins C dx fs)/\xv K C/\dA K C f/\fs.lookup f=some v/\Q v H1
def AU (K:PySem.W.Frag) (ta tv:TE) (f:Str):TS:=fun D σ H=>tv σ H fun y H1=>ta σ H1 fun x H2=>∃ a C dx fs,x=.ref a/\H2 a=some (.ins C dx fs)/\xv K C/\dA K C f/\fs.length < 1000 /\
 D.nx σ (upd H2 a (.ins C dx (eO f y fs)))
section
variable {X:Cx} {o e value:Expr} {f:Str} {pos pos' tpos:Pos} {ta tv:TE}
theorem Fh (he:PE X e ta) (hb:attributeBase e f X.env (eval e X.env)=eval e X.env):PE X (.Attribute e f pos) (FR X.K ta f):=by
 intro pins s σ H Q I h
 refine DV hb (cE (he pins s σ H _ I h) fun u s1 ⟨x,H1,I1,rx,a,C,dx,fs,v,ex,ea,c,n,l,q⟩=>?_)
 subst ex
 obtain rfl:u=Value.ref a:=rx
 exact xY I1 ea c n l fun u' s2 I2 ru=>⟨v,H1,I2,ru,q⟩
theorem Ft (ha:PE X o ta) (hv:PE X value tv) (hs:swapsWith value (some (.Attribute o f pos')) pos.line X.env=pure false):PS X (.Assign [.Attribute o f pos'] value pos) (AU X.K ta tv f):=by
 intro pins s σ H D I h
 refine plainObj_wpAny_Assign_Attribute (cE (hv pins s σ H _ I h) fun u s1 ⟨y,H1,I1,ry,q⟩=>cE (ha pins s1 σ H1 _ I1 q) fun ov s2 ⟨x,H2,I2,rx,a,C,dx,fs,ex,ea,c,n,l,q2⟩=>?_) hs
 subst ex
 obtain rfl:ov=Value.ref a:=rx
 exact yH I2 ea c n l ry fun s3 I3=>⟨σ,_,I3,q2⟩
end
section
variable {X:Cx} {pins:List (Addr×Obj)} {σ:St} {H:Hp} {s:Shared} {A:Around} {E:Value->Shared->Prop} {Q:Value->Shared->Prop} {c:Value} {b:Bool}
inductive mV (K:PySem.W.Frag) (H:Hp):V->Value->Prop where
 | non:mV K H .non (.type "NoneType")
 | bl (x:Bool):mV K H (.bl x) (.type "bool")
 | int (i:Int):mV K H (.int i) (.type "int")
 | str (x:Str):mV K H (.str x) (.type "str")
 | flt (x:UInt64):mV K H (.flt x) (.type "float")
 | lst {a:Addr} {xs:List V} (e:H a=some (.lst xs)):mV K H (.ref a) (.type "list")
 | frz {a:Addr} {o:Obj} {xs:List V} (e:H a=some (.frz o (.lst xs))):mV K H (.ref a) (.type "list")
 | tup {a:Addr} {xs:List V} (e:H a=some (.tup xs)):mV K H (.ref a) (.type "tuple")
 | dK {a:Addr} {kvs:List (cU×V)} (e:H a=some (.dK kvs)):mV K H (.ref a) (.type "dict")
 | dT {a:Addr} {kvs:List (List cU×V)} (e:H a=some (.dT kvs)):mV K H (.ref a) (.type "dict")
 | ins {a C dx:Addr} {fs:List (Str×V)} (e:H a=some (.ins C dx fs)) (cl:xv K C) (ha:PySem.W.findIn K (.ref C) "__class__"=some (some (.builtin "object.__class__")))
   (hn:PySem.W.specialIn K (.builtin "object.__class__") "__get__"=some (some (.builtin "getset_descriptor.__get__"))) (htk:PySem.W.takesIn K (.builtin "object.__class__")=some true)
   (hm:PySem.W.mroIn K C (.type "object")=some true):mV K H (.ref a) (.ref C)
theorem zS {x:V} {u t:Value} (I:aV X pins σ H s) (rx:RelV x u) (ty:mV X.K H x t) (e:PySem.W.kitOne X.K t c=some b) (h:∀ tk,Q (.bool b) { s with toks:=tk }) :
  wpAny (model X.prog X.w) A (call (.builtin "isinstance") [u,c]) Q E s:=by
 cases ty with
 | non=>cases (show u=Value.none from rx); exact PySem.W.kia_one PySem.W.kitx_none I.kIn True.intro e (fun z=>nomatch z) h
 | bl y=>cases (show u=Value.bool y from rx); exact PySem.W.kia_one PySem.W.kitx_bool I.kIn True.intro e (fun z=>nomatch z) h
 | int i=>obtain ⟨t,q⟩:=(show ∃ t,u=Value.int i t from rx); cases q; exact PySem.W.kia_one PySem.W.kitx_int I.kIn True.intro e (fun z=>nomatch z) h
 | str y=>obtain ⟨t,q⟩:=(show ∃ t,u=Value.str y t from rx); cases q; exact PySem.W.kia_one PySem.W.kitx_str I.kIn True.intro e (fun z=>nomatch z) h
 | flt y=>obtain ⟨t,q⟩:=(show ∃ t,u=Value.float y t from rx); cases q; exact PySem.W.kia_one PySem.W.kitx_float I.kIn True.intro e (fun z=>nomatch z) h
 | @lst a xs ea =>
  cases (show u=Value.ref a from rx)
  obtain ⟨_,_,n,_,h1⟩:=(show cL X.prog X.w H s.heap a (.lst xs) from I.hok a _ ea)
  exact PySem.W.kia_one PySem.W.kitx_list I.kIn ⟨_,h1,rfl⟩ e (fun z=>nomatch z) h
 | @frz a ob xs ea =>
  cases (show u=Value.ref a from rx)
  obtain ⟨_,_,_,n,_,h1⟩:=(show cL X.prog X.w H s.heap a (.frz ob (.lst xs)) from I.hok a _ ea)
  exact PySem.W.kia_one PySem.W.kitx_list I.kIn ⟨_,h1,rfl⟩ e (fun z=>nomatch z) h
 | @tup a xs ea =>
  cases (show u=Value.ref a from rx)
  obtain ⟨_,_,_,p⟩:=(show cL X.prog X.w H s.heap a (.tup xs) from I.hok a _ ea)
  obtain ⟨o,h1,h2,_⟩:=p
  exact PySem.W.kia_one PySem.W.kitx_tuple I.kIn ⟨o,h1,h2⟩ e (fun z=>nomatch z) h
 | @dK a kvs ea =>
  cases (show u=Value.ref a from rx)
  obtain ⟨_,_,vs,_,p⟩:=(show cL X.prog X.w H s.heap a (.dK kvs) from I.hok a _ ea)
  obtain ⟨o,es,ep,h1,h2,_⟩:=p
  exact PySem.W.kia_one PySem.W.kitx_dict I.kIn ⟨o,h1,h2.1⟩ e (fun z=>nomatch z) h
 | @dT a kvs ea =>
  cases (show u=Value.ref a from rx)
  obtain ⟨_,_,xs,_,o,es,ep,h1,h2,_⟩:=(show cL X.prog X.w H s.heap a (.dT kvs) from I.hok a _ ea)
  exact PySem.W.kia_one PySem.W.kitx_dict I.kIn ⟨o,h1,h2.1⟩ e (fun z=>nomatch z) h
 | @ins a C dx fs ea cl ha hn htk hm =>
  cases (show u=Value.ref a from rx)
  obtain ⟨mA,O,_⟩:=qz I.hok ea
  obtain ⟨od,J,_⟩:=O.look
  exact PySem.W.kia_one (PySem.W.kitx_own (cl.get _) cl.hd ha hn htk hm) I.kIn J e (fun z=>nomatch z) h
end
end L2
namespace L2
open PySem PySem.Spec PyProof.Rows
structure eM (k:Nat) (A:Around):Prop where
 hd:A.handled=none
 dp:A.depth + 3 * k + 5 < recursionLimit
 un:A.units + 16 * k + 200 < cLine
theorem eM.mono {j k:Nat} {A:Around} (r:eM k A) (h:j<=k):eM j A:=⟨r.hd,by have:=r.dp; omega,by have:=r.un; omega⟩
theorem eM.deeper {k:Nat} {A:Around} (r:eM (k + 1) A) (env:Env):eM k (A.deeper env) :=
 ⟨r.hd,by have:=r.dp; show A.depth + 1 + 3 * k + 5 < _; omega,by have:=r.un; show A.units + 3 + 16 * k + 200 < _; omega⟩
theorem x8 {A:Around} {C:Addr} {us:List Value} {kw:List (Str×Value)}:(A.under (.builtin "type.__call__" ⟨.ref C :: us,kw⟩)).depth=A.depth + 1:=by
 first | rfl | simp [Around.under,Code.weight,Code.isCreation,Code.isGuard,Code.isCaller,Code.frames,Code.isFrame,guardIds]
theorem xx {A:Around} {C:Addr} {us:List Value} {kw:List (Str×Value)}:(A.under (.builtin "type.__call__" ⟨.ref C :: us,kw⟩)).units=A.units + 1:=by
 first | rfl | simp [Around.under,Code.cUnits,Code.frames,Code.isFrame]
theorem eM.make {k:Nat} {A:Around} (r:eM (k + 1) A) (C:Addr) (us:List Value) (kw:List (Str×Value)):eM k (A.under (.builtin "type.__call__" ⟨.ref C :: us,kw⟩)) :=
 ⟨r.hd,by have:=r.dp; rw [x8]; omega,by have:=r.un; rw [xx]; omega⟩
theorem eM.depth {k:Nat} {A:Around} (r:eM k A):A.depth < recursionLimit:=by have:=r.dp; omega
theorem eM.units {k:Nat} {A:Around} (r:eM k A):A.units + 64 < cLine:=by have:=r.un; omega
theorem eM.units0 {k:Nat} {A:Around} (r:eM k A):A.units < cLine:=by have:=r.un; omega
def BR:TA:=fun _ H Q=>Q [] H
def yV (ta:TE) (tr:TA):TA:=fun σ H Q=>ta σ H fun x H1=>tr σ H1 fun xs H2=>Q (x :: xs) H2
section
variable {X:Cx} {e:Expr} {es:List Expr} {te:TE} {t:TA} {pos:Pos}
theorem aj:PA X [] BR:=fun _ _ _ _ H Q I h=>Calls.spliced_nil ⟨[],H,I,.nil,h⟩
theorem ae (ha:PE X e te) (hr:PA X es t) (hs:starEach (e :: es) X.env=(false,eval e X.env) :: starEach es X.env:=by rfl):PA X (e :: es) (yV te t):=by
 intro pos pins s σ H Q I h
 rw [hs]
 show wpAny _ _ (spliced ((false,eval e X.env) :: backTo pos (starEach es X.env))) _ _ s
 refine Calls.spliced_cons (cE (ha pins s σ H _ I h) fun u s1 ⟨x,H1,I1,r1,q1⟩=>?_)
 exact cE (hr pos pins s1 σ H1 _ I1 q1) fun us s2 ⟨xs,H2,I2,r2,q2⟩=>⟨x :: xs,H2,I2,.cons r1 r2,q2⟩
def Fp (t:TA):TE:=fun σ H Q=>t σ H fun xs H1=>xs.length<=sizeLine/\∀ p,H1 p=none->Q (.ref p) (upd H1 p (.tup xs))
def Hd (t:TA):TE:=fun σ H Q=>t σ H fun xs H1=>xs.length<=sizeLine/\∀ p,H1 p=none->Q (.ref p) (upd H1 p (.lst xs))
theorem cc {x1} (h:PA X es t):PE X (.Tuple es x1 pos) (Fp t):=by
 intro pins s σ H Q I hq
 refine wpAny_Tuple_spliced (cE (h pos pins s σ H _ I hq) fun us s1 ⟨xs,H1,I1,r,z,q⟩=>⟨by rw [← r.length]; exact z,?_⟩)
 have hf:H1 s1.heap.objs.size=none:=I1.hok.fresh (Nat.le_refl _)
 refine ⟨.ref s1.heap.objs.size,upd H1 s1.heap.objs.size (.tup xs),I1.laid (t':=s1.toks) (fun b u e=>Heap.get?_push_of_some _ e) (Nat.le_refl _) ?_,rfl,q _ hf⟩
 exact ⟨z,us,r,jM.new _ _⟩
theorem bX (h:PA X es t):PE X (.List es pos) (Hd t):=by
 intro pins s σ H Q I hq
 refine wpAny_List_spliced (cE (h pos pins s σ H _ I hq) fun us s1 ⟨xs,H1,I1,r,z,q⟩=>⟨by rw [← r.length]; exact z,?_⟩)
 have hf:H1 s1.heap.objs.size=none:=I1.hok.fresh (Nat.le_refl _)
 refine ⟨.ref s1.heap.objs.size,upd H1 s1.heap.objs.size (.lst xs),I1.laid (t':=s1.toks) (fun b u e=>Heap.get?_push_of_some _ e) (Nat.le_refl _) ?_,rfl,q _ hf⟩
 exact ⟨z,us,0,r,Heap.get?_push_size _ rfl⟩
end
abbrev Sp:=List V->Hp->VK->XK->Prop
abbrev yi:=List Env->Hp->Shared->XK->Value->Shared->Prop
structure xD (P:Program) (w:World) (K:PySem.W.Frag) (mg:Str->Option Value) (base:Heap) (A:Around) (outer:List Env) (s:Shared) (H:Hp):Prop where
 frames:A.frames=some outer
 mod:Mod K mg base
 bs:∀ b o,base.get? b=some o->s.heap.get? b=some o/\H b=none
 bsz:base.objs.size<=s.heap.objs.size
 funs:s.heap.FunFrames base outer
 frf:∀ b∈Bv outer,H b=none
 hok:k7 P w H s.heap
 bare:AllBare s.gens
def CE (outer:List Env) (P:Program) (w:World) (H:Hp) (s:Shared) (Q:VK) (u:Value) (s':Shared):Prop :=
 ∃ v H',s'.os=s.os/\AllBare s'.gens/\Un (Bv outer) [] H H' s.heap s'.heap/\k7 P w H' s'.heap/\RelV v u/\Q v H'
def CR (CX:yi) (outer:List Env) (P:Program) (w:World) (H:Hp) (s:Shared) (Q:VK) (E:XK) (r:Result) (s':Shared):Prop :=
 match r with
 | .ok (.ret u)=>CE outer P w H s Q u s'
 | .ok _=>False
 | .error e=>CX outer H s E e s'
structure aT (P:Program) (w:World) (K:PySem.W.Frag) (mg:Str->Option Value) (base:Heap) (CX:yi) (k:Nat) (f:Addr) (fd:FuncData) (ps:List Str) (sp:Sp):Prop where
 len:∀ vs H Q E,sp vs H Q E->vs.length=ps.length
 run:∀ (A:Around) (outer:List Env) (s:Shared) (H:Hp) (args:Args) (us:List Value) (vs:List V) (Q:VK) (E:XK),eM k A->xD P w K mg base A outer s H->BindsTo s fd args (ps.zip us)->Vals vs us->sp vs H Q E ->
  codeAny (model P w) A (.call (.ref f) args) (CR CX outer P w H s Q E) s
theorem aT.mono {P:Program} {w:World} {K:PySem.W.Frag} {mg:Str->Option Value} {base:Heap} {CX:yi} {j k:Nat} {f:Addr} {fd:FuncData} {ps:List Str} {sp:Sp} (F:aT P w K mg base CX j f fd ps sp) (h:j<=k) :
  aT P w K mg base CX k f fd ps sp:=⟨F.len,fun A outer s H args us vs Q E hr=>F.run A outer s H args us vs Q E (hr.mono h)⟩
theorem xD.make {P:Program} {w:World} {K:PySem.W.Frag} {mg:Str->Option Value} {base:Heap} {A:Around} {outer:List Env} {s:Shared} {H:Hp} (e:xD P w K mg base A outer s H) (C:Addr) (us:List Value) (kw:List (Str×Value)) :
  xD P w K mg base (A.under (.builtin "type.__call__" ⟨.ref C :: us,kw⟩)) outer s H:=⟨by first | exact e.frames | (simpa [Around.under,Code.envs,Code.isFrame,pushEnvs] using e.frames),e.mod,e.bs,e.bsz,e.funs,e.frf,e.hok,e.bare⟩
section
variable {X:Cx} {pins:List (Addr×Obj)} {σ:St} {H:Hp} {s s':Shared}
theorem aV.env0 (I:aV X pins σ H s):xD X.prog X.w X.K X.mg X.base X.A X.stack s H :=
 ⟨I.ok.frames,I.ok.mod,I.bs,Nat.le_trans I.ok.bsz I.sz,I.stack,I.stkFree,I.hok,I.bare⟩
theorem aV.after {Q:VK} {u:Value} (I:aV X pins σ H s) (h:CE X.stack X.prog X.w H s Q u s'):EP X pins σ Q u s':=by
 obtain ⟨v,H',os,bare,un,hok,r,q⟩:=h
 obtain ⟨hh,g,d,t,os'⟩:=s'
 obtain rfl:os'=s.os:=os
 exact ⟨v,H',I.call (h':=hh) (g':=g) (d':=d) (t':=t) (ch:=[]) un hok bare (fun b z=>absurd z (by simp)),r,q⟩
end
def yN (sp:Sp) (dvs:List V) (E:XK) (t:TA):TE:=fun σ H Q=>t σ H fun vs H1=>sp (vs ++ dvs) H1 Q E
def Bn (C:Addr) (sp:Sp) (dvs:List V) (E:XK) (t:TA):TE:=fun σ H Q=>t σ H fun vs H1=>∀ x dx,H1 x=none->H1 dx=none->dx≠x ->
 sp (.ref x :: (vs ++ dvs)) (upd (upd H1 dx (.own x)) x (.ins C dx [])) (fun v H2=>v=.non/\Q (.ref x) H2) E
def Binds (K:PySem.W.Frag) (fd:FuncData) (ps:List Str) (ds:List Value):Prop :=
 ∀ (s:Shared) (us:List Value),K.In s.heap->(us ++ ds).length=ps.length->BindsTo s fd ⟨us,[]⟩ (ps.zip (us ++ ds))
theorem Binds.all {K:PySem.W.Frag} {fd:FuncData} {ps:List Str} (h:∀ us:List Value,us.length=ps.length->bindArgs fd ⟨us,[]⟩=pure (ps.zip us)):Binds K fd ps []:=fun s us _ hl=>by
 rw [List.append_nil] at hl ⊢
 exact .of_eq (h us hl)
def oE (CX:yi) (X:Cx) (E:XK):Prop:=∀ (pins:List (Addr×Obj)) (σ:St) (H:Hp) (s:Shared) (e:Value) (s':Shared),aV X pins σ H s->CX X.stack H s E e s'->X.xe e s'
section
variable {X:Cx} {CX:yi} {k:Nat} {f C:Addr} {fd:FuncData} {ps:List Str} {sp:Sp} {dvs:List V} {ds:List Value} {E:XK} {x m:Str} {p pos apos:Pos} {e o:Expr} {es:List Expr} {ta:TE} {t:TA}
theorem r9 {pins:List (Addr×Obj)} {σ:St} {H:Hp} {s:Shared} {Q:VK} {us:List Value} {vs:List V} (F:aT X.prog X.w X.K X.mg X.base CX k f fd ps sp) (hr:eM k X.A) (hb:Binds X.K fd ps ds) (hd:Vals dvs ds) (hx:oE CX X E)
  (I:aV X pins σ H s) (r:Vals vs us) (h:sp (vs ++ dvs) H Q E):wpAny (model X.prog X.w) X.A (call (.ref f) us) (EP X pins σ Q) X.xe s:=by
 have r2:Vals (vs ++ dvs) (us ++ ds):=r.append hd
 have hl:(us ++ ds).length=ps.length:=by rw [← r2.length]; exact F.len _ _ _ _ h
 refine wpAny_call (codeAny_mono (F.run X.A X.stack s H ⟨us,[]⟩ (us ++ ds) (vs ++ dvs) Q E hr I.env0 (hb s us I.kIn hl) r2 h) fun r s' hq=>?_)
 cases r with
 | error e=>exact hx pins σ H s e s' I hq
 | ok fl =>
  cases fl with
  | ret u=>exact I.after hq
  | next=>exact False.elim hq
  | brk=>exact False.elim hq
  | cont=>exact False.elim hq
theorem DN (F:aT X.prog X.w X.K X.mg X.base CX k f fd ps sp) (hr:eM k X.A) (hg:Gl X x) (hm:X.mg x=some (.ref f)) (hk:PySem.W.keepIn X.K (.ref f)=true) (hb:Binds X.K fd ps ds) (hd:Vals dvs ds) (hx:oE CX X E)
  (ha:PA X (e :: es) t) (hdb:(x == ("__debug__":Str))=false:=by decide) (he:starEach (e :: es) X.env=(false,eval e X.env) :: starEach es X.env:=by rfl) (hpl:(backTo pos (starEach es X.env)).any (·.1)=false:=by rfl) :
  PE X (.Call (.Name x p) (e :: es) [] pos) (yN sp dvs E t):=by
 intro pins s σ H Q I h
 refine wpAny_Call_Name_kw (qt I hg hm ?_ hdb)
 refine PySem.W.callWith_K (h₀:=X.base) I.ok.mod.kin hk (cE (ha pos pins s σ H _ I h) fun us s1 ⟨vs,H1,I1,r,q⟩=>⟨I1.kIn,?_⟩) he hpl
 exact r9 F hr hb hd hx I1 r q
structure Mk (K:PySem.W.Frag) (C f:Addr):Prop where
 makes:PySem.W.makesIn K C=true
 init:PySem.W.findIn K (.ref C) "__init__"=some (some (.ref f))
 fn:PySem.W.isFn K (.ref f)=true
 kp:PySem.W.keepIn K (.ref C)=true
theorem wU {pins:List (Addr×Obj)} {σ:St} {H:Hp} {s:Shared} {Q:VK} {us:List Value} {vs:List V} (M:Mk X.K C f) (F:aT X.prog X.w X.K X.mg X.base CX k f fd ps sp) (hr:eM (k + 1) X.A) (hb:Binds X.K fd ps ds) (hd:Vals dvs ds)
  (hx:oE CX X E) (I:aV X pins σ H s) (r:Vals vs us)
  (h:∀ x dx,H x=none->H dx=none->dx≠x->sp (.ref x :: (vs ++ dvs)) (upd (upd H dx (.own x)) x (.ins C dx [])) (fun v H2=>v=.non/\Q (.ref x) H2) E) :
  wpAny (model X.prog X.w) X.A (call (.ref C) us) (EP X pins σ Q) X.xe s:=by
 have hq:=h (s.heap.objs.size + 1) s.heap.objs.size (I.hok.fresh (Nat.le_succ _)) (I.hok.fresh (Nat.le_refl _)) (Nat.ne_of_lt (Nat.lt_succ_self _))
 have I2:=aV.made (C:=C) I
 have r2:Vals (V.ref (s.heap.objs.size + 1) :: (vs ++ dvs)) (Value.ref (s.heap.objs.size + 1) :: (us ++ ds)):=.cons rfl (r.append hd)
 have hl:(Value.ref (s.heap.objs.size + 1) :: us ++ ds).length=ps.length:=by
  have e:=r2.length
  rw [F.len _ _ _ _ hq] at e
  exact e.symm
 refine wpAny_call (Bi (f:=f) I.kIn M.makes M.init (beq_iff_eq.mp M.fn) (codeAny_mono (F.run _ X.stack _ _ ⟨Value.ref (s.heap.objs.size + 1) :: us,[]⟩ (Value.ref (s.heap.objs.size + 1) :: (us ++ ds)) _ _ E (hr.make C us [])
  (I2.env0.make C us []) (hb _ (Value.ref (s.heap.objs.size + 1) :: us) I2.kIn hl) r2 hq) fun r s' hq'=>?_))
 cases r with
 | error e=>exact hx pins σ _ _ e s' I2 hq'
 | ok fl =>
  cases fl with
  | ret u =>
   obtain ⟨v,H',I3,rv,ev,q3⟩:=I2.after hq'
   subst ev
   exact ⟨rv,⟨V.ref (s.heap.objs.size + 1),H',I3,rfl,q3⟩⟩
  | next=>exact False.elim hq'
  | brk=>exact False.elim hq'
  | cont=>exact False.elim hq'
theorem CS (M:Mk X.K C f) (F:aT X.prog X.w X.K X.mg X.base CX k f fd ps sp) (hr:eM (k + 1) X.A) (hg:Gl X x) (hm:X.mg x=some (.ref C)) (hb:Binds X.K fd ps ds) (hd:Vals dvs ds) (hx:oE CX X E)
  (ha:PA X (e :: es) t) (hdb:(x == ("__debug__":Str))=false:=by decide) (he:starEach (e :: es) X.env=(false,eval e X.env) :: starEach es X.env:=by rfl) (hpl:(backTo pos (starEach es X.env)).any (·.1)=false:=by rfl) :
  PE X (.Call (.Name x p) (e :: es) [] pos) (Bn C sp dvs E t):=by
 intro pins s σ H Q I h
 refine wpAny_Call_Name_kw (qt I hg hm ?_ hdb)
 refine PySem.W.callWith_K (h₀:=X.base) I.ok.mod.kin M.kp (cE (ha pos pins s σ H _ I h) fun us s1 ⟨vs,H1,I1,r,q⟩=>⟨I1.kIn,?_⟩) he hpl
 exact wU M F hr hb hd hx I1 r q
theorem AO (M:Mk X.K C f) (F:aT X.prog X.w X.K X.mg X.base CX k f fd ps sp) (hr:eM (k + 1) X.A) (hg:Gl X x) (hm:X.mg x=some (.ref C)) (hb:Binds X.K fd ps ds) (hd:Vals dvs ds) (hx:oE CX X E)
  (hdb:(x == ("__debug__":Str))=false:=by decide):PE X (.Call (.Name x p) [] [] pos) (Bn C sp dvs E BR):=by
 intro pins s σ H Q I h
 refine wpAny_Call_Name_kw (qt I hg hm ?_ hdb)
 exact PySem.W.callWith_K0 I.kIn M.kp (wU (us:=[]) M F hr hb hd hx I .nil h)
end
section
variable {X:Cx} {CX:yi} {k:Nat} {f C:Addr} {fd:FuncData} {ps ks:List Str} {sp:Sp} {E:XK} {x m:Str} {p pos apos kpos:Pos} {e o:Expr} {es:List Expr} {kws:List Keyword} {te ta:TE} {t tk:TA} {nm:Option Str}
variable {g:List Value->List Value->List Value} {gV:List V->List V->List V}
end
structure aW (N P:List Str) (sc:Scope):Prop where
 kind:sc.kind=.function
 co:sc.isCoroutine=false
 gen:sc.isGenerator=false
 nd:N.Nodup
 pre:N.take P.length=P
 par:∀ x∈P,sc.names.lookup x=some .local∨sc.names.lookup x=some .cell
 nofree:∀ y∈sc.names,y.2≠.free
theorem tT {kindOf:Str->Option NameKind} {x:Str}:∀ {binds:List (Str×Value)} {m:Str->Option Value},(∀ v,(x,v)∉binds)->bindL kindOf binds m x=m x
 | [],_,_=>rfl
 | (n,v) :: r,m,h=>by
  unfold bindL
  rw [tT fun w hw=>h w (List.mem_cons_of_mem _ hw)]
  split
  ·have:x≠n:=by rintro rfl; exact h v List.mem_cons_self
   simp [this]
  ·rfl
theorem tW {kindOf:Str->Option NameKind} {x:Str}:∀ {binds:List (Str×Value)} {m:Str->Option Value},(∀ v,(x,v)∉binds)->bindC kindOf binds m x=m x
 | [],_,_=>rfl
 | (n,v) :: r,m,h=>by
  unfold bindC
  rw [tW fun w hw=>h w (List.mem_cons_of_mem _ hw)]
  split
  ·rfl
  ·have:x≠n:=by rintro rfl; exact h v List.mem_cons_self
   simp [this]
theorem tO {kindOf:Str->Option NameKind} {x:Str} {v:Value}:∀ {P:List Str} {vs:List Value} {i:Nat} {m:Str->Option Value},P.Nodup->P[i]?=some x->vs[i]?=some v->kindOf x=some .local ->
  bindL kindOf (P.zip vs) m x=some v
 | [],_,_,_,_,h,_,_=>by simp at h
 | _ :: _,[],_,_,_,_,h,_=>by simp at h
 | p :: P,w :: vs,0,m,nd,h1,h2,hk=>by
  simp at h1 h2; subst h1; subst h2
  show bindL kindOf ((p,w) :: P.zip vs) m p=_
  unfold bindL
  rw [tT fun v hv=>(List.nodup_cons.mp nd).1 (List.of_mem_zip hv).1,if_pos hk]
  simp
 | p :: P,w :: vs,i + 1,m,nd,h1,h2,hk=>by
  show bindL kindOf ((p,w) :: P.zip vs) m x=_
  unfold bindL
  exact tO (i:=i) (List.nodup_cons.mp nd).2 (by simpa using h1) (by simpa using h2) hk
theorem tJ {kindOf:Str->Option NameKind} {x:Str} {v:Value}:∀ {P:List Str} {vs:List Value} {i:Nat} {m:Str->Option Value},P.Nodup->P[i]?=some x->vs[i]?=some v->kindOf x≠some .local ->
  bindC kindOf (P.zip vs) m x=some v
 | [],_,_,_,_,h,_,_=>by simp at h
 | _ :: _,[],_,_,_,_,h,_=>by simp at h
 | p :: P,w :: vs,0,m,nd,h1,h2,hk=>by
  simp at h1 h2; subst h1; subst h2
  show bindC kindOf ((p,w) :: P.zip vs) m p=_
  unfold bindC
  rw [tW fun v hv=>(List.nodup_cons.mp nd).1 (List.of_mem_zip hv).1,if_neg hk]
  simp
 | p :: P,w :: vs,i + 1,m,nd,h1,h2,hk=>by
  show bindC kindOf ((p,w) :: P.zip vs) m x=_
  unfold bindC
  exact tJ (i:=i) (List.nodup_cons.mp nd).2 (by simpa using h1) (by simpa using h2) hk
def pB (N:List Str) (vs:List V):St:=vs.map some ++ List.replicate (N.length - vs.length) none
def zT (CX:yi) (P:Program) (w:World) (K:PySem.W.Frag) (mg:Str->Option Value) (base:Heap) (N:List Str) (qual:Str) (scope:Scope) (f:Addr) (cd:Value) (A:Around) (outer:List Env) (s:Shared) (H:Hp) (E:XK):Cx where
 prog:=P
 w:=w
 K:=K
 mg:=mg
 base:=base
 A:=A.deeper (envOfC qual scope s.heap.objs.size f cd)
 N:=N
 s₀:=s
 H₀:=H
 env:=envOfC qual scope s.heap.objs.size f cd
 outer:=outer
 stack:=envOfC qual scope s.heap.objs.size f cd :: outer
 ex:=[]
 calm:=true
 fn:=fun _=>true
 pn:=[]
 xe:=fun e s'=>wpAny (model P w) (A.deeper (envOfC qual scope s.heap.objs.size f cd)) (leaving (envOfC qual scope s.heap.objs.size f cd) e) (fun _ s''=>CX outer H s E e s'') (fun e' s''=>CX outer H s E e' s'') s'
theorem wQ {sc:Scope} {n:Nat} {x:Str} (h:sc.names.lookup x=some .cell):∃ c,(cellsFrom n sc.names []).lookup x=some c:=by
 have q:=PySem.W.cellsFrom_some sc.names n [] (.inl h)
 exact Option.isSome_iff_exists.mp q
theorem zu {CX:yi} {P:Program} {w:World} {K:PySem.W.Frag} {mg:Str->Option Value} {base:Heap} {N ps:List Str} {qual:Str} {scope:Scope} {f:Addr} {cd:Value} {A:Around} {outer:List Env} {s s1:Shared} {H:Hp} {E:XK} {us:List Value} {vs:List V}
  (S:aW N ps scope) (hd:A.handled=none) (e0:xD P w K mg base A outer s H) (hl:vs.length=ps.length) (r:Vals vs us)
  (x:InCallC s s.heap.objs.size (bindL (envOfC qual scope s.heap.objs.size f cd).kindOf (ps.zip us) fun _=>none) (cellsFrom (s.heap.objs.size + 1) scope.names []) (bindC (envOfC qual scope s.heap.objs.size f cd).kindOf (ps.zip us) fun _=>none) s1) :
  aV (zT CX P w K mg base N qual scope f cd A outer s H E) [] (pB N vs) H s1:=by
 have hpl:ps.length<=N.length:=by have:=congrArg List.length S.pre; rw [List.length_take] at this; omega
 obtain ⟨h1,tk,rfl,hk⟩:=x.done
 have noA:∀ b:Addr,b∉(zT CX P w K mg base N qual scope f cd A outer s H E).ex:=fun b z=>absurd (show b∈([]:List Addr) from z) (by simp)
 refine ⟨⟨e0.mod,S.kind,rfl,rfl,Nat.le_refl _,fun y z c h1 h2=>?_,fun y hy=>?_,fun y c _ h=>?_,fun _=>hd,Around.frames_deeper e0.frames,.inr ⟨rfl,rfl⟩,fun b z=>absurd z (noA b),e0.bs,e0.bsz,fun b _ _=>noA b,fun b z=>absurd z (noA b),e0.funs,e0.frf⟩,
  rfl,e0.bare,Un.kept hk,⟨_,x.toInCall.ns,fun i y v h1 h2 h3=>?_⟩,fun y c h=>⟨_,x.cell y c h⟩,e0.hok.fresh (Nat.le_refl _),fun y c h=>?_,fun p hp=>absurd (show p∈([]:List (Addr×Obj)) from hp) (by simp),e0.hok.kept hk,?_⟩
 ·exact name_of_addr x.apart (PySem.mem_of_lookup h1) (PySem.mem_of_lookup h2)
 ·have hy:scope.names.lookup y=some .cell∨scope.names.lookup y=some .free:=hy
  rcases hy with hy | hy
  ·exact wQ hy
  ·exact absurd rfl (S.nofree _ (PySem.mem_of_lookup hy))
 ·exact Nat.le_of_lt (x.above y c (PySem.mem_of_lookup h))
 ·have hi:i < vs.length:=by
   unfold pB at h2
   by_cases hi:i < vs.length
   ·exact hi
   ·rw [List.getElem?_append_right (by simpa using hi)] at h2
    rw [List.getElem?_replicate] at h2
    split at h2 <;> cases h2
  have ha:vs[i]?=some v:=by
   unfold pB at h2
   rw [List.getElem?_append_left (by simpa using hi),List.getElem?_map] at h2
   cases e:vs[i]? with
   | none=>rw [e] at h2; cases h2
   | some a=>rw [e] at h2; cases h2; rfl
  obtain ⟨u,hu,rv⟩:=r.get ha
  have hp:ps[i]?=some y:=by
   rw [← S.pre,List.getElem?_take_of_lt (by omega)]; exact h1
  have ndP:ps.Nodup:=by rw [← S.pre]; exact S.nd.sublist (List.take_sublist _ _)
  refine ⟨u,rv,?_⟩
  rcases S.par y (List.mem_of_getElem? hp) with k | k
  ·exact .inl ⟨k,tO ndP hp hu k⟩
  ·obtain ⟨c,e⟩:=wQ (n:=s.heap.objs.size + 1) k
   refine .inr ⟨.inl k,c,e,?_⟩
   have q:=x.cell y c e
   rw [tJ ndP hp hu (by show scope.names.lookup y≠_; rw [k]; decide)] at q
   exact q
 ·exact e0.hok.fresh (Nat.le_of_lt (x.above y c (PySem.mem_of_lookup h)))
 ·unfold pB
  show _=N.length
  rw [List.length_append,List.length_map,List.length_replicate]
  omega
theorem Ij {CX:yi} {P:Program} {w:World} {K:PySem.W.Frag} {mg:Str->Option Value} {base:Heap} {k:Nat} {f:Addr} {name qual:Str} {params:Arguments} {body:List Stmt} {scope:Scope} {dV kV doc pm cdv ct oc:Value} {an od:Option Addr}
  {osl:Array (Option Value)} {N ps:List Str} {sp:Sp} (lk:K.lookup f=some ⟨oc,od,.func (PySem.W.fnOf name qual params body scope dV kV doc pm an cdv ct),osl⟩) (hcd:PySem.W.codeIn K cdv qual=true) (S:aW N ps scope)
  (len:∀ vs H Q E,sp vs H Q E->vs.length=ps.length)
  (hbody:∀ (A:Around) (outer:List Env) (s:Shared) (H:Hp) (vs:List V) (Q:VK) (E:XK),eM k (A.deeper (envOfC qual scope s.heap.objs.size f cdv))->sp vs H Q E ->
   ∃ t,Ag (zT CX P w K mg base N qual scope f cdv A outer s H E) body t/\t { nx:=fun _ H'=>Q .non H',rt:=Q } (pB N vs) H) :
  aT P w K mg base CX (k + 1) f (PySem.W.fnOf name qual params body scope dV kV doc pm an cdv ct) ps sp:=by
 refine ⟨len,fun A outer s H args us vs Q E hr e0 hb r hsp=>?_⟩
 have hl:=len _ _ _ _ hsp
 have KX:K.In s.heap:=e0.mod.kin.keeps fun b o e=>(e0.bs b o e).1
 have lim:s.heap.NoLimit:=e0.mod.nolimit.keeps fun b o e=>(e0.bs b o e).1
 have hkind:∀ y∈ps.zip us,scope.names.lookup y.1=some .local∨(scope.names.lookup y.1=some .cell/\((cellsFrom (s.heap.objs.size + 1) scope.names []).lookup y.1).isSome=true):=fun ⟨n,v⟩ hy=>by
  rcases S.par n (List.of_mem_zip hy).1 with q | q
  ·exact .inl q
  ·exact .inr ⟨q,PySem.W.cellsFrom_some _ _ _ (.inl q)⟩
 refine codeAny_call_function hr.depth (KX _ _ lk) rfl S.co S.gen rfl (PySem.W.codeRec_of KX hcd) (hb _ _ _ _ ?_)
 refine wpAny_newFunctionEnv_cells S.kind hkind fun env he s1 x=>?_
 subst he
 refine ⟨lim.keeps x.toInCall.keep,codeAny_func ?_⟩
 obtain ⟨t,ht,hq⟩:=hbody A outer s H vs Q E (hr.deeper _) hsp
 have I:aV (zT CX P w K mg base N qual scope f cdv A outer s H E) [] (pB N vs) H s1:=zu S hr.hd e0 hl r x
 refine wpAny_mono (ht [] s1 (pB N vs) H _ I hq) (fun fl s' hs=>?_) fun e s' hs=>hs
 have fin:∀ {σ':St} {H':Hp} {v:V} {u:Value},aV (zT CX P w K mg base N qual scope f cdv A outer s H E) [] σ' H' s'->RelV v u->Q v H'->CE outer P w H s Q u s' :=
  fun {σ' H' v u} J rv q=>⟨v,H',J.os,J.bare,J.base,J.hok,rv,q⟩
 cases fl with
 | ret u =>
  obtain ⟨v,σ',H',J,rv,q⟩:=hs
  exact fin J rv q
 | next =>
  obtain ⟨σ',H',J,q⟩:=hs
  exact fin (v:=V.non) (u:=Value.none) J rfl q
 | brk =>
  obtain ⟨_,_,_,q⟩:=hs
  exact False.elim q
 | cont =>
  obtain ⟨_,_,_,q⟩:=hs
  exact False.elim q
end L2
namespace L2
open PySem PySem.Spec PyProof.Rows
section
variable {X:Cx} {x:Str} {p pos:Pos} {e:Expr} {es:List Expr} {t:TA} {id T:String} {r:List V->Hp->VK->Prop}
def IV (r:List V->Hp->VK->Prop) (t:TA):TE:=fun σ H Q=>t σ H fun vs H1=>r vs H1 Q
theorem bj (hc:fg X (.builtin id) r) (hg:Gl X x) (hm:X.mg x=none) (hv:bootBuiltins x=some (.builtin id)) (ha:PA X (e :: es) t) (hn:x≠"__name__":=by decide) (hdb:(x == ("__debug__":Str))=false:=by decide)
  (he:starEach (e :: es) X.env=(false,eval e X.env) :: starEach es X.env:=by rfl) (hpl:(backTo pos (starEach es X.env)).any (·.1)=false:=by rfl):PE X (.Call (.Name x p) (e :: es) [] pos) (IV r t):=by
 intro pins s σ H Q I h
 refine wpAny_Call_Name_kw (rR I hg hm hv ?_ hn hdb)
 exact PyProof.Rows.callWith_builtin1 (cE (ha pos pins s σ H _ I h) fun us s1 ⟨vs,H1,I1,r1,q1⟩=>hc pins s1 σ H1 vs us Q I1 r1 q1) he hpl
theorem e8 (hc:fg X (.type T) r) (hg:Gl X x) (hm:X.mg x=none) (hv:bootBuiltins x=some (.type T)) (ha:PA X (e :: es) t) (hn:x≠"__name__":=by decide) (hdb:(x == ("__debug__":Str))=false:=by decide)
  (he:starEach (e :: es) X.env=(false,eval e X.env) :: starEach es X.env:=by rfl) (hpl:(backTo pos (starEach es X.env)).any (·.1)=false:=by rfl):PE X (.Call (.Name x p) (e :: es) [] pos) (IV r t):=by
 intro pins s σ H Q I h
 refine wpAny_Call_Name_kw (rR I hg hm hv ?_ hn hdb)
 exact PyProof.Rows.callWith_type1 (cE (ha pos pins s σ H _ I h) fun us s1 ⟨vs,H1,I1,r1,q1⟩=>hc pins s1 σ H1 vs us Q I1 r1 q1) he hpl
end
end L2
namespace L2
open PySem PySem.Spec PyProof.Rows
section
variable {κ:Type} [DecidableEq κ]
def cD (kvs:List (κ×V)) (k:κ):Option V:=(kvs.find? fun kv=>decide (kv.1=k)).map (·.2)
def eL (kvs:List (κ×V)) (k:κ) (v:V):List (κ×V) :=
 if (kvs.any fun kv=>decide (kv.1=k))=true then kvs.map (fun kv=>if kv.1=k then (kv.1,v) else kv) else kvs ++ [(k,v)]
theorem de {p:κ×V} {r:List (κ×V)} {k:κ} (e:p.1=k):cD (p :: r) k=some p.2:=by simp [cD,List.find?_cons,e]
theorem c8 {p:κ×V} {r:List (κ×V)} {k:κ} (e:¬ p.1=k):cD (p :: r) k=cD r k:=by simp [cD,List.find?_cons,e]
theorem mO (k:κ):∀ kvs:List (κ×V),(kvs.any fun kv=>decide (kv.1=k))=(cD kvs k).isSome
 | []=>rfl
 | p :: r=>by
  rw [List.any_cons]
  by_cases e:p.1=k
  ·simp only [de e,decide_eq_true e,Bool.true_or,Option.isSome_some]
  ·rw [c8 e,decide_eq_false e,Bool.false_or]; exact mO k r
theorem vR (k j:κ) (y:V):∀ kvs:List (κ×V),cD (kvs.map fun kv=>if kv.1=k then (kv.1,y) else kv) j=(cD kvs j).map fun x=>if j=k then y else x
 | []=>rfl
 | p :: r=>by
  have ih:=vR k j y r
  rw [List.map_cons]
  by_cases h:p.1=k
  ·rw [if_pos h]
   by_cases e:p.1=j
   ·rw [de (p:=(p.1,y)) e,de e,Option.map_some,if_pos (e.symm.trans h)]
   ·rw [c8 (p:=(p.1,y)) e,c8 e,ih]
  ·rw [if_neg h]
   by_cases e:p.1=j
   ·rw [de (p:=p) e,de e,Option.map_some,if_neg (fun z=>h (e.trans z))]
   ·rw [c8 (p:=p) e,c8 e,ih]
theorem tZ (k j:κ) (y:V):∀ kvs:List (κ×V),cD kvs k=none->cD (kvs ++ [(k,y)]) j=if j=k then some y else cD kvs j
 | [],_=>by
  by_cases e:k=j
  ·rw [if_pos e.symm]; exact de (p:=(k,y)) e
  ·rw [if_neg (fun z=>e z.symm)]; exact c8 (p:=(k,y)) e
 | p :: r,hn=>by
  rw [List.cons_append]
  have hk:¬ p.1=k:=fun z=>by rw [de z] at hn; cases hn
  rw [c8 hk] at hn
  have ih:=tZ k j y r hn
  by_cases e:p.1=j
  ·rw [de e,de e,if_neg (fun z=>hk (e.trans z))]
  ·rw [c8 e,c8 e,ih]
theorem Av (kvs:List (κ×V)) (k j:κ) (y:V):cD (eL kvs k y) j=if j=k then some y else cD kvs j:=by
 unfold eL
 by_cases a:(kvs.any fun kv=>decide (kv.1=k))=true
 ·rw [if_pos a,vR]
  rw [mO] at a
  by_cases e:j=k
  ·obtain ⟨x,hx⟩:=Option.isSome_iff_exists.mp a
   rw [if_pos e,e,hx,Option.map_some,if_pos rfl]
  ·rw [if_neg e]
   cases cD kvs j with
   | none=>rfl
   | some x=>rw [Option.map_some,if_neg e]
 ·rw [if_neg a]
  refine tZ k j y kvs ?_
  rw [mO] at a
  cases q:cD kvs k with
  | none=>rfl
  | some x=>rw [q] at a; exact (a rfl).elim
theorem gH (kvs:List (κ×V)) (k:κ) (v:V):(eL kvs k v).length<=kvs.length + 1:=by
 unfold eL
 split
 ·rw [List.length_map]; omega
 ·rw [List.length_append,List.length_cons,List.length_nil]; omega
theorem fZ.isSome_eq {o:Option V} {u:Option Value} (r:fZ o u):o.isSome=u.isSome:=by
 cases o with
 | none=>cases u with
  | none=>rfl
  | some _=>exact (show False from r).elim
 | some _=>cases u with
  | none=>exact (show False from r).elim
  | some _=>rfl
theorem fZ.getD {o:Option V} {u:Option Value} {d:V} {d':Value} (r:fZ o u) (rd:RelV d d'):RelV (o.getD d) (u.getD d'):=by
 cases o with
 | none=>cases u with
  | none=>exact rd
  | some _=>exact (show False from r).elim
 | some _=>cases u with
  | none=>exact (show False from r).elim
  | some _=>exact r
theorem KV.val {kvs:List (κ×V)} {vs:List (κ×Value)} (r:KV kvs vs) (k:κ):fZ (cD kvs k) (valueAt vs k):=by
 unfold KV at r
 induction r with
 | nil=>exact True.intro
 | @cons p q ps qs h t ih =>
  obtain ⟨h1,h2⟩:=h
  by_cases e:p.1=k
  ·have e':q.1=k:=h1.symm.trans e
   have b:valueAt (q :: qs) k=some q.2:=by simp [valueAt,List.find?_cons,e']
   rw [de e,b]; exact h2
  ·have e':¬ q.1=k:=fun z=>e (h1.trans z)
   have b:valueAt (q :: qs) k=valueAt qs k:=by simp [valueAt,List.find?_cons,e']
   rw [c8 e,b]; exact ih
theorem KV.any {kvs:List (κ×V)} {vs:List (κ×Value)} (r:KV kvs vs) (k:κ):(kvs.any fun kv=>decide (kv.1=k))=vs.any fun kv=>decide (kv.1=k):=by
 unfold KV at r
 induction r with
 | nil=>rfl
 | cons h t ih=>rw [List.any_cons,List.any_cons,ih,h.1]
theorem KV.repl {kvs:List (κ×V)} {vs:List (κ×Value)} (r:KV kvs vs) (k:κ) {y:V} {u:Value} (ry:RelV y u) :
  KV (kvs.map fun kv=>if kv.1=k then (kv.1,y) else kv) (vs.map fun kv=>if kv.1=k then (kv.1,u) else kv):=by
 unfold KV at r ⊢
 induction r with
 | nil=>exact .nil
 | @cons p q ps qs h t ih =>
  rw [List.map_cons,List.map_cons]
  refine .cons ?_ ih
  obtain ⟨h1,h2⟩:=h
  by_cases e:p.1=k
  ·rw [if_pos e,if_pos (h1.symm.trans e)]; exact ⟨h1,ry⟩
  ·rw [if_neg e,if_neg (fun z=>e (h1.trans z))]; exact ⟨h1,h2⟩
theorem KV.put {kvs:List (κ×V)} {vs:List (κ×Value)} (r:KV kvs vs) (k:κ) {y:V} {u:Value} (ry:RelV y u):KV (eL kvs k y) (stored vs k u):=by
 unfold eL stored
 rw [r.any k]
 by_cases e:(vs.any fun kv=>decide (kv.1=k))=true
 ·rw [if_pos e,if_pos e]; exact r.repl k ry
 ·rw [if_neg e,if_neg e]; exact Paired.snoc r ⟨rfl,ry⟩
theorem KV.length {kvs:List (κ×V)} {vs:List (κ×Value)} (r:KV kvs vs):kvs.length=vs.length:=Paired.length r
end
theorem xp {P:Program} {w:World} {k:cU} {u:Value} (r:RelV (kV k) u):(bB P w).is k u=true:=by
 cases k with
 | inl i=>obtain ⟨t,e⟩:=(show ∃ t,u=Value.int i t from r); subst e; exact kO P w i t
 | inr x=>obtain ⟨t,e⟩:=(show ∃ t,u=Value.str x t from r); subst e; exact wO P w x t
theorem tE {P:Program} {w:World}:∀ {ks:List cU} {us:List Value},Vals (ks.map kV) us->ItemsAre (bB P w) ks us
 | [],_,r=>by rw [List.map_nil] at r; cases r; exact .nil
 | k :: ks,_,r=>by
  rw [List.map_cons] at r
  cases r with
  | cons h t=>exact .cons (xp h) (tE t)
abbrev KT (H:Hp):List (List cU×V)->List (List cU×Addr×Value)->Prop:=Paired fun p q=>p.1=q.1/\H q.2.1=some (.tup (p.1.map kV))/\RelV p.2 q.2.2
theorem KT.val {H:Hp} {kvs:List (List cU×V)} {xs:List (List cU×Addr×Value)} (r:KT H kvs xs) (k:List cU):fZ (cD kvs k) ((atKey xs k).map (·.2)):=by
 induction r with
 | nil=>exact True.intro
 | @cons p q ps qs h t ih =>
  obtain ⟨h1,_,h2⟩:=h
  by_cases e:p.1=k
  ·have e':q.1=k:=h1.symm.trans e
   have b:atKey (q :: qs) k=some q.2:=by simp [atKey,List.find?_cons,e']
   rw [de e,b]; exact h2
  ·have e':¬ q.1=k:=fun z=>e (h1.trans z)
   have b:atKey (q :: qs) k=atKey qs k:=by simp [atKey,List.find?_cons,e']
   rw [c8 e,b]; exact ih
theorem KT.repl {H:Hp} {kvs:List (List cU×V)} {xs:List (List cU×Addr×Value)} (r:KT H kvs xs) (k:List cU) {y:V} {u:Value} (ry:RelV y u) :
  KT H (kvs.map fun kv=>if kv.1=k then (kv.1,y) else kv) (xs.map (putAt k u)):=by
 induction r with
 | nil=>exact .nil
 | @cons p q ps qs h t ih =>
  rw [List.map_cons,List.map_cons]
  refine .cons ?_ ih
  obtain ⟨h1,h2,h3⟩:=h
  unfold putAt
  by_cases e:p.1=k
  ·rw [if_pos e,if_pos (h1.symm.trans e)]; exact ⟨h1,h2,ry⟩
  ·rw [if_neg e,if_neg (fun z=>e (h1.trans z))]; exact ⟨h1,h2,h3⟩
theorem KT.put {H:Hp} {kvs:List (List cU×V)} {xs:List (List cU×Addr×Value)} (r:KT H kvs xs) (k:List cU) {b:Addr} {y:V} {u:Value} (hb:H b=some (.tup (k.map kV))) (ry:RelV y u) :
  KT H (eL kvs k y) (storedH xs k b u):=by
 have e:(kvs.any fun kv=>decide (kv.1=k))=(atKey xs k).isSome:=by
  rw [mO,(r.val k).isSome_eq,Option.isSome_map]
 unfold eL storedH
 rw [e]
 by_cases q:(atKey xs k).isSome=true
 ·rw [if_pos q,if_pos q]; exact r.repl k ry
 ·rw [if_neg q,if_neg q]; exact Paired.snoc r ⟨rfl,hb,ry⟩
theorem KT.keeps {H H':Hp} {kvs:List (List cU×V)} {xs:List (List cU×Addr×Value)} (r:KT H kvs xs) (ht:∀ b ys,H b=some (.tup ys)->H' b=some (.tup ys)):KT H' kvs xs :=
 Paired.mapP r fun _ _ z=>⟨z.1,ht _ _ z.2.1,z.2.2⟩
section
variable {P:Program} {w:World} {H:Hp} {h:Heap} {a:Addr}
theorem Ej {u:HO} (ok:k7 P w H h) (e:Rd H a u):cL P w H h a u:=e.ok ok
theorem kl {kvs:List (cU×V)} (ok:k7 P w H h) (e:Rd H a (.dK kvs)):kvs.length<=sizeLine/\(a == sysModules)=false/\∃ vs,KV kvs vs/\h.DictOf (bB P w) a vs :=
 show cL P w H h a (.dK kvs) from Ej ok e
theorem Em {kvs:List (cU×V)} (ok:k7 P w H h) (e:H a=some (.dK kvs)):kvs.length<=sizeLine/\(a == sysModules)=false/\∃ vs,KV kvs vs/\h.DictOf (bB P w) a vs:=kl ok (.inl e)
theorem oz {ks:List cU} (ok:k7 P w H h) (e:H a=some (.tup (ks.map kV))):(tupleKind (bB P w)).is h ks a:=by
 obtain ⟨_,its,r,o,h1,h2,n,h3⟩:=(show cL P w H h a (.tup (ks.map kV)) from ok a _ e)
 exact ⟨o,its.toArray,n,h1,h2,h3.1,by simpa using tE r⟩
theorem tL {kvs:List (List cU×V)} (ok:k7 P w H h) (e:Rd H a (.dT kvs)):kvs.length<=sizeLine/\(a == sysModules)=false /\
  ∃ xs,KT H kvs xs/\h.DictOfH (tupleKind (bB P w)) a xs:=by
 obtain ⟨z,y,xs,r,o,es,ep,h1,h2,h3,h4,h5⟩:=(show cL P w H h a (.dT kvs) from Ej ok e)
 refine ⟨z,y,xs,r,o,es,ep,h1,h2,h3,h4,fun x hx=>?_,h5⟩
 have all:∀ {l:List (List cU×V)} {m:List (List cU×Addr×Value)},KT H l m->∀ x∈m,(tupleKind (bB P w)).is h x.1 x.2.1:=by
  intro l m q
  induction q with
  | nil=>intro x hx; exact nomatch hx
  | @cons p q ps qs hq t ih =>
   intro x hx
   rcases List.mem_cons.mp hx with e | hx
   ·subst e
    exact oz ok (by rw [← hq.1]; exact hq.2.1)
   ·exact ih x hx
 exact all r x hx
theorem D7 {kvs:List (List cU×V)} (ok:k7 P w H h) (e:H a=some (.dT kvs)):kvs.length<=sizeLine/\(a == sysModules)=false /\
  ∃ xs,KT H kvs xs/\h.DictOfH (tupleKind (bB P w)) a xs:=tL ok (.inl e)
end
def mJ (H:Hp) (a:Addr) (y:V) (r:Option V):Prop :=
 (∃ kvs k,Rd H a (.dK kvs)/\y=kV k/\r=cD kvs k)∨∃ kvs k b,Rd H a (.dT kvs)/\y=.ref b/\H b=some (.tup (k.map kV))/\r=cD kvs k
def D4 (H:Hp) (a:Addr) (y v:V) (H':Hp):Prop :=
 (∃ kvs k,H a=some (.dK kvs)/\y=kV k/\kvs.length < sizeLine/\H'=upd H a (.dK (eL kvs k v))) ∨
 ∃ kvs k b,H a=some (.dT kvs)/\y=.ref b/\H b=some (.tup (k.map kV))/\kvs.length < sizeLine/\H'=upd H a (.dT (eL kvs k v))
section
variable {X:Cx} {pins:List (Addr×Obj)} {σ:St} {H:Hp} {s:Shared} {a:Addr} {y v:V} {u r:Value} {o:Option V} {A:Around} {E:Value->Shared->Prop}
theorem aV.big (I:aV X pins σ H s):sysModules < s.heap.objs.size:=by
 have h:mainGlobals < s.heap.objs.size:=(I.mod.glob.keeps I.bk).lt
 exact Nat.lt_trans (by decide) h
theorem Aa {Q:Value->Shared->Prop} (hu:A.units + 1 < cLine) (I:aV X pins σ H s) (g:mJ H a y (some v)) (ry:RelV y u) (h:∀ w' s',aV X pins σ H s'->RelV v w'->Q w' s') :
  wpAny (model X.prog X.w) A (getItem (.ref a) u) Q E s:=by
 rcases g with ⟨kvs,k,e,ey,l⟩ | ⟨kvs,k,b,e,ey,eb,l⟩
 ·subst ey
  obtain ⟨z,hd,vs,rel,dd⟩:=kl I.hok e
  obtain ⟨w',hw,rw'⟩:=fZ.some_of (v:=v) (o:=valueAt vs k) (by rw [l]; exact rel.val k)
  exact wpAny_getItem_of (xp ry) dd.mapOf hw (h w' _ (I.tok _) rw')
 ·subst ey
  cases (show u=Value.ref b from ry)
  obtain ⟨z,hd,xs,rel,dd⟩:=tL I.hok e
  obtain ⟨w',hw,rw'⟩:=fZ.some_of (v:=v) (o:=(atKey xs k).map (·.2)) (by rw [l]; exact rel.val k)
  obtain ⟨p,hp,hp2⟩:=Option.map_eq_some_iff.mp hw
  refine wpAny_getItem_heap (tupleKind_room_in1 hu) (oz I.hok eb) dd hp ?_
  rw [hp2]
  exact h w' _ (I.tok _) rw'
theorem Jd {Q:Value->Shared->Prop} (hu:A.units + 1 < cLine) (I:aV X pins σ H s) (g:mJ H a y o) (ry:RelV y u) (h:∀ s',aV X pins σ H s'->Q (.bool o.isSome) s') :
  wpAny (model X.prog X.w) A (compareOp .In u (.ref a)) Q E s:=by
 rcases g with ⟨kvs,k,e,ey,l⟩ | ⟨kvs,k,b,e,ey,eb,l⟩
 ·subst ey
  obtain ⟨z,hd,vs,rel,dd⟩:=kl I.hok e
  refine wpAny_in_of (xp ry) hd dd.mapOf ?_
  rw [← (rel.val k).isSome_eq,← l]
  exact h _ (I.tok _)
 ·subst ey
  cases (show u=Value.ref b from ry)
  obtain ⟨z,hd,xs,rel,dd⟩:=tL I.hok e
  refine wpAny_in_heap (tupleKind_room_in1 hu) (oz I.hok eb) hd dd ?_
  have q:=(rel.val k).isSome_eq
  rw [Option.isSome_map] at q
  rw [← q,← l]
  exact h _ (I.tok _)
theorem uT {h':Heap} {t':Nat} {ob:HO} (I:aV X pins σ H s) (mu:IF (H a)) (hs:Heap.SameBut a s.heap h') (he:∃ q,h'.get? a=some q) (new:cL X.prog X.w (upd H a ob) h' a ob) :
  aV X pins σ (upd H a ob) { s with heap:=h',toks:=t' } :=
 I.write (x:=a) (e:=a) mu (.inl rfl) (fun b q hb z=>(hs.2 b hb).trans z) he new
theorem yC {P:Program} {w:World} {H':Hp} {h':Heap} {kvs:List (cU×V)} {vs:List (cU×Value)} (z:kvs.length<=sizeLine) (hd:(a == sysModules)=false) (rel:KV kvs vs) (dd:h'.DictOf (bB P w) a vs) :
  cL P w H' h' a (.dK kvs):=⟨z,hd,vs,rel,dd⟩
theorem zL {H':Hp} {Q:Unit->Shared->Prop} (hu:A.units + 1 < cLine) (I:aV X pins σ H s) (g:D4 H a y v H') (ry:RelV y u) (rv:RelV v r) (h:∀ s',aV X pins σ H' s'->Q () s') :
  wpAny (model X.prog X.w) A (setItem (.ref a) u r) Q E s:=by
 rcases g with ⟨kvs,k,e,ey,l,eH⟩ | ⟨kvs,k,b,e,ey,eb,l,eH⟩
 ·subst ey eH
  obtain ⟨z,hd,vs,rel,dd⟩:=Em I.hok e
  have hz:vs.length<=sizeLine:=by rw [← rel.length]; exact z
  have hl:(eL kvs k v).length<=sizeLine:=by have:=gH kvs k v; omega
  refine wpAny_setItem_pairs (hsz:=hz) (xp ry) dd fun h' dd' hs=>h _ ?_
  have he:∃ q,h'.get? a=some q:=let ⟨q,_,_,hq,_⟩:=dd'; ⟨q,hq⟩
  exact uT I (by rw [e]; exact True.intro) hs he (yC hl hd (rel.put k rv) dd')
 ·subst ey eH
  cases (show u=Value.ref b from ry)
  obtain ⟨z,hd,xs,rel,dd⟩:=D7 I.hok e
  have hz:xs.length<=sizeLine:=by rw [← Paired.length rel]; exact z
  have hl:(eL kvs k v).length<=sizeLine:=by have:=gH kvs k v; omega
  refine wpAny_setItem_heap (hsz:=hz) (tupleKind_room_in1 hu) (oz I.hok eb) dd fun h' dd' hs=>h _ ?_
  obtain ⟨q,es,ep,hq,h2,h3,h4,_,h5⟩:=dd'
  refine uT I (by rw [e]; exact True.intro) hs ⟨q,hq⟩ ⟨hl,hd,_,(rel.put k eb rv).keeps fun c ys ec=>?_,q,es,ep,hq,h2,h3,h4,h5⟩
  rw [aG (bK ec e (fun z=>nomatch z))]
  exact ec
end
section
variable {X:Cx} {pins:List (Addr×Obj)} {σ:St} {H:Hp} {s:Shared} {a:Addr} {kvs:List (cU×V)} {k:cU} {u:Value} {A:Around} {E:Value->Shared->Prop}
end
def Hx (i:Expr):Prop:=∀ ov iv,subscripted i false ov iv=operate [ov,iv] (getItem ov iv)
theorem CM {prog:Program} {w:World} {A:Around} {E:Value->Shared->Prop} {s:Shared} {env:Env} {value slice:Expr} {pos:Pos} {T id:String} {Q:Value->Shared->Prop}
  (hl:typeLookup (.type T) "__getitem__"=pure (some (.builtin id))) (hs:Hx slice)
  (h:wpAny (model prog w) A (eval value env) (fun o s₁=>wpAny (model prog w) A (eval slice env) (fun i s₂=>s₂.TypeIs o T/\wpAny (model prog w) A (getItem o i) Q E s₂) E s₁) E s) :
  wpAny (model prog w) A (eval (.Subscript value slice pos) env) Q E s:=by
 refine Subscript_ (wpAny_mono h (fun o s₁ h₁=>wpAny_mono h₁ (fun i s₂ h₂=>?_) fun _ _ x=>x) fun _ _ x=>x)
 obtain ⟨hT,h₂⟩:=h₂
 unfold subscriptTail
 refine wpAny_bind ?_
 rw [getitemInPython_of_ne hT.not_modules]
 refine wpAny_bind (wpAny_specialOf hT hl ?_)
 have fin:wpAny (model prog w) A (subscripted slice false o i) (fun r s₃=>wpAny (model prog w) A (letTemporaryGo value o r >>= fun _=>pure r) Q E s₃) E s₂:=by
  rw [hs o i]
  exact wpAny_operating (wpAny_mono h₂ (fun r s₃ h₃=>wpAny_bind (wpAny_letTemporaryGo (wpAny_pure h₃))) fun _ _ x=>x)
 first
  | exact wpAny_pure (wpAny_bind fin)
  | exact wpAny_bind (wpAny_pure (wpAny_bind fin))
  | exact wpAny_bind fin
theorem xh {X:Cx} {pins:List (Addr×Obj)} {σ:St} {H:Hp} {s:Shared} {a:Addr} {y:V} {o:Option V} (I:aV X pins σ H s) (g:mJ H a y o):s.TypeIs (.ref a) "dict":=by
 rcases g with ⟨kvs,k,e,_,_⟩ | ⟨kvs,k,b,e,_,_,_⟩
 ·obtain ⟨_,_,vs,_,dd⟩:=kl I.hok e
  exact dd.typeIs
 ·obtain ⟨_,_,xs,_,dd⟩:=tL I.hok e
  exact dd.typeIs
def ED (td ty:TE):TE:=fun σ H Q=>td σ H fun x H1=>ty σ H1 fun y H2=>∃ a v,x=.ref a/\mJ H2 a y (some v)/\Q v H2
def Il (ty td:TE):TE:=fun σ H Q=>ty σ H fun y H1=>td σ H1 fun x H2=>∃ a o,x=.ref a/\mJ H2 a y o/\Q (.bl o.isSome) H2
def Ec (td ty tv:TE):TS:=fun D σ H=>tv σ H fun v H1=>td σ H1 fun x H2=>ty σ H2 fun y H3=>∃ a H4,x=.ref a/\D4 H3 a y v H4/\D.nx σ H4
section
variable {X:Cx} {o i e value:Expr} {pos pos' tpos:Pos} {td ty tv:TE}
theorem Du (hu:X.A.units + 1 < cLine) (ho:PE X o td) (hi:PE X i ty) (hs:Hx i):PE X (.Subscript o i pos) (ED td ty):=by
 intro pins s σ H Q I h
 refine CM PySem.F.slot_dict_getitem.lookup hs (cE (ho pins s σ H _ I h) fun u s1 ⟨x,H1,I1,rx,q1⟩=>cE (hi pins s1 σ H1 _ I1 q1) fun iv s2 ⟨y,H2,I2,ry,a,v,ex,g,q2⟩=>?_)
 subst ex
 obtain rfl:u=Value.ref a:=rx
 exact ⟨xh I2 g,Aa hu I2 g ry fun w' s3 I3 rw'=>⟨v,H2,I3,rw',q2⟩⟩
theorem Gj (hu:X.A.units + 1 < cLine) (hi:PE X i ty) (ho:PE X o td):PC X .In i o (Il ty td):=by
 intro pins s σ H Q I h
 refine cE (hi pins s σ H _ I h) fun iv s1 ⟨y,H1,I1,ry,q1⟩=>cE (ho pins s1 σ H1 _ I1 q1) fun u s2 ⟨x,H2,I2,rx,a,ov,ex,g,q2⟩=>?_
 subst ex
 obtain rfl:u=Value.ref a:=rx
 exact Jd hu I2 g ry fun s3 I3=>⟨.bl ov.isSome,H2,I3,rfl,q2⟩
theorem nG (hu:X.A.units + 1 < cLine) (ho:PE X o td) (hi:PE X i ty) (hv:PE X value tv) (hs:swapsWith value (some (.Subscript o i pos')) pos.line X.env=pure false) :
  PS X (.Assign [.Subscript o i pos'] value pos) (Ec td ty tv):=by
 intro pins s σ H D I h
 refine wpAny_Assign_Subscript (cE (hv pins s σ H _ I h) fun r s1 ⟨v,H1,I1,rv,q1⟩=>cE (ho pins s1 σ H1 _ I1 q1) fun u s2 ⟨x,H2,I2,rx,q2⟩=>cE (hi pins s2 σ H2 _ I2 q2) fun iv s3 ⟨y,H3,I3,ry,a,H4,ex,g,q3⟩=>?_) hs
 subst ex
 obtain rfl:u=Value.ref a:=rx
 exact zL hu I3 g ry rv fun s4 I4=>⟨σ,H4,I4,q3⟩
end
theorem BI {P:Program} {w:World} {H:Hp} (h:Heap) (hb:sysModules < h.objs.size):cL P w H (h.push { cls:=.type "dict",data:=.dict #[] }) h.objs.size (.dK []) :=
 ⟨Nat.zero_le _,beq_eq_false_iff_ne.mpr (Ne.symm (Nat.ne_of_lt hb)),[],.nil,Heap.DictOf.new h⟩
theorem Bg {P:Program} {w:World} {H:Hp} (h:Heap) (hb:sysModules < h.objs.size):cL P w H (h.push { cls:=.type "dict",data:=.dict #[] }) h.objs.size (.dT []) :=
 ⟨Nat.zero_le _,beq_eq_false_iff_ne.mpr (Ne.symm (Nat.ne_of_lt hb)),[],.nil,_,#[],0,Heap.get?_push_size _ rfl,⟨rfl,rfl,rfl⟩,rfl,rfl,List.nodup_nil⟩
def AD:TE:=fun _ H Q=>∀ p,H p=none->Q (.ref p) (upd H p (.dK []))
def Gb:TE:=fun _ H Q=>∀ p,H p=none->Q (.ref p) (upd H p (.dT []))
section
variable {X:Cx} {pos:Pos}
theorem fi:PE X (.Dict [] [] pos) AD:=fun pins s σ H Q I h =>
 wpAny_Dict_empty ⟨.ref s.heap.objs.size,_,I.laid (a:=s.heap.objs.size) (o:=.dK []) (t':=s.toks) (fun _ _ q=>Heap.get?_push_of_some _ q) (Nat.le_refl _) (BI s.heap I.big),rfl,h _ (I.hok.fresh (Nat.le_refl _))⟩
theorem Ay:PE X (.Dict [] [] pos) Gb:=fun pins s σ H Q I h =>
 wpAny_Dict_empty ⟨.ref s.heap.objs.size,_,I.laid (a:=s.heap.objs.size) (o:=.dT []) (t':=s.toks) (fun _ _ q=>Heap.get?_push_of_some _ q) (Nat.le_refl _) (Bg s.heap I.big),rfl,h _ (I.hok.fresh (Nat.le_refl _))⟩
end
def ya (kvs more:List (cU×V)):List (cU×V):=more.foldl (fun acc kv=>eL acc kv.1 kv.2) kvs
theorem KV.merge:∀ {more:List (cU×V)} {rs:List (cU×Value)} {kvs:List (cU×V)} {vs:List (cU×Value)},KV more rs->KV kvs vs->KV (ya kvs more) (merged vs rs):=by
 intro more rs kvs vs r
 unfold KV at r
 induction r generalizing kvs vs with
 | nil=>intro q; exact q
 | @cons p q ps qs h t ih =>
  intro r0
  have e:KV (eL kvs p.1 p.2) (stored vs q.1 q.2):=by
   have:=r0.put p.1 h.2
   rw [← h.1]; exact this
  exact ih e
structure M2 (X:Cx) (o:Expr) (m:Str) (apos:Pos) (e f:Expr) (cpos:Pos):Prop where
 base:attributeBase o m X.env (eval o X.env)=eval o X.env
 few:((backTo cpos (starEach [e,f] X.env)).all (fun x=>!x.1) && (backToKw cpos (keywordEach [] X.env)).all (fun x=>x.1.isSome)
  && decide (([e,f]:List Expr).length + ([]:List Keyword).length + (if ([]:List Keyword).isEmpty then 0 else 1) < 30))=true
 line:(apos.endLine == cpos.line)=true
 trees:backTo cpos (starEach [e,f] X.env)=[(false,eval e X.env),(false,eval f X.env)]
def Ht (H:Hp) (a:Addr):Prop:=(∃ kvs,Rd H a (.dK kvs))∨∃ kvs,Rd H a (.dT kvs)
theorem Bb {X:Cx} {pins:List (Addr×Obj)} {σ:St} {H:Hp} {s:Shared} {a:Addr} (I:aV X pins σ H s) (d:Ht H a) :
  s.TypeIs (.ref a) "dict"/\(∀ b,Value.ref a=.ref b->∃ ob,s.heap.get? b=some ob/\ob.dict=none)/\(a == sysModules)=false:=by
 rcases d with ⟨kvs,e⟩ | ⟨kvs,e⟩
 ·obtain ⟨_,hd,vs,_,dd⟩:=kl I.hok e
  refine ⟨dd.typeIs,fun b q=>?_,hd⟩
  cases q
  obtain ⟨ob,_,_,h1,h2,_⟩:=dd
  exact ⟨ob,h1,h2.2.1⟩
 ·obtain ⟨_,hd,xs,_,dd⟩:=tL I.hok e
  refine ⟨dd.typeIs,fun b q=>?_,hd⟩
  cases q
  obtain ⟨ob,_,_,h1,h2,_⟩:=dd
  exact ⟨ob,h1,h2.2.1⟩
section
variable {X:Cx} {pins:List (Addr×Obj)} {σ:St} {H:Hp} {s:Shared} {a:Addr} {y d:V} {u r:Value} {o:Option V} {A:Around} {E:Value->Shared->Prop}
theorem AN {Q:Value->Shared->Prop} (hu:A.units + 1 < cLine) (I:aV X pins σ H s) (g:mJ H a y o) (ry:RelV y u) (rd:RelV d r) (h:∀ w' s',aV X pins σ H s'->RelV (o.getD d) w'->Q w' s') :
  wpAny (model X.prog X.w) A (call (.builtin "dict.get") [.ref a,u,r]) Q E s:=by
 rcases g with ⟨kvs,k,e,ey,l⟩ | ⟨kvs,k,b,e,ey,eb,l⟩
 ·subst ey
  obtain ⟨z,hd,vs,rel,dd⟩:=kl I.hok e
  refine call_meetsIn PySem.F.slot_dict_get dd.typeIs PySem.F.entry_dict_get (PySem.F.args_dict_get_3 _ _ _) (meets_dict_get_default (bB X.prog X.w) a (xp ry) hd r) ⟨_,dd.mapOf,h _ _ (I.tok _) ?_⟩
  rw [l]
  exact (rel.val k).getD rd
 ·subst ey
  cases (show u=Value.ref b from ry)
  obtain ⟨z,hd,xs,rel,dd⟩:=tL I.hok e
  refine call_meetsIn PySem.F.slot_dict_get dd.typeIs PySem.F.entry_dict_get (PySem.F.args_dict_get_3 _ _ _) (meetsH_dict_get_default (tupleKind (bB X.prog X.w)) a b hd r) ⟨tupleKind_room_in1 hu,k,xs,oz I.hok eb,dd,h _ _ (I.tok _) ?_⟩
  rw [l]
  exact (rel.val k).getD rd
end
def Bm (td ty tx:TE):TE:=fun σ H Q=>td σ H fun x H1=>∃ a,x=.ref a/\Ht H1 a/\ty σ H1 fun y H2=>tx σ H2 fun z H3=>∃ o,mJ H3 a y o/\Q (o.getD z) H3
section
variable {X:Cx} {o e f:Expr} {apos cpos:Pos} {td ty tx:TE}
theorem ij (hu:X.A.units + 1 < cLine) (ho:PE X o td) (he:PE X e ty) (hf:PE X f tx) (m:M2 X o "get" apos e f cpos):PE X (.Call (.Attribute o "get" apos) [e,f] [] cpos) (Bm td ty tx):=by
 intro pins s σ H Q I h
 refine wpAny_Call_method m.base m.few m.line PySem.F.plainAttrs_dict PySem.F.slot_dict_get PySem.F.type_dict_get (cE (ho pins s σ H _ I h) fun u s1 ⟨x,H1,I1,rx,a,ex,d,q1⟩=>?_)
 subst ex
 obtain rfl:u=Value.ref a:=rx
 obtain ⟨t1,t2,_⟩:=Bb I1 d
 refine ⟨t1,t2,?_⟩
 rw [m.trees]
 refine Calls.callWith_builtin rfl (Calls.evalArgs_plain (Calls.spliced_cons (cE (he pins s1 σ H1 _ I1 q1) fun iv s2 ⟨y,H2,I2,ry,q2⟩ =>
  Calls.spliced_cons (cE (hf pins s2 σ H2 _ I2 q2) fun fv s3 ⟨z,H3,I3,rz,ov,g,q3⟩=>Calls.spliced_nil ?_))))
 exact AN hu I3 g ry rz fun w' s4 I4 rw'=>⟨_,H3,I4,rw',q3⟩
end
section
variable {X:Cx} {pins:List (Addr×Obj)} {σ:St} {H:Hp} {s:Shared} {a:Addr} {kvs:List (cU×V)} {A:Around} {E:Value->Shared->Prop}
end
section
variable {X:Cx} {pins:List (Addr×Obj)} {σ:St} {H:Hp} {s:Shared} {a:Addr} {y:V} {u:Value} {A:Around} {E:Value->Shared->Prop}
end
end L2
namespace HT
open PySem PyProof.Rows
section
open PySem.SeqAt
open PySem.AutoSeq1 (wpAny_loadPart')
open PySem.MeetsSeq PySem.MeetsSeq2 PySem.MeetsSeq3
end
section
variable {prog:Program} {w:World} {A:Around} {E:Value->Shared->Prop} {s:Shared}
theorem DC {t b:Addr} {vs ws:List Value} {Q:Value->Shared->Prop} (ht:IsTup s.heap t vs.toArray) (hb:IsTup s.heap b ws.toArray) (hv:vs≠[])
  (h1:ws=[]->Q (.ref t) s) (h2:ws≠[]->Q (.ref s.heap.objs.size) { s with heap:=s.heap.push { cls:=.type "tuple",data:=.seq (vs ++ ws).toArray } })
  (hsz:vs.length + ws.length<=sizeLine):wpAny (model prog w) A (binaryOp .Add (.ref t) (.ref b)) Q E s:=by
 obtain ⟨⟨cls,dd,data,sl⟩,ho,hc,n,hd⟩:=id ht
 obtain ⟨⟨cls2,dd2,data2,sl2⟩,ho2,hc2,n2,hd2⟩:=id hb
 simp only at hc hd hc2 hd2
 subst hc hd hc2 hd2
 have e:vs.toArray ++ ws.toArray=(vs ++ ws).toArray:=by simp
 by_cases hw:ws=[]
 ·exact concat_meets ⟨_,ho,rfl⟩ ⟨_,ho2,rfl⟩ noFill_tuple_add seq_tuple_add PySem.F.slot_tuple_add PySem.F.entry_tuple_add (PySem.F.args_tuple_add_2 _ _)
   (tuple_addW1 t b vs.toArray ws.toArray n n2 dd dd2 sl sl2 (by simpa using hv) (by simp [hw])) ⟨ho,ho2,h1 hw⟩
 ·refine concat_meets ⟨_,ho,rfl⟩ ⟨_,ho2,rfl⟩ noFill_tuple_add seq_tuple_add PySem.F.slot_tuple_add PySem.F.entry_tuple_add (PySem.F.args_tuple_add_2 _ _)
   (tuple_addW2 t b vs.toArray ws.toArray n n2 dd dd2 sl sl2 (by simpa using hv) (by simpa using hw) (by rw [List.size_toArray,List.size_toArray]; exact hsz)) ⟨ho,ho2,?_⟩
  rw [e]
  exact h2 hw
def dF (n d:Nat):Option Int->Nat
 | none=>d
 | some v=>if v < 0 then (v + (n:Int)).toNat else min v.toNat n
theorem GJ (n d:Nat) (hd:d<=n) (o:Option Int):dF n d o<=n:=by
 cases o with
 | none=>exact hd
 | some v =>
  show (if v < 0 then (v + (n:Int)).toNat else min v.toNat n)<=n
  by_cases hv:v < 0
  ·rw [if_pos hv]; omega
  ·rw [if_neg hv]; exact Nat.min_le_right _ _
theorem zg (v:Int) (n d:Nat):(if v < 0 then max (v + (n:Int)) 0 else min v (n:Int))=((dF n d (some v):Nat):Int):=by
 show (if v < 0 then max (v + (n:Int)) 0 else min v (n:Int))=(((if v < 0 then (v + (n:Int)).toNat else min v.toNat n):Nat):Int)
 by_cases hv:v < 0
 ·simp only [if_pos hv]; omega
 ·simp only [if_neg hv]; omega
theorem xF (lo hi:Option Int) (n:Nat):Builtin.Slice.sliceAdjust lo hi 1 (n:Int)=(((dF n 0 lo:Nat):Int),((dF n n hi:Nat):Int)):=by
 have h1:¬ ((1:Int) < 0):=by omega
 unfold Builtin.Slice.sliceAdjust
 simp only [h1,if_false]
 refine Prod.ext ?_ ?_
 ·cases lo with
  | none=>rfl
  | some v=>exact zg v n 0
 ·cases hi with
  | none=>rfl
  | some v=>exact zg v n n
theorem xC (i j:Nat):Builtin.Slice.slicePlaces (i:Int) (j:Int) 1=j - i:=by
 unfold Builtin.Slice.slicePlaces
 have h1:(1:Int) > 0:=by omega
 simp only [h1,if_true,Int.ediv_one]
 split <;> omega
theorem rZ {v:Value} {o:Option Int} {Q:Option Int->Shared->Prop} (p:IsPart v o) (h:Q o s):wpAny (model prog w) A (Builtin.Slice.slicePartIndex v) Q E s:=by
 cases p with
 | none=>exact slicePart_none h
 | int i t=>exact slicePart_int h
theorem jr {sl:Addr} {vl vu:Value} {lo hi:Option Int} {n:Nat} {Q:Int×Int×Nat->Shared->Prop} (hs:s.heap.IsSliceOf sl vl vu .none) (pl:IsPart vl lo) (pu:IsPart vu hi)
  (h:Q (((dF n 0 lo:Nat):Int),1,dF n n hi - dF n 0 lo) s):wpAny (model prog w) A (Builtin.Slice.sliceApplied (.ref sl) (pure (n:Int))) Q E s:=by
 obtain ⟨os,hos,hcs,hds⟩:=id hs
 unfold Builtin.Slice.sliceApplied Builtin.Slice.sliceFields
 refine wpAny_bind (wpAny_bind (wpAny_field hos hds (x:=vl) rfl (wpAny_bind (wpAny_field hos hds (x:=vu) rfl (wpAny_bind (wpAny_field hos hds (x:=.none) rfl (wpAny_pure ?_)))))))
 refine wpAny_bind (slicePart_none ?_)
 show wpAny _ _ (if ((1:Int) == 0)=true then _ else _) _ _ s
 rw [if_neg (by decide)]
 refine wpAny_bind (rZ pl (wpAny_bind (rZ pu (wpAny_bind (wpAny_pure ?_)))))
 show wpAny _ _ (match Builtin.Slice.sliceAdjust lo hi 1 (n:Int) with | (lo,hi)=>pure (lo,(1:Int),Builtin.Slice.slicePlaces lo hi 1)) _ _ s
 rw [xF lo hi n]
 show wpAny _ _ (pure (((dF n 0 lo:Nat):Int),(1:Int),Builtin.Slice.slicePlaces ((dF n 0 lo:Nat):Int) ((dF n n hi:Nat):Int) 1)) _ _ s
 rw [xC]
 exact wpAny_pure h
theorem Cd (xs:Array Value) (i k:Nat):((List.range k).filterMap fun (m:Nat)=>xs[((i:Int) + (m:Int) * 1).toNat]?).toArray=((xs.toList.drop i).take k).toArray:=by
 have e:(fun (m:Nat)=>xs[((i:Int) + (m:Int) * 1).toNat]?)=fun m=>xs[i + m]?:=by
  funext m
  have:((i:Int) + (m:Int) * 1).toNat=i + m:=by omega
  rw [this]
 rw [e]
 have:=pick_run xs i k
 rw [List.filterMap_map] at this
 have e2:((fun x=>xs[x]?) ∘ fun x=>i + x)=fun m=>xs[i + m]?:=rfl
 rw [e2] at this
 rw [this]
theorem nh {t sl:Addr} {items:Array Value} {vl vu:Value} {lo hi:Option Int} {Q:Value->Shared->Prop} (ht:IsTup s.heap t items) (hs:s.heap.IsSliceOf sl vl vu .none) (pl:IsPart vl lo) (pu:IsPart vu hi)
  (hw:¬ (dF items.size 0 lo=0/\dF items.size items.size hi=items.size))
  (h:Q (.ref s.heap.objs.size) { s with heap:=s.heap.push { cls:=.type "tuple",data:=.seq ((items.toList.drop (dF items.size 0 lo)).take (dF items.size items.size hi - dF items.size 0 lo)).toArray } })
  (hsz:items.size<=sizeLine):wpAny (model prog w) A (getItem (.ref t) (.ref sl)) Q E s:=by
 have htake:sizeOk (.seq ((items.toList.drop (dF items.size 0 lo)).take (dF items.size items.size hi - dF items.size 0 lo)).toArray):=by
  show ((items.toList.drop (dF items.size 0 lo)).take (dF items.size items.size hi - dF items.size 0 lo)).toArray.size<=sizeLine
  rw [List.size_toArray,List.length_take,List.length_drop,Array.length_toList]
  omega
 have hj:dF items.size items.size hi<=items.size:=GJ _ _ (Nat.le_refl _) hi
 obtain ⟨os,hos,hcs,hds⟩:=id hs
 have hTs:s.TypeIs (.ref sl) "slice":=⟨os,hos,hcs⟩
 unfold getItem
 try with_reducible refine wpAny_holding ?_
 first | refine wpAny_bind (wpAny_pure ?_) | skip
 refine wpAny_bind (wpAny_sequenceKey ht.typeIs (by decide) ?_)
 refine wpAny_bind (wpAny_callSpecial?_slot (name:=Str.ofString "__getitem__") ht.typeIs PyProof.Rows.slot_tuple_getitem
  (wpAny_call_entry PyProof.Rows.slot_tuple_getitem ht.typeIs entry_tuple_getitem ?_ (args_tuple_getitem _ _)))
 show wpAny _ _ (Builtin.Tuple.tupleItemsOf (.ref t) >>= _) _ _ s
 refine wpAny_bind (tupleItemsOf_ ht ?_)
 refine wpAny_bind (wpAny_typeOf hTs ?_)
 rw [if_pos (by decide)]
 refine wpAny_bind (jr hs pl pu ?_)
 have hno:¬ ((((dF items.size 0 lo:Nat):Int) == 0 && (1:Int) == 1 && (dF items.size items.size hi - dF items.size 0 lo) == items.size)=true):=by
  intro q
  rw [Bool.and_eq_true,Bool.and_eq_true] at q
  have q1:((dF items.size 0 lo:Nat):Int)=0:=eq_of_beq q.1.1
  have q2:dF items.size items.size hi - dF items.size 0 lo=items.size:=eq_of_beq q.2
  exact hw ⟨by omega,by omega⟩
 show wpAny _ _ (if (((dF items.size 0 lo:Nat):Int) == 0 && (1:Int) == 1 && (dF items.size items.size hi - dF items.size 0 lo) == items.size)=true then _ else _) _ _ s
 rw [if_neg hno,Cd]
 first
  | exact wpAny_bind (m:=Builtin.Tuple.tupleExact _) (wpAny_newObj_type (wpAny_pure ⟨_,rfl,wpAny_pure h⟩) htake)
  | exact wpAny_bind (m:=Builtin.Tuple.tupleExact _) (wpAny_newObj_type (wpAny_bind (wpAny_pure (wpAny_pure ⟨_,rfl,wpAny_pure h⟩))) htake)
  | exact wpAny_bind (wpAny_bind (m:=Builtin.Tuple.tupleExact _) (wpAny_newObj_type (wpAny_pure (wpAny_pure ⟨_,rfl,wpAny_pure h⟩)) htake))
  | exact wpAny_bind (wpAny_bind (m:=Builtin.Tuple.tupleExact _) (wpAny_newObj_type (wpAny_pure ⟨_,rfl,wpAny_pure h⟩) htake))
end
end HT
namespace L2
open PySem PySem.Spec PyProof.Rows
abbrev TO:=St->Hp->(Option Int->Hp->Prop)->Prop
def PO (X:Cx) (e:Option Expr) (t:TO):Prop :=
 ∀ (pins:List (Addr×Obj)) (s:Shared) (σ:St) (H:Hp) (Q:Option Int->Hp->Prop),aV X pins σ H s->t σ H Q ->
  wpAny (model X.prog X.w) X.A (evalPart e X.env) (fun u s'=>∃ o H',aV X pins σ H' s'/\IsPart u o/\Q o H') X.xe s
def yY:TO:=fun _ H Q=>Q none H
def El (t:TE):TO:=fun σ H Q=>t σ H fun x H1=>∃ i,x=.int i/\Q (some i) H1
theorem xQ {ns:List Int}:∀ {us:List Value},Vals (ns.map V.int) us->IntsAre us ns:=by
 induction ns with
 | nil=>intro us r; rw [List.map_nil] at r; cases r; exact .nil
 | cons n ns ih =>
  intro us r
  rw [List.map_cons] at r
  cases r with
  | cons r1 r2 =>
   obtain ⟨t,e⟩:=r1
   subst e
   exact .cons n t (ih r2)
section
variable {X:Cx} {e:Expr} {te:TE} {lo hi:Option Expr} {tl th:TO} {pos p2:Pos}
theorem eS:PO X none yY:=by
 intro pins s σ H Q I h
 rw [evalPart_none]
 exact wpAny_pure ⟨none,H,I,.none,h⟩
theorem bG (h:PE X e te):PO X (some e) (El te):=by
 intro pins s σ H Q I hw
 rw [evalPart_some]
 refine cE (h pins s σ H _ I hw) fun u s1 ⟨x,H1,I1,r1,q1⟩=>?_
 obtain ⟨i,rfl,q⟩:=q1
 obtain ⟨t,rfl⟩:=r1
 exact ⟨some i,H1,I1,.int i t,q⟩
def GR (X:Cx) (r:V->Option Int->Option Int->Hp->VK->Prop):Prop :=
 ∀ (pins:List (Addr×Obj)) (s:Shared) (σ:St) (H:Hp) (x:V) (v vl vu:Value) (lo hi:Option Int) (sl:Addr) (Q:VK),aV X pins σ H s->RelV x v->s.heap.IsSliceOf sl vl vu .none->IsPart vl lo->IsPart vu hi->r x lo hi H Q ->
  ∃ T id,typeLookup (.type T) "__getitem__"=pure (some (.builtin id))/\s.TypeIs v T/\wpAny (model X.prog X.w) X.A (getItem v (.ref sl)) (EP X pins σ Q) X.xe s
def JF (r:V->Option Int->Option Int->Hp->VK->Prop) (te:TE) (tl th:TO):TE:=fun σ H Q=>te σ H fun x H1=>tl σ H1 fun l H2=>th σ H2 fun u H3=>r x l u H3 Q
theorem cq {r:V->Option Int->Option Int->Hp->VK->Prop} (hr:GR X r) (he:PE X e te) (hl:PO X lo tl) (hu:PO X hi th):PE X (.Subscript e (.Slice lo hi none p2) pos) (JF r te tl th):=by
 intro pins s σ H Q I h
 refine Subscript_ (cE (he pins s σ H _ I h) fun v s1 ⟨x,H1,I1,r1,q1⟩=>?_)
 refine wpAny_Slice (cE (hl pins s1 σ H1 _ I1 q1) fun vl s2 ⟨l,H2,I2,pl,q2⟩=>cE (hu pins s2 σ H2 _ I2 q2) fun vu s3 ⟨u,H3,I3,pu,q3⟩=>?_)
 rw [evalPart_none]
 refine wpAny_pure ?_
 have I4:aV X pins σ H3 { s3 with heap:=s3.heap.push { cls:=.type "slice",data:=.fields #[vl,vu,.none] } }:=I3.kept (t':=s3.toks) fun b ob q=>Heap.get?_push_of_some _ q
 obtain ⟨T,id,hT,ht,hg⟩:=hr pins { s3 with heap:=s3.heap.push { cls:=.type "slice",data:=.fields #[vl,vu,.none] } } σ H3 x v vl vu l u s3.heap.objs.size Q I4 r1 (Heap.IsSliceOf.new ..) pl pu q3
 show wpAny (model X.prog X.w) X.A (subscriptTail e (.Slice lo hi none p2) v (.ref s3.heap.objs.size)) (EP X pins σ Q) X.xe { s3 with heap:=s3.heap.push { cls:=.type "slice",data:=.fields #[vl,vu,.none] } }
 exact tail_any (ops:=[.ref s3.heap.objs.size,v]) ht hT hg (by with_unfolding_all rfl)
def ja (xs:List V) (lo hi:Option Int):List V:=(xs.drop (HT.dF xs.length 0 lo)).take (HT.dF xs.length xs.length hi - HT.dF xs.length 0 lo)
theorem pj (xs:List V) (lo hi:Option Int):(ja xs lo hi).length<=xs.length:=by
 unfold ja
 rw [List.length_take,List.length_drop]
 omega
def Ds (K:PySem.W.Frag):V->Option Int->Option Int->Hp->VK->Prop:=fun x lo hi H Q=>∃ a xs,x=.ref a/\aZ K H a xs /\
 ¬ (HT.dF xs.length 0 lo=0/\HT.dF xs.length xs.length hi=xs.length)/\∀ p,H p=none->Q (.ref p) (upd H p (.tup (ja xs lo hi)))
theorem B6:GR X (Ds X.K):=by
 intro pins s σ H x v vl vu lo hi sl Q I rx hs pl pu h
 obtain ⟨a,xs,rfl,hx,hw,q⟩:=h
 cases rx
 obtain ⟨its,r,ht,hz⟩:=I.tuple hx
 have hlen:its.toArray.size=xs.length:=by rw [List.size_toArray]; exact r.length.symm
 refine ⟨"tuple",_,PyProof.Rows.slot_tuple_getitem.lookup,ht.typeIs,?_⟩
 refine HT.nh ht hs pl pu (by rw [hlen]; exact hw) ?_ (by rw [hlen]; exact hz)
 rw [hlen]
 refine ⟨.ref s.heap.objs.size,_,I.laid (t':=s.toks) (o:=.tup (ja xs lo hi)) (fun b ob q=>Heap.get?_push_of_some _ q) (Nat.le_refl _) ?_,rfl,q _ (I.hok.fresh (Nat.le_refl _))⟩
 exact ⟨Nat.le_trans (pj xs lo hi) hz,_,(r.drop (HT.dF xs.length 0 lo)).take (HT.dF xs.length xs.length hi - HT.dF xs.length 0 lo),jM.new _ _⟩
def AX (K:PySem.W.Frag):R2:=fun x y H Q=>∃ a b xs ys,x=.ref a/\y=.ref b/\aZ K H a xs/\aZ K H b ys/\xs≠[]/\xs.length + ys.length<=sizeLine /\
 (ys=[]->Q (.ref a) H)/\(ys≠[]->∀ p,H p=none->Q (.ref p) (upd H p (.tup (xs ++ ys))))
theorem Vals.nil_iff {xs:List V} {us:List Value} (r:Vals xs us):us=[]↔xs=[]:=by
 cases r with
 | nil=>simp
 | cons _ _=>simp
theorem y9:j3 X (binaryOp .Add) (AX X.K):=by
 intro pins s σ H x y v u Q I rx ry h
 obtain ⟨a,b,xs,ys,rfl,rfl,ha,hb,hx,hz,q1,q2⟩:=h
 cases rx
 cases ry
 obtain ⟨its,r1,p1,_⟩:=I.tuple ha
 obtain ⟨its2,r2,p2,_⟩:=I.tuple hb
 refine HT.DC p1 p2 (fun z=>hx (r1.nil_iff.mp z)) (fun z=>⟨.ref a,H,I,rfl,q1 (r2.nil_iff.mp z)⟩) (fun z=>?_) (by rw [← r1.length,← r2.length]; exact hz)
 refine ⟨.ref s.heap.objs.size,_,I.laid (t':=s.toks) (o:=.tup (xs ++ ys)) (fun b ob q=>Heap.get?_push_of_some _ q) (Nat.le_refl _) ?_,rfl,q2 (fun w=>z (r2.nil_iff.mpr w)) _ (I.hok.fresh (Nat.le_refl _))⟩
 exact ⟨by rw [List.length_append]; exact hz,_,r1.append r2,jM.new _ _⟩
end
end L2
namespace L2
open PySem PySem.Spec PyProof.Rows
def yA (n:Nat) (i:Int):Option Nat:=if 0<=i then (if i < n then some i.toNat else none) else if -(n:Int)<=i then some (i + n).toNat else none
def jG {α:Type} (xs:List α) (i:Int):Option α:=(yA xs.length i).bind fun j=>xs[j]?
theorem va {n:Nat} {i:Int} {j:Nat} (h:yA n i=some j):seqIndex? i n=some j/\j < n/\-(n:Int)<=i/\i < n:=by
 unfold yA at h
 by_cases h0:0<=i
 ·rw [if_pos h0] at h
  by_cases h1:i < n
  ·rw [if_pos h1] at h
   have e:i.toNat=j:=Option.some.inj h
   exact ⟨by rw [seqIndex_of h0 h1,e],by omega,by omega,h1⟩
  ·rw [if_neg h1] at h; cases h
 ·rw [if_neg h0] at h
  by_cases h1:-(n:Int)<=i
  ·rw [if_pos h1] at h
   have e:(i + n).toNat=j:=Option.some.inj h
   exact ⟨by rw [seqIndex_neg (by omega) h1,e],by omega,h1,by omega⟩
  ·rw [if_neg h1] at h; cases h
theorem yS {α:Type} {xs:List α} {i:Int} {v:α} (h:jG xs i=some v):∃ j,seqIndex? i xs.length=some j/\xs[j]?=some v/\j < xs.length/\-(xs.length:Int)<=i/\i < xs.length:=by
 unfold jG at h
 cases e:yA xs.length i with
 | none=>rw [e] at h; cases h
 | some j =>
  rw [e] at h
  obtain ⟨h1,h2,h3,h4⟩:=va e
  exact ⟨j,h1,h,h2,h3,h4⟩
theorem cR {α:Type} {xs:List α} {j:Nat} {v:α} (h:xs[j]?=some v):jG xs (j:Int)=some v:=by
 have hj:j < xs.length:=(List.getElem?_eq_some_iff.mp h).1
 have e:yA xs.length (j:Int)=some j:=by
  unfold yA
  rw [if_pos (by omega),if_pos (by omega)]; simp
 unfold jG; rw [e]; exact h
def DW (b:Expr):Prop:=∀ o i,subscripted b false o i=operate [o,i] (getItem o i)
def HU (X:Cx) (r:R2):Prop :=
 ∀ (value slice:Expr) (pins:List (Addr×Obj)) (s:Shared) (σ:St) (H:Hp) (x y:V) (v u:Value) (Q:VK),aV X pins σ H s->RelV x v->RelV y u->r x y H Q ->
  subscripted slice false v u=operate [v,u] (getItem v u)->wpAny (model X.prog X.w) X.A (subscriptTail value slice v u) (EP X pins σ Q) X.xe s
def Js (X:Cx) (id:String) (r:V->List V->Hp->VK->Prop):Prop :=
 ∀ (pins:List (Addr×Obj)) (s:Shared) (σ:St) (H:Hp) (x:V) (xs:List V) (v:Value) (us:List Value) (Q:VK),aV X pins σ H s->RelV x v->Vals xs us->r x xs H Q ->
  wpAny (model X.prog X.w) X.A (call (.builtin id) (v :: us)) (EP X pins σ Q) X.xe s
section
variable {X:Cx} {a b:Expr} {ta tb:TE} {pos:Pos}
theorem aw {r:R2} (hr:HU X r) (ha:PE X a ta) (hb:PE X b tb) (hs:DW b):PE X (.Subscript a b pos) (GS r ta tb):=by
 intro pins s σ H Q I h
 exact Subscript_ (EV ha hb I h fun v u s2 x y H2 I2 rx ry q=>hr a b pins s2 σ H2 x y v u Q I2 rx ry q (hs _ _))
def FT (K:PySem.W.Frag):R2:=fun x y H Q=>∃ p xs i v,x=.ref p/\y=.int i/\bb K H p xs/\jG xs i=some v/\Q v H
def Gk (K:PySem.W.Frag):R2:=fun x y H Q=>∃ p xs i v,x=.ref p/\y=.int i/\aZ K H p xs/\jG xs i=some v/\Q v H
theorem CF:HU X (FT X.K):=by
 intro value slice pins s σ H x y v u Q I rx ry h hs
 obtain ⟨p,xs,i,z,rfl,rfl,hq,he,q⟩:=h
 cases rx
 obtain ⟨t,rfl⟩:=ry
 obtain ⟨its,r,pl,hz⟩:=I.list hq
 obtain ⟨j,h1,h2,h3,h4,h5⟩:=yS he
 obtain ⟨w,ew,rw'⟩:=r.get h2
 have hl:=r.length
 have hn:=qQ
 have fin:EP X pins σ Q w s:=⟨z,H,I,rw',q⟩
 by_cases h0:0<=i
 ·have hj:i.toNat=j:=by
   rw [seqIndex_of h0 h5] at h1
   exact Option.some.inj h1
  exact item_listR pl.isList h0 (by omega) (by rw [hj]; simpa using ew) fin hs
 ·have hj:(i + (its.toArray.size:Int)).toNat=j:=by
   rw [seqIndex_neg (by omega) h4] at h1
   rw [List.size_toArray,← hl]
   exact Option.some.inj h1
  exact subscriptTail_builtinR (x:=w) pl.isList.typeIs slot_list_getitem.lookup
   (wpAny_getItem_list_neg (Q:=fun r s'=>r=w/\EP X pins σ Q r s') pl.isList (by omega) (by rw [List.size_toArray] <;> omega) (by omega) (by rw [hj]; simpa using ew) ⟨rfl,fin⟩) hs
theorem Fj:HU X (Gk X.K):=by
 intro value slice pins s σ H x y v u Q I rx ry h hs
 obtain ⟨p,xs,i,z,rfl,rfl,hq,he,q⟩:=h
 cases rx
 obtain ⟨t,rfl⟩:=ry
 obtain ⟨its,r,pl,hz⟩:=I.tuple hq
 obtain ⟨j,h1,h2,h3,h4,h5⟩:=yS he
 obtain ⟨w,ew,rw'⟩:=r.get h2
 have hl:=r.length
 have hn:=qQ
 have fin:EP X pins σ Q w s:=⟨z,H,I,rw',q⟩
 exact subscriptTail_builtinR (x:=w) pl.typeIs slot_tuple_getitem.lookup
  (getItem_tuple (j:=j) (Q:=fun r s'=>r=w/\EP X pins σ Q r s') pl (by omega) (by omega) (by rw [List.size_toArray,← hl]; exact h1) (by simpa using ew) ⟨rfl,fin⟩) hs
theorem yg (its:List Value) (n j:Nat) (u:Value):Obj.mapSeq (·.setIfInBounds j u) { cls:=.type "list",data:=.seq its.toArray n }={ cls:=.type "list",data:=.seq (its.set j u).toArray n }:=by
 simp [Obj.mapSeq]
theorem aV.lst {pins:List (Addr×Obj)} {σ:St} {H:Hp} {s:Shared} {p:Addr} {xs:List V} (I:aV X pins σ H s) (h:H p=some (.lst xs)) :
  ∃ (its:List Value) (n:Nat),Vals xs its/\s.heap.get? p=some { cls:=.type "list",data:=.seq its.toArray n }/\xs.length<=sizeLine:=by
 obtain ⟨z,its,n,r,e⟩:=I.hok p _ h
 exact ⟨its,n,r,e,z⟩
theorem aV.lstUpd {pins:List (Addr×Obj)} {σ:St} {H:Hp} {s:Shared} {p:Addr} {xs ys:List V} {its its':List Value} {n n':Nat} {f:Obj->Obj} (I:aV X pins σ H s) (h:H p=some (.lst xs))
  (ho:s.heap.get? p=some { cls:=.type "list",data:=.seq its.toArray n }) (hf:f { cls:=.type "list",data:=.seq its.toArray n }={ cls:=.type "list",data:=.seq its'.toArray n' }) (r:Vals ys its') (hz:ys.length<=sizeLine) (t:Nat) :
  aV X pins σ (upd H p (.lst ys)) { s with heap:=s.heap.update p f,toks:=t }:=by
 have e:(s.heap.update p f).get? p=some { cls:=.type "list",data:=.seq its'.toArray n' }:=by
  rw [Heap.get?_update_self f ho (by rw [hf] <;> rfl),hf]
 refine I.write (x:=p) (e:=p) (by rw [h]; trivial) (.inl rfl) (fun b u hb q=>(Heap.get?_update_other _ _ (Ne.symm hb)).trans q) ⟨_,e⟩ ?_
 exact ⟨hz,its',n',r,e⟩
def Ei:V->V->V->Hp->(Hp->Prop)->Prop:=fun o i v H Q=>∃ p xs k j,o=.ref p/\i=.int k/\H p=some (.lst xs)/\yA xs.length k=some j/\Q (upd H p (.lst (xs.set j v)))
theorem ny:G5 X Ei:=by
 intro pins s σ H o i v ov iv u Q I ro ri rv h
 obtain ⟨p,xs,k,j,rfl,rfl,hp,hj,q⟩:=h
 cases ro
 obtain ⟨t,rfl⟩:=ri
 obtain ⟨its,n,r,ho,hz⟩:=I.lst hp
 obtain ⟨h1,h2,h3,h4⟩:=va hj
 have hl:=r.length
 have hn:=qQ
 have I':aV X pins σ (upd H p (.lst (xs.set j v))) { s with heap:=s.heap.update p (Obj.mapSeq (·.setIfInBounds j u)) } :=
  I.lstUpd hp ho (yg its n j u) (r.set rv j) (by rw [List.length_set]; exact hz) s.toks
 by_cases h0:0<=k
 ·have hk:k.toNat=j:=by
   rw [seqIndex_of h0 h4] at h1
   exact Option.some.inj h1
  exact PySem.W.ki_setAt ho h0 (by omega) (by rw [List.size_toArray,← hl]; exact h4) (by rw [hk]; exact ⟨_,I',q⟩)
 ·have hk:(k + (its.toArray.size:Int)).toNat=j:=by
   rw [seqIndex_neg (by omega) h3] at h1
   rw [List.size_toArray,← hl]
   exact Option.some.inj h1
  exact PySem.W.ki_setBack ho (by omega) (by rw [List.size_toArray,← hl]; exact h3) (by omega) (by rw [hk]; exact ⟨_,I',q⟩)
theorem uD (lo hi:Option Int) (n:Nat):(sliceBounds lo hi none n).1=((HT.dF n 0 lo:Nat):Int)/\(sliceBounds lo hi none n).2.1=((HT.dF n n hi:Nat):Int)/\(sliceBounds lo hi none n).2.2=1:=by
 refine ⟨?_,?_,rfl⟩
 ·cases lo with
  | none=>simp [sliceBounds,HT.dF]
  | some i =>
   simp only [sliceBounds,HT.dF,Option.getD_none,show (1:Int) > 0 by decide,if_true]
   by_cases h:i < 0
   ·simp only [h,if_true] <;> omega
   ·simp only [h,if_false] <;> omega
 ·cases hi with
  | none=>simp [sliceBounds,HT.dF]
  | some i =>
   simp only [sliceBounds,HT.dF,Option.getD_none,show (1:Int) > 0 by decide,if_true]
   by_cases h:i < 0
   ·simp only [h,if_true] <;> omega
   ·simp only [h,if_false] <;> omega
theorem sU (its:List Value) (lo hi:Option Int):slicePick its.toArray lo hi none=((its.drop (HT.dF its.length 0 lo)).take (HT.dF its.length its.length hi - HT.dF its.length 0 lo)).toArray:=by
 obtain ⟨h1,h2,h3⟩:=uD lo hi its.toArray.size
 unfold slicePick
 rw [h1,h2,h3]
 simp only [sliceRange_one,pick_run,List.size_toArray] <;> rfl
def Ge (K:PySem.W.Frag):V->Option Int->Option Int->Hp->VK->Prop:=fun x lo hi H Q=>∃ a xs,x=.ref a/\bb K H a xs/\∀ p,H p=none->Q (.ref p) (upd H p (.lst (ja xs lo hi)))
theorem CO:GR X (Ge X.K):=by
 intro pins s σ H x v vl vu lo hi sl Q I rx hs pl pu h
 obtain ⟨a,xs,rfl,hx,q⟩:=h
 cases rx
 obtain ⟨its,r,ht,hz⟩:=I.list hx
 have hlen:=r.length
 refine ⟨"list",_,slot_list_getitem.lookup,ht.isList.typeIs,?_⟩
 refine wpAny_getItem_list_slice ht.isList hs pl pu .none (by simp) ?_ (by rw [List.size_toArray] <;> omega)
 rw [sU,← hlen]
 refine ⟨.ref s.heap.objs.size,_,I.laid (t':=s.toks) (o:=.lst (ja xs lo hi)) (fun b ob q=>Heap.get?_push_of_some _ q) (Nat.le_refl _) ?_,rfl,q _ (I.hok.fresh (Nat.le_refl _))⟩
 exact ⟨Nat.le_trans (pj xs lo hi) hz,_,0,(r.drop (HT.dF xs.length 0 lo)).take (HT.dF xs.length xs.length hi - HT.dF xs.length 0 lo),Heap.get?_push_size _ rfl⟩
theorem ue:fg X (.builtin "len") (fun xs H Q=>∃ p ys,xs=[.ref p]/\(bb X.K H p ys∨aZ X.K H p ys)/\Q (.int ys.length) H):=by
 intro pins s σ H xs us Q I r h
 obtain ⟨p,ys,rfl,hq,q⟩:=h
 obtain ⟨u,rfl,rx⟩:=kS r
 cases rx
 have hn:=qQ
 rcases hq with hq | hq
 ·obtain ⟨its,r',pl,hz⟩:=I.list hq
  have hlen:=r'.length
  exact Calls.call_len_list pl.isList (by simp only [List.size_toArray] <;> omega) ⟨.int ys.length,H,I.tok _,⟨s.toks + 1,by rw [List.size_toArray,hlen]⟩,q⟩
 ·obtain ⟨its,r',pl,hz⟩:=I.tuple hq
  have hlen:=r'.length
  exact len_tuple pl (by simp only [List.size_toArray] <;> omega) ⟨.int ys.length,H,I.tok _,⟨s.toks + 1,by rw [List.size_toArray,hlen]⟩,q⟩
theorem uv:fg X (.type "list") (fun xs H Q=>∃ p ys,xs=[.ref p]/\(bb X.K H p ys∨aZ X.K H p ys)/\∀ l,H l=none->Q (.ref l) (upd H l (.lst ys))):=by
 intro pins s σ H xs us Q I r h
 obtain ⟨p,ys,rfl,hq,q⟩:=h
 obtain ⟨u,rfl,rx⟩:=kS r
 cases rx
 have fin:∀ (its:List Value),Vals ys its->ys.length<=sizeLine->∀ (h':Heap) (c':Nat),(∀ b o',s.heap.get? b=some o'->h'.get? b=some o') ->
   h'.get? s.heap.objs.size=some { cls:=.type "list",dict:=none,data:=.seq its.toArray c',slots:=#[] }->EP X pins σ Q (.ref s.heap.objs.size) { s with heap:=h' }:=fun its r' hz h' c' kp e =>
  ⟨.ref s.heap.objs.size,_,I.laid (t':=s.toks) kp (Nat.le_refl _) (show cL X.prog X.w _ h' _ (.lst ys) from ⟨hz,its,c',r',e⟩),rfl,q _ (I.hok.fresh (Nat.le_refl _))⟩
 rcases hq with hq | hq
 ·obtain ⟨its,r',pl,hz⟩:=I.list hq
  have hlen:=r'.length
  obtain ⟨o,ho,hc,n,hd⟩:=pl.isList
  exact call_list_seq p (.inl rfl) ho hc hd (fun h' c' kp e=>fin its r' hz h' c' kp e) (by simp only [List.size_toArray] <;> omega)
 ·obtain ⟨its,r',pl,hz⟩:=I.tuple hq
  have hlen:=r'.length
  obtain ⟨o,ho,hc,n,hd⟩:=pl
  exact call_list_seq p (.inr rfl) ho hc hd (fun h' c' kp e=>fin its r' hz h' c' kp e) (by simp only [List.size_toArray] <;> omega)
theorem sX:fg X (.type "tuple") (fun xs H Q=>∃ p ys,xs=[.ref p]/\((bb X.K H p ys/\∀ l,H l=none->Q (.ref l) (upd H l (.tup ys)))∨(aZ X.K H p ys/\Q (.ref p) H))):=by
 intro pins s σ H xs us Q I r h
 obtain ⟨p,ys,rfl,h⟩:=h
 obtain ⟨u,rfl,rx⟩:=kS r
 cases rx
 rcases h with ⟨hq,q⟩ | ⟨hq,q⟩
 ·obtain ⟨its,r',pl,hz⟩:=I.list hq
  have hlen:=r'.length
  refine call_tuple_list pl.isList (fun h' kp=>?_) (by simp only [List.size_toArray] <;> omega)
  have I1:aV X pins σ H { s with heap:=h' }:=I.kept (t':=s.toks) kp
  have I2:aV X pins σ (upd H h'.objs.size (.tup ys)) { s with heap:=h'.push { cls:=.type "tuple",data:=.seq its.toArray } } :=
   I1.laid (t':=s.toks) (fun b o e=>Heap.get?_push_of_some _ e) (Nat.le_refl _) (show cL X.prog X.w _ _ _ (.tup ys) from ⟨hz,its,r',jM.new _ _⟩)
  exact ⟨.ref h'.objs.size,_,I2,rfl,q _ (I1.hok.fresh (Nat.le_refl _))⟩
 ·obtain ⟨its,r',pl,hz⟩:=I.tuple hq
  exact call_tuple_same pl ⟨.ref p,H,I,rfl,q⟩
def Hj (K:PySem.W.Frag) (T:String) (x:V) (H:Hp):Prop:=match x with
 | .str _=>T="str"
 | .int _=>T="int"
 | .ref p=>(T="list"/\∃ xs,bb K H p xs)∨(T="tuple"/\∃ o,K.lookup p=some o/\o.cls=.type "tuple"/\o.dict=none) ∨
   (T="dict"/\((∃ kvs,H p=some (.dK kvs))∨∃ kvs,H p=some (.dT kvs)))∨(T="set"/\∃ S n,H p=some (.set S n))
 | _=>False
theorem AV {pins:List (Addr×Obj)} {σ:St} {H:Hp} {s:Shared} {T:String} {x:V} {v:Value} (I:aV X pins σ H s) (r:RelV x v) (ty:Hj X.K T x H) :
  s.TypeIs v T/\∀ a,v=.ref a->∃ ob,s.heap.get? a=some ob/\ob.dict=none:=by
 cases x with
 | str z =>
  obtain ⟨t,rfl⟩:=r
  cases (show T="str" from ty)
  exact ⟨typeIs_str s z t,fun _ e=>nomatch e⟩
 | int i =>
  obtain ⟨t,rfl⟩:=r
  cases (show T="int" from ty)
  exact ⟨typeIs_int s i t,fun _ e=>nomatch e⟩
 | ref p =>
  cases r
  rcases ty with ⟨rfl,xs,hq⟩ | ⟨rfl,o,hk,hc,hd⟩ | ⟨rfl,hk⟩ | ⟨rfl,S,n,hk⟩
  ·obtain ⟨its,_,pl,_⟩:=I.list hq
   refine ⟨pl.isList.typeIs,fun a e=>?_⟩
   cases e
   obtain ⟨o,n,e,c,hd,_⟩:=pl
   exact ⟨o,e,hd⟩
  ·refine ⟨⟨o,I.kIn p o hk,hc⟩,fun a e=>?_⟩
   cases e
   exact ⟨o,I.kIn _ o hk,hd⟩
  ·have z:∃ o,s.heap.get? p=some o/\o.ExactDict:=by
    rcases hk with ⟨kvs,hk⟩ | ⟨kvs,hk⟩
    ·obtain ⟨_,_,_,_,o,_,_,e,ex,_⟩:=I.hok p _ hk
     exact ⟨o,e,ex⟩
    ·obtain ⟨_,_,_,_,o,_,_,e,ex,_⟩:=I.hok p _ hk
     exact ⟨o,e,ex⟩
   obtain ⟨o,e,ex⟩:=z
   refine ⟨⟨o,e,ex.1⟩,fun a e2=>?_⟩
   cases e2
   exact ⟨o,e,ex.2.1⟩
  ·obtain ⟨o,_,_,_,e,ex,_⟩:=I.hok p _ hk
   refine ⟨⟨o,e,ex.1⟩,fun a e2=>?_⟩
   cases e2
   exact ⟨o,e,ex.2.1⟩
 | _=>exact False.elim ty
def GU (K:PySem.W.Frag) (T:String) (r:V->List V->Hp->VK->Prop) (to:TE) (t:TA):TE:=fun σ H Q=>to σ H fun x H1=>Hj K T x H1/\t σ H1 fun xs H2=>r x xs H2 Q
variable {o e:Expr} {es:List Expr} {to:TE} {t:TA} {name:Str} {apos cpos:Pos} {T id:String} {r:V->List V->Hp->VK->Prop}
theorem eG (pa:PlainAttrs T) (slot:Slot T name id) (hty:typeOf (.builtin id)=pure (.type "method_descriptor")) (hm:Js X id r) (ho:PE X o to) (ha:PA X (e :: es) t)
  (hbase:attributeBase o name X.env (eval o X.env)=eval o X.env:=by rfl)
  (hfew:((backTo cpos (starEach (e :: es) X.env)).all (fun x=>!x.1) && (backToKw cpos (keywordEach [] X.env)).all (fun x=>x.1.isSome)
   && decide ((e :: es).length + ([]:List Keyword).length + (if ([]:List Keyword).isEmpty then 0 else 1) < 30))=true:=by rfl)
  (hline:(apos.endLine == cpos.line)=true:=by rfl) (hs:starEach (e :: es) X.env=(false,eval e X.env) :: starEach es X.env:=by rfl) (hplain:(backTo cpos (starEach es X.env)).any (·.1)=false:=by rfl) :
  PE X (.Call (.Attribute o name apos) (e :: es) [] cpos) (GU X.K T r to t):=by
 intro pins s σ H Q I h
 refine wpAny_Call_method_late hbase hfew hline rfl (cE (ho pins s σ H _ I h) fun v s1 ⟨x,H1,I1,r1,ty,q1⟩=>?_)
 obtain ⟨h1,h2⟩:=AV I1 r1 ty
 refine ⟨T,id,pa,slot,hty,h1,h2,?_⟩
 have hA:=ha cpos pins s1 σ H1 _ I1 q1
 rw [hs] at hA ⊢
 refine Calls.callWith_builtin (by show (false || (backTo cpos (starEach es X.env)).any (·.1))=false; rw [hplain] <;> rfl) (Calls.evalArgs_plain ?_)
 exact cE hA fun us s2 ⟨vs,H2,I2,r2,q2⟩=>hm pins s2 σ H2 x vs v us Q I2 r1 r2 q2
end
end L2
namespace L2
open PySem PySem.Spec PyProof.Rows
def IP (X:Cx) (id:String) (r:V->List V->Hp->VK->Prop):Prop :=
 ∀ (pins:List (Addr×Obj)) (s:Shared) (σ:St) (H:Hp) (x:V) (xs:List V) (v:Value) (us:List Value) (Q:VK),aV X pins σ H s->RelV x v->Vals xs us->r x xs H Q ->
  wpAny (model X.prog X.w) X.A (call (.builtin id) (v :: us)) (EP X pins σ Q) X.xe s
theorem Vals.one:∀ {x:V} {us:List Value},Vals [x] us->∃ u,us=[u]/\RelV x u
 | _,_,.cons r .nil=>⟨_,rfl,r⟩
theorem Vals.two:∀ {x y:V} {us:List Value},Vals [x,y] us->∃ u v,us=[u,v]/\RelV x u/\RelV y v
 | _,_,_,.cons r (.cons q .nil)=>⟨_,_,rfl,r,q⟩
theorem Vals.eraseIdx:∀ {xs:List V} {us:List Value} (i:Nat),Vals xs us->Vals (xs.eraseIdx i) (us.eraseIdx i)
 | _,_,_,.nil=>.nil
 | _,_,0,.cons _ t=>t
 | _,_,i + 1,.cons r t=>.cons r (Vals.eraseIdx i t)
theorem Vals.reverse {xs:List V} {us:List Value} (h:Vals xs us):Vals xs.reverse us.reverse:=by
 induction h with
 | nil=>exact .nil
 | cons r t ih=>rw [List.reverse_cons,List.reverse_cons]; exact Vals.append ih (.cons r .nil)
theorem tU {α:Type}:∀ (l:List α) (i:Nat),(l.eraseIdx i).length<=l.length
 | [],_=>Nat.le_refl _
 | _ :: _,0=>Nat.le_succ _
 | _ :: r,i + 1=>Nat.succ_le_succ (tU r i)
section
variable {X:Cx} {pins:List (Addr×Obj)} {σ:St} {H:Hp} {s:Shared} {l b:Addr} {xs ys zs:List V}
theorem aV.lset {its its':List Value} {n:Nat} {f:Array Value->Array Value} {t':Nat} (I:aV X pins σ H s) (hH:H l=some (.lst xs))
  (e:s.heap.get? l=some { cls:=.type "list",data:=.seq its.toArray n }) (hf:f its.toArray=its'.toArray) (hv:Vals ys its') (hz:ys.length<=sizeLine) :
  aV X pins σ (upd H l (.lst ys)) { s with heap:=s.heap.update l (Obj.mapSeq f),toks:=t' }:=by
 have q:=PySem.IsL.update e f
 rw [hf] at q
 refine I.write (x:=l) (e:=l) (by rw [hH]; exact trivial) (.inl rfl) (fun b' u hb hu=>(Heap.get?_update_other s.heap (Obj.mapSeq f) (Ne.symm hb)).trans hu) ⟨_,q⟩ ?_
 exact ⟨hz,its',_,hv,q⟩
theorem aV.lnew {its:List Value} {t':Nat} (I:aV X pins σ H s) (hv:Vals ys its) (hz:ys.length<=sizeLine) :
  aV X pins σ (upd H s.heap.objs.size (.lst ys)) { s with heap:=s.heap.push { cls:=.type "list",data:=.seq its.toArray },toks:=t' } :=
 I.laid (fun _ _ q=>Heap.get?_push_of_some _ q) (Nat.le_refl _) ⟨hz,its,0,hv,Heap.get?_push_size _ rfl⟩
theorem aV.fresh (I:aV X pins σ H s):H s.heap.objs.size=none:=I.hok.fresh (Nat.le_refl _)
theorem aV.lstM (I:aV X pins σ H s) (hH:H l=some (.lst xs)):xs.length<=sizeLine/\∃ (its:List Value) (n:Nat),Vals xs its/\xs.length=its.length/\s.heap.get? l=some { cls:=.type "list",data:=.seq its.toArray n }:=by
 obtain ⟨z,its,n,r,e⟩:=I.hok l _ hH
 exact ⟨z,its,n,r,r.length,e⟩
theorem Bt {n:Nat} (h:n<=sizeLine):Builtin.List.listTooLong n=false:=by
 unfold Builtin.List.listTooLong
 exact decide_eq_false (by omega)
end
section
variable {X:Cx}
def qj:V->List V->Hp->VK->Prop:=fun x vs H Q=>∃ l xs y,x=.ref l/\vs=[y]/\H l=some (.lst xs)/\xs.length < sizeLine/\Q .non (upd H l (.lst (xs ++ [y])))
theorem cu:IP X "list.append" qj:=by
 intro pins s σ H x vs v us Q I rx rv h
 obtain ⟨l,xs,y,rfl,rfl,hH,hz,q⟩:=h
 cases rx
 obtain ⟨u,rfl,ru⟩:=rv.one
 obtain ⟨z,its,n,r,hl,e⟩:=I.lstM hH
 refine call_meets F.slot_list_append ⟨_,e,rfl⟩ F.entry_list_append (F.args_list_append_2 _ _) (PySem.list_append l its.toArray n u (by rw [List.size_toArray]; omega)) ⟨e,?_⟩
 refine ⟨.non,_,I.lset (its':=its ++ [u]) hH e (by simp) (r.append (.cons ru .nil)) ?_,rfl,q⟩
 rw [List.length_append,List.length_singleton]
 omega
def D0:V->List V->Hp->VK->Prop:=fun x vs H Q=>∃ l b xs zs,x=.ref l/\vs=[.ref b]/\H l=some (.lst xs)/\H b=some (.lst zs)/\xs.length + zs.length<=sizeLine/\Q .non (upd H l (.lst (xs ++ zs)))
theorem Ad:IP X "list.extend" D0:=by
 intro pins s σ H x vs v us Q I rx rv h
 obtain ⟨l,b,xs,zs,rfl,rfl,hH,hB,hz,q⟩:=h
 cases rx
 obtain ⟨u,rfl,ru⟩:=rv.one
 cases ru
 obtain ⟨z,its,n,r,hl,e⟩:=I.lstM hH
 obtain ⟨z2,its2,n2,r2,hl2,e2⟩:=I.lstM hB
 have hsz:its.toArray.size + its2.toArray.size<=sizeLine:=by rw [List.size_toArray,List.size_toArray]; omega
 have hlong:¬ (!its.toArray.isEmpty && Builtin.List.listTooLong (its.toArray.size + its2.toArray.size))=true:=by
  rw [Bt hsz,Bool.and_false]
  exact Bool.false_ne_true
 refine call_meets F.slot_list_extend ⟨_,e,rfl⟩ F.entry_list_extend (F.args_list_extend_2 _ _)
  (AutoSeq1.list_extend_list_list_0 l its.toArray n b its2.toArray n2 hlong (by rw [List.size_toArray]; omega) (by omega)) ⟨e,e2,?_⟩
 refine ⟨.non,_,I.lset (its':=its ++ its2) hH e (by simp) (r.append r2) ?_,rfl,q⟩
 rw [List.length_append]
 omega
def yu:V->List V->Hp->VK->Prop:=fun x vs H Q=>∃ l xs i k y,x=.ref l/\vs=[.int i]/\H l=some (.lst xs)/\-(2 ^ 63)<=i/\i < 2 ^ 63/\seqIndex? i xs.length=some k/\xs[k]?=some y/\Q y (upd H l (.lst (xs.eraseIdx k)))
theorem si:IP X "list.pop" yu:=by
 intro pins s σ H x vs v us Q I rx rv h
 obtain ⟨l,xs,i,k,y,rfl,rfl,hH,h1,h2,hk,hy,q⟩:=h
 cases rx
 obtain ⟨u,rfl,ru⟩:=rv.one
 obtain ⟨t,rfl⟩:=ru
 obtain ⟨z,its,n,r,hl,e⟩:=I.lstM hH
 obtain ⟨w,hw,rw'⟩:=r.get hy
 refine call_meets F.slot_list_pop ⟨_,e,rfl⟩ F.entry_list_pop (F.args_list_pop_2 _ _)
  (MeetsSeq.list_pop_at l its.toArray n i t k w (fitsIndex_both h1 h2) (by rw [List.size_toArray,← hl]; exact hk) (by rw [← Array.getElem?_toList]; exact hw) (by rw [List.size_toArray]; omega)) ⟨e,?_⟩
 refine ⟨y,_,I.lset (its':=its.eraseIdx k) hH e ?_ (r.eraseIdx k) ?_,rw',q⟩
 ·show its.toArray.eraseIdxIfInBounds k=(its.eraseIdx k).toArray
  rw [List.eraseIdxIfInBounds_toArray]
 ·have:=tU xs k
  omega
def Hy:R2:=fun x y H Q=>∃ l b xs zs,x=.ref l/\y=.ref b/\H l=some (.lst xs)/\H b=some (.lst zs)/\xs.length + zs.length<=sizeLine/\∀ p,H p=none->Q (.ref p) (upd H p (.lst (xs ++ zs)))
theorem uj:j3 X (binaryOp .Add) Hy:=by
 intro pins s σ H x y v u Q I rx ry h
 obtain ⟨l,b,xs,zs,rfl,rfl,hH,hB,hz,q⟩:=h
 cases rx
 cases ry
 obtain ⟨z,its,n,r,hl,e⟩:=I.lstM hH
 obtain ⟨z2,its2,n2,r2,hl2,e2⟩:=I.lstM hB
 refine PySem.P.add_list e e2 ?_ (by rw [List.size_toArray,List.size_toArray]; omega)
 have ea:its.toArray ++ its2.toArray=(its ++ its2).toArray:=by simp
 rw [ea]
 exact ⟨.ref _,_,I.lnew (t':=s.toks) (r.append r2) (by rw [List.length_append]; omega),rfl,q _ I.fresh⟩
end
section
variable {prog:Program} {w:World} {A:Around} {E:Value->Shared->Prop} {s:Shared}
end
section
variable {X:Cx}
end
end L2
namespace Att
open PySem PySem.W PySem.Calls PyProof.Rows
theorem p9 {P:Params} {h:Heap}:∀ (ns:List Int) (vs:List Value),WellAll P h vs (ns.map WData.int)->IntsAre vs ns:=by
 intro ns
 induction ns with
 | nil =>
  intro vs w
  rw [List.map_nil] at w
  cases w
  exact .nil
 | cons n ns ih =>
  intro vs w
  rw [List.map_cons] at w
  cases w with
  | cons a b =>
   cases a
   exact .cons _ _ (ih _ b)
theorem zO {l:OpenLaw} {n:Nat} (hn:l.most=some n) {P:Params} {h:Heap} {args:List WData} {vals:List Value}
  (hpre:l.row.toRowW.claim.pre args=true) (hwl:WellAll P h vals args) :
  ∃ a vs ns,vals=[Value.ref a]/\args=[WData.list (ns.map WData.int)]/\h.get? a=some { cls:=.type "list",data:=.seq vs.toArray }/\IntsAre vs ns/\ns.length<=n:=by
 have hsh:WShape.hasAll [] args [.list .int]=true:=(pre_splitW hpre).1
 have hc:l.pre.holds [] { args:=args }=true:=(pre_splitW hpre).2
 obtain ⟨d,r,rfl,h1,h2⟩:=hasAllW_cons hsh
 obtain rfl:=hasAllW_nil h2
 obtain ⟨xs,rfl,h3⟩:=hasW_list h1
 obtain ⟨ns,rfl⟩:=items_int h3
 have hlen:ns.length<=n:=by
  unfold OpenLaw.pre at hc
  have h4:(WTm.not (.lt (.lit (.int (n:Int))) (.len (.arg 0)))).holds [] { args:=[.list (ns.map .int)] }=true:=by
   have h4:=(holds_andW hc).1
   rw [hn] at h4
   exact h4
  have h5:=condW_of h4 (w_not (w_lt w_lit (w_len_list (w_arg rfl))))
  rw [List.length_map] at h5
  refine Nat.le_of_not_lt fun q=>?_
  have q':(n:Int) < ((ns.length:Nat):Int):=by omega
  first
   | (rw [decide_eq_true q'] at h5; exact absurd h5 (by decide))
   | (simp at h5; omega)
 cases hwl with
 | cons w1 w2 =>
  cases w2
  cases w1 with
  | list ho hall=>exact ⟨_,_,ns,rfl,rfl,ho,p9 ns _ hall,hlen⟩
theorem zX (l:OpenLaw) (args:List WData):l.row.toRowW.claim.post args (.bool true) args=true :=
 postW_of (r:=l.row.toRowW) (X:=(true == true))
  (show WShape.has [] (.bool true) .bool=true by first | rfl | decide | simp [WShape.has,WShape.arms,WShape.armsAll])
  (show (WTm.eq .res (.lit (.bool true))).value [] { args:=args,res:=some (.bool true),after:=args }=some (.bool (true == true)) from w_eq_bool (w_res rfl) w_lit) rfl
theorem attach_call {l:OpenLaw} {n:Nat} {q:Program} {loose:List Str} {XP:(Str->Option Value)->Heap->Prop} {YP:World->Heap->Prop} {d:DefRec}
  (hn:l.most=some n) (hdf:d.params.defaults=[])
  (call:∀ (w:World) (s₀ s₁:Shared) (mg mb:Str->Option Value) (fa:Addr) (o:Obj) (pm cd doc:Value) (a:Addr) (vs:List Value) (ns:List Int),
   Ground q loose [] XP w s₀ mg mb s₁.heap->YP w s₁.heap ->
   s₁.heap.get? fa=some o->o.data=.func (docDef d.name d.params d.body d.scope pm cd doc)->s₁.heap.CodeRec cd d.name->mg d.name=some (.ref fa) ->
   s₁.heap.get? a=some { cls:=.type "list",data:=.seq vs.toArray }->IntsAre vs ns->ns.length<=n->s₁.gens=#[] ->
   codeAny (model l.prog w) callerA (.call (.ref fa) ⟨[.ref a],[]⟩) (fun r s'=>r=.ok (.ret (.bool true))/\OldK s₁.heap s'.heap/\s'.os=s₁.os/\AllBare s'.gens) s₁) :
  WalkO q loose XP YP l.row.toRowW d [] (fun f vs=>PySem.call f vs):=by
 intro w s₀ s₁ mg mb G Y fa o pm cd doc dV kV ho hd hcd hD hmg hg args vals as hpre hlay hrd hwl hlo
 obtain rfl:dV=.none:=Dflts.none hD hdf
 obtain rfl:kV=.none:=Dflts.noKw hD
 obtain ⟨a,vs,ns,rfl,rfl,hobj,hints,hlen⟩:=zO hn hpre hwl
 refine enter_call (codeAny_mono (call w s₀ s₁ mg mb fa o pm cd doc a vs ns G Y ho (fd_plain hd) hcd hmg hobj hints hlen hg) fun r s' hq=>?_)
 obtain ⟨rfl,h2,h3,h4⟩:=hq
 exact ⟨.inl ⟨.bool true,.bool true,[],rfl,fun _=>rfl,.bool true,zX l _,fun _=>⟨List.Pairwise.nil,fun _ hm=>(nomatch hm)⟩⟩,h2,h3,h4⟩
section
variable {prog:Program} {w:World} {A:Around} {E:Value->Shared->Prop} {s:Shared} {K:Frag}
end
end Att
namespace L2
open PySem PySem.Spec PyProof.Rows
theorem oI:∀ {vs:List Value} {ns:List Int},IntsAre vs ns->Vals (ns.map V.int) vs
 | _,_,.nil=>.nil
 | _,_,.cons n t h=>.cons ⟨t,rfl⟩ (oI h)
def E6 (H:Hp):Prop:=∀ b,H b=none∨∃ o xs,H b=some (.frz o (.lst xs))
theorem BV {P:Program} {w:World} {K:PySem.W.Frag} {mg mb:Str->Option Value} {CX:yi} {k:Nat} {fa a:Addr} {fd:FuncData} {x:Str} {sp:Sp} {s₁:Shared} {vs:List Value} {ns:List Int}
  (KX:K.In s₁.heap) (hns:s₁.heap.Ns mainGlobals mg) (hb:s₁.heap.Ns builtinsNs mb) (hbb:∀ x:Str,x≠"__name__"->mb x=bootBuiltins x) (hlim:s₁.heap.NoLimit) (hg:s₁.gens=#[])
  (ha:s₁.heap.get? a=some { cls:=.type "list",data:=.seq vs.toArray }) (hi:IntsAre vs ns) (hl:ns.length<=sizeLine) (hr:eM k callerA)
  (F:∀ base:Heap,K.In base->base.Ns mainGlobals mg->aT P w K mg base CX k fa fd [x] sp) (hbind:∀ (s:Shared) (u:Value),BindsTo s fd ⟨[u],[]⟩ [(x,u)])
  (hsp:∀ H:Hp,E6 H->bb K H a (ns.map V.int)->sp [.ref a] H (fun v _=>v=.bl true) fun _ _ _=>False)
  (hCX:∀ H e s',CX [] H s₁ (fun _ _ _=>False) e s'->False) :
  codeAny (model P w) callerA (.call (.ref fa) ⟨[.ref a],[]⟩) (fun r s'=>r=.ok (.ret (.bool true))/\OldK s₁.heap s'.heap/\s'.os=s₁.os/\AllBare s'.gens) s₁:=by
 have rv:=oI hi
 have lenV:=hi.length
 -- from an abstract heap in which nothing but the script may be tracked
 have core:∀ H:Hp,E6 H->bb K H a (ns.map V.int)->k7 P w H s₁.heap->(∀ b,H b≠none->b=a)->(H a≠none->K.lookup a=none) ->
   codeAny (model P w) callerA (.call (.ref fa) ⟨[.ref a],[]⟩) (fun r s'=>r=.ok (.ret (.bool true))/\OldK s₁.heap s'.heap/\s'.os=s₁.os/\AllBare s'.gens) s₁:=by
  intro H hO hS hok hA hK
  have base_of:∀ {b:Addr} {o:Obj},s₁.heap.get? b=some o->H b=none->(uW s₁.heap H).get? b=some o:=fun e n=>Ax e n
  have noA:∀ {b:Addr} {o:Obj} {es:Array DictEntry} {ep:Nat},s₁.heap.get? b=some o->o.data=.dict es ep->H b=none:=fun {b o es ep} e d=>by
   cases q:H b with
   | none=>rfl
   | some u =>
    have e':b=a:=hA b (by rw [q]; simp)
    subst e'
    rw [ha] at e; cases e
    have d':Data.seq vs.toArray _=Data.dict es ep:=d
    cases d'
  have nsK:∀ {b:Addr} {m:Str->Option Value},s₁.heap.Ns b m->(uW s₁.heap H).Ns b m:=fun {b m} ⟨o,es,ep,e,d,r⟩=>⟨o,es,ep,base_of e (noA e d),d,r⟩
  have hKb:K.In (uW s₁.heap H):=fun b o e=>base_of (KX b o e) (by
   cases q:H b with
   | none=>rfl
   | some u =>
    have e':b=a:=hA b (by rw [q]; simp)
    subst e'
    rw [hK (by rw [q]; simp)] at e; cases e)
  have hM:Mod K mg (uW s₁.heap H):=⟨hKb,nsK hns,⟨mb,nsK hb,hbb⟩,let ⟨mc,h1,h2⟩:=hlim; ⟨mc,nsK h1,h2⟩⟩
  have e0:xD P w K mg (uW s₁.heap H) callerA [] s₁ H:=⟨rfl,hM,fun b o e=>CB e,Nat.le_of_eq (Ab _ _),trivial,fun b hb=>absurd (show b∈([]:List Addr) from hb) (by simp),hok,.of_eq hg⟩
  refine codeAny_mono ((F _ hKb (nsK hns)).run callerA [] s₁ H ⟨[.ref a],[]⟩ [.ref a] [.ref a] _ _ hr e0 (hbind s₁ (.ref a)) (.cons rfl .nil) (hsp H hO hS)) fun r s' h=>?_
  cases r with
  | error e=>exact (hCX H e s' h).elim
  | ok fl =>
   cases fl with
   | next=>exact False.elim h
   | brk=>exact False.elim h
   | cont=>exact False.elim h
   | ret u =>
    obtain ⟨v,H',os,bare,un,hok',r',q⟩:=h
    have q':v=.bl true:=q
    subst q'
    obtain rfl:u=Value.bool true:=r'
    refine ⟨rfl,OldK.of_keep fun b o e=>?_,os,bare⟩
    cases q:H b with
    | none=>exact un.keep b o e q (by intro z; exact absurd (show b∈([]:List Addr) from z) (by simp)) (by simp)
    | some u =>
     rcases hO b with z | ⟨ob,xs,z⟩
     ·rw [q] at z; cases z
     ·have z2:=un.frzs b ob _ z
      obtain ⟨e1,_⟩:=hok b _ z
      obtain ⟨e2,_⟩:=hok' b _ z2
      rw [e] at e1; cases e1
      exact e2
 cases hk:K.lookup a with
 | some o =>
  -- the script is one of the module's own objects
  have e:=KX a o hk
  rw [ha] at e
  cases e
  refine core (fun _=>none) (fun _=>.inl rfl) (.inr ⟨_,vs.toArray,_,hk,rfl,rfl,rfl,by rw [List.size_toArray,lenV]; exact hl,by simpa using rv⟩) (fun b u z=>by have z':(none:Option HO)=some u:=z; cases z') (fun b z=>absurd rfl z) fun z=>absurd rfl z
 | none =>
  refine core (fun b=>if b=a then some (.frz { cls:=.type "list",data:=.seq vs.toArray } (.lst (ns.map V.int))) else none) (fun b=>?_) (.inl (.inr ⟨{ cls:=.type "list",data:=.seq vs.toArray },if_pos rfl⟩)) (fun b u z=>?_) (fun b z=>?_) fun _=>hk
  ·by_cases hb:b=a
   ·exact .inr ⟨_,_,if_pos hb⟩
   ·exact .inl (if_neg hb)
  ·by_cases hb:b=a
   ·have z':=(if_pos hb).symm.trans z
    cases z'
    subst hb
    exact ⟨ha,by rw [List.length_map]; exact hl,vs,_,rv,ha⟩
   ·have z':=(if_neg hb).symm.trans z
    cases z'
  ·by_cases hb:b=a
   ·exact hb
   ·exact absurd (if_neg hb) z
end L2
namespace L2
open PySem PySem.Spec PyProof.Rows
theorem CZ {l:PySem.W.OpenLaw} {n k:Nat} {q:Program} {loose:List Str} {XP:(Str->Option Value)->Heap->Prop} {YP:World->Heap->Prop} {d:DefRec} {K:Params->PySem.W.Frag} {CX:World->yi} {sp:World->Sp} {x:Str}
  (hn:l.most=some n) (hn2:n<=sizeLine) (hdf:d.params.defaults=[]) (hr:eM k callerA)
  (hY:∀ (w:World) (h:Heap),YP w h->(K w.params).In h)
  (F:∀ (w:World) (mg:Str->Option Value) (fa:Addr) (h:Heap),(K w.params).In h->h.Ns mainGlobals mg->mg d.name=some (.ref fa) ->
   ∃ fd:FuncData,(∀ (s:Shared) (u:Value),BindsTo s fd ⟨[u],[]⟩ [(x,u)]) /\
    ∀ base:Heap,(K w.params).In base->base.Ns mainGlobals mg->aT l.prog w (K w.params) mg base (CX w) k fa fd [x] (sp w))
  (hsp:∀ (w:World) (H:Hp) (a:Addr) (ns:List Int),ns.length<=n->E6 H->bb (K w.params) H a (ns.map V.int)->sp w [.ref a] H (fun v _=>v=.bl true) fun _ _ _=>False)
  (hCX:∀ (w:World) (H:Hp) (s:Shared) (e:Value) (s':Shared),CX w [] H s (fun _ _ _=>False) e s'->False) :
  PySem.W.WalkO q loose XP YP l.row.toRowW d [] (fun f vs=>PySem.call f vs):=by
 refine Att.attach_call hn hdf fun w s₀ s₁ mg mb fa o pm cd doc a vs ns G Y ho hd hcd hmg hobj hints hlen hg=>?_
 have KX:=hY w _ Y
 obtain ⟨fd,hb,hF⟩:=F w mg fa _ KX G.T.g hmg
 exact BV KX G.T.g G.T.b G.T.builtins G.T.nolimit hg hobj hints (Nat.le_trans hlen hn2) hr hF hb (fun H hO hS=>hsp w H a ns hlen hO hS) fun H e s'=>hCX w H s₁ e s'
end L2
namespace L2
open PySem PySem.Spec PyProof.Rows
def iS (s:Stmt) (j:Nat):Stmt:=match s with
 | .ClassDef _ _ _ body _ _ _ _ _ _ _=>body.getD j (.Pass ⟨0,0,0,0⟩)
 | _=>.Pass ⟨0,0,0,0⟩
def jz (s:Stmt):Arguments:=match s with
 | .FunctionDef _ a _ _ _ _ _ _ _ _=>a
 | _=>{ posonlyargs:=[],args:=[],vararg:=none,kwonlyargs:=[],kw_defaults:=[],kwarg:=none,defaults:=[] }
def iP (s:Stmt):List Stmt:=match s with
 | .FunctionDef _ _ b _ _ _ _ _ _ _=>b
 | _=>[]
def aF (s:Stmt):Scope:=match s with
 | .FunctionDef _ _ _ _ _ _ sc _ _ _=>sc
 | _=>{ kind:=.function,names:=[],isGenerator:=false,isCoroutine:=false }
abbrev cy:yi:=fun _ _ _ _ _ _=>False
abbrev E0:XK:=fun _ _ _=>False
theorem sr {X:Cx}:oE cy X E0:=fun _ _ _ _ _ _ _ h=>h.elim
structure cM (K:PySem.W.Frag) (x qual:Str) (st:Stmt) (f:Addr) (fd:FuncData):Prop where
 ex:∃ (oc:Value) (od:Option Addr) (kV doc pm:Value) (an:Option Addr) (cdv ct:Value) (osl:Array (Option Value)),
  fd=PySem.W.fnOf x qual (jz st) (iP st) (aF st) .none kV doc pm an cdv ct/\K.lookup f=some ⟨oc,od,.func fd,osl⟩/\PySem.W.codeIn K cdv qual=true
 kp:PySem.W.keepIn K (.ref f)=true
section
variable {P:Program} {w:World} {K:PySem.W.Frag} {mg:Str->Option Value} {base:Heap}
theorem cM.ok {x qual:Str} {st:Stmt} {f:Addr} {fd:FuncData} {N ps:List Str} {k:Nat} {sp:Sp} (F:cM K x qual st f fd) (S:aW N ps (aF st)) (len:∀ vs H Q E,sp vs H Q E->vs.length=ps.length)
  (hbody:∀ (cdv:Value) (A:Around) (outer:List Env) (s:Shared) (H:Hp) (vs:List V) (Q:VK) (E:XK),eM k (A.deeper (envOfC qual (aF st) s.heap.objs.size f cdv))->sp vs H Q E ->
   ∃ t,Ag (zT cy P w K mg base N qual (aF st) f cdv A outer s H E).nox (iP st) t/\t { nx:=fun _ H'=>Q .non H',rt:=Q } (pB N vs) H):aT P w K mg base cy (k + 1) f fd ps sp:=by
 obtain ⟨oc,od,kV,doc,pm,an,cdv,ct,osl,rfl,lk,hcd⟩:=F.ex
 refine Ij lk hcd S len fun A outer s H vs Q E hr hsp=>?_
 obtain ⟨t,h,q⟩:=hbody cdv A outer s H vs Q E hr hsp
 exact ⟨t,h.nox,q⟩
theorem cM.binds {x qual:Str} {st:Stmt} {f:Addr} {fd:FuncData} {ps:List Str} (F:cM K x qual st f fd)
  (h:∀ (kV doc pm:Value) (an:Option Addr) (cdv ct:Value) (us:List Value),us.length=ps.length->bindArgs (PySem.W.fnOf x qual (jz st) (iP st) (aF st) .none kV doc pm an cdv ct) ⟨us,[]⟩=pure (ps.zip us)):Binds K fd ps []:=by
 obtain ⟨oc,od,kV,doc,pm,an,cdv,ct,osl,rfl,lk,hcd⟩:=F.ex
 exact .all (h kV doc pm an cdv ct)
theorem Gi {x qual:Str} {st:Stmt} {f:Addr} {oc:Value} {od an:Option Addr} {osl:Array (Option Value)} {kV doc pm cdv ct:Value} (l:K.lookup f=some ⟨oc,od,.func (PySem.W.fnOf x qual (jz st) (iP st) (aF st) .none kV doc pm an cdv ct),osl⟩)
  (c:PySem.W.codeIn K cdv qual=true) (k:PySem.W.keepIn K (.ref f)=true):cM K x qual st f (PySem.W.fnOf x qual (jz st) (iP st) (aF st) .none kV doc pm an cdv ct):=⟨⟨oc,od,kV,doc,pm,an,cdv,ct,osl,rfl,l,c⟩,k⟩
end
theorem bS {A:Around} {k:Nat} (hr:eM k A):A.units + 1 < cLine:=Nat.lt_of_le_of_lt (Nat.add_le_add_left (by decide:1<=64) _) hr.units
theorem aD {n:Nat} (h:n<=1000):n < sizeLine:=Nat.lt_of_le_of_lt h (by decide)
section
variable {X:Cx}
theorem pv (i:Nat) {x:Str} {pos:Pos} (hN:X.N[i]?=some x:=by rfl) (hv:Jp X.env.scope x:=by first | exact Or.inl rfl | exact Or.inr (Or.inl rfl) | exact Or.inr (Or.inr rfl)) (hd:(x == ("__debug__":Str))=false:=by decide)
  (hcd:(x == ("__classdict__":Str))=false:=by decide):PE X (.Name x pos) (zG i):=Gg hN hv hd hcd
end
theorem Jw {A B:Prop} (h:B):if false=true then A else B:=by
 rw [if_neg Bool.false_ne_true]
 exact h
theorem Fo {A B:Prop} (h:A):if true=true then A else B:=by
 rw [if_pos rfl]
 exact h
theorem dN {c A B:Prop} [Decidable c] (h1:c->A) (h2:¬ c->B):if c then A else B:=by
 by_cases h:c
 ·rw [if_pos h]
  exact h1 h
 ·rw [if_neg h]
  exact h2 h
def aE (H H':Hp):Prop:=∀ b o,H b=some o->H' b=some o
theorem aE.refl (H:Hp):aE H H:=fun _ _ h=>h
theorem aE.trans {H H1 H2:Hp} (a:aE H H1) (b:aE H1 H2):aE H H2:=fun c o h=>b c o (a c o h)
theorem aE.free {H H':Hp} (e:aE H H') {l:Addr} (h:H' l=Option.none):H l=Option.none:=by
 cases q:H l with
 | none=>rfl
 | some o =>
  rw [e l o q] at h
  cases h
theorem aE.seq {K:PySem.W.Frag} {H H':Hp} {a:Addr} {xs:List V} (e:aE H H') (h:bb K H a xs):bb K H' a xs:=by
 rcases h with (h | ⟨o,h⟩) | h
 ·exact .inl (.inl (e _ _ h))
 ·exact .inl (.inr ⟨o,e _ _ h⟩)
 ·exact .inr h
section
variable {κ:Type} [DecidableEq κ]
end
end L2
namespace GX
open PySem
theorem qG {α β:Type} {f:α->β->Sem (ForInStep β)} (g:α->β->β):∀ (l:List α) (b:β),(∀ x∈l,∀ b,f x b=pure (.yield (g x b))) ->
  forIn l b f=pure (l.foldl (fun b x=>g x b) b)
 | [],b,_=>rfl
 | x :: l,b,h=>by
  simp only [List.forIn_cons,h x (.head _),pure_bind]
  exact qG g l (g x b) fun y hy=>h y (List.mem_cons_of_mem _ hy)
def lZ (env:Env) (x:Str×NameKind) (cs:List (Str×Addr)):List (Str×Addr):=if x.2 == .free then (x.1,(env.cells.lookup x.1).getD 0) :: cs else cs
theorem yf {env:Env} {sc:Scope} (h:∀ y∈sc.names,y.2=.free->∃ c,env.cells.lookup y.1=some c) :
  closureFor sc env=pure (sc.names.foldl (fun b x=>lZ env x b) []):=by
 simp only [closureFor]
 rw [qG (lZ env) sc.names [] (fun x hx b=>by
  obtain ⟨n,k⟩:=x
  unfold lZ
  by_cases hk:k=.free
  ·subst hk
   obtain ⟨c,hc⟩:=h _ hx rfl
   have e:cellOf env n=pure c:=by unfold cellOf; rw [hc]
   simp [e,hc]
  ·have hb:(k == NameKind.free)=false:=by simpa using hk
   simp only [hb,Bool.false_eq_true,if_false])]
 rfl
theorem qY {env:Env}:∀ (l:List (Str×NameKind)) (acc:List (Str×Addr)),(∀ y∈l,y.2=.free->∃ c,env.cells.lookup y.1=some c)->(∀ p∈acc,env.cells.lookup p.1=some p.2) ->
  ∀ p∈l.foldl (fun b x=>lZ env x b) acc,env.cells.lookup p.1=some p.2
 | [],acc,_,ha=>ha
 | x :: l,acc,h,ha=>by
  refine qY l _ (fun y hy=>h y (List.mem_cons_of_mem _ hy)) fun p hp=>?_
  unfold lZ at hp
  dsimp only at hp
  by_cases hk:x.2=.free
  ·obtain ⟨c,hc⟩:=h x List.mem_cons_self hk
   rw [hk] at hp
   simp only [beq_self_eq_true,if_true] at hp
   rcases List.mem_cons.mp hp with rfl | hp
   ·rw [hc]; rfl
   ·exact ha p hp
  ·have hb:(x.2 == NameKind.free)=false:=by simpa using hk
   simp only [hb,Bool.false_eq_true,if_false] at hp
   exact ha p hp
theorem sv {env:Env} {n:Str}:∀ (l:List (Str×NameKind)) (acc:List (Str×Addr)),((∃ c,(n,c)∈acc)∨(n,NameKind.free)∈l)->∃ c,(n,c)∈l.foldl (fun b x=>lZ env x b) acc
 | [],acc,h=>by
  rcases h with h | h
  ·exact h
  ·cases h
 | x :: l,acc,h=>by
  refine sv l _ ?_
  unfold lZ
  dsimp only
  rcases h with ⟨c,h⟩ | h
  ·refine .inl ⟨c,?_⟩
   split
   ·exact List.mem_cons_of_mem _ h
   ·exact h
  ·rcases List.mem_cons.mp h with h | h
   ·refine .inl ?_
    subst h
    exact ⟨_,by rw [if_pos (by rfl)]; exact .head _⟩
   ·exact .inr h
theorem lM {n:Str} {c:Addr}:∀ {l:List (Str×Addr)},(n,c)∈l->∃ c',l.lookup n=some c'
 | [],h=>by cases h
 | (m,d) :: l,h=>by
  rw [List.lookup_cons]
  cases e:n == m with
  | true=>exact ⟨d,rfl⟩
  | false =>
   rcases List.mem_cons.mp h with h | h
   ·cases h
    simp at e
   ·exact lM h
theorem Co {n:Str} {c:Addr}:∀ {l:List (Str×Addr)},l.lookup n=some c->(n,c)∈l
 | [],h=>by cases h
 | (m,d) :: l,h=>by
  rw [List.lookup_cons] at h
  cases e:n == m with
  | true =>
   rw [e] at h
   have e':n=m:=by simpa using e
   have h':d=c:=Option.some.inj h
   rw [e',h']
   exact List.mem_cons_self
  | false =>
   rw [e] at h
   exact List.mem_cons_of_mem _ (Co h)
theorem mC {env:Env} {sc:Scope} (h:∀ y∈sc.names,y.2=.free->∃ c,env.cells.lookup y.1=some c) :
  ∃ cl,closureFor sc env=pure cl/\(∀ x c,cl.lookup x=some c->env.cells.lookup x=some c)/\(∀ n,(n,NameKind.free)∈sc.names->∃ c,cl.lookup n=some c):=by
 refine ⟨_,yf h,fun x c e=>?_,fun n hn=>?_⟩
 ·exact qY sc.names [] h (fun p hp=>by cases hp) (x,c) (Co e)
 ·obtain ⟨c,hc⟩:=sv (env:=env) sc.names [] (.inr hn)
  exact lM hc
theorem ff {env:Env} {x:Str} {names:List (Str×NameKind)} :
  (names.map fun (n,k)=>if (k == NameKind.free && env.scope.kind == .function && env.kindOf n == some .cell) then (n,NameKind.cell) else (n,k)).lookup x
  =(names.lookup x).map fun k=>if (k == NameKind.free && env.scope.kind == .function && env.kindOf x == some .cell) then NameKind.cell else k:=by
 induction names with
 | nil=>rfl
 | cons p r ih =>
  obtain ⟨n,k⟩:=p
  rw [List.map_cons]
  by_cases e:x=n
  ·subst e
   dsimp only
   split <;> simp_all
  ·have e':(x == n)=false:=by simpa using e
   dsimp only
   split <;> simp only [List.lookup_cons,e'] <;> exact ih
def uu (elt target:Expr) (ifs:List Expr) (it acc:Value) (env:Env):Sem Bool:=do
 match ← pyNext it with
 | none=>pure false
 | some v =>
  letOwnedTupleGo target it v
  assign target env v
  let ok ← forIn ifs true fun c r=>if r=true then do let ok ← isTrue c env (eval c env); pure (ForInStep.yield ok) else pure (ForInStep.yield r)
  if ok=true then do
   let x ← eval elt env
   let _ ← call (.builtin "list.append") [acc,x]
   pure true
  else pure true
theorem DM (elt target iter:Expr) (ifs:List Expr) (scope:Scope) (pos:Pos) (it acc:Value) (env:Env) :
  compTurn (.ListComp elt [⟨target,iter,ifs,0⟩] scope pos) 0 it acc env=(do
   standAt iter.pos
   let more ← uu elt target ifs it acc env
   if more=true then again (.compLoop (.ListComp elt [⟨target,iter,ifs,0⟩] scope pos) 0 it acc env) else pure (.done .next)):=by
 rw [compTurn_list,uu]
 simp only [bind_assoc]
 congr 1
 funext _
 congr 1
 funext r
 cases r with
 | none=>simp
 | some v =>
  simp only [bind_assoc]
  congr 1
  funext _
  congr 1
  funext _
  congr 1
  funext ok
  cases ok <;> simp
theorem o3 {prog:Program} {w:World} {A:Around} {R:Result->Shared->Prop} {s:Shared} {elt target iter:Expr} {ifs:List Expr} {scope:Scope} {pos:Pos} {it acc:Value} {env:Env} (I:Nat->Shared->Prop)
  (turn:∀ n s,I n s->wpAny (model prog w) A (uu elt target ifs it acc env) (fun more s'=>if more=true then ∃ m,m < n/\I m s' else R (.ok .next) s') (fun _ _=>False) s) (n:Nat) (h:I n s) :
  codeAny (model prog w) A (.compLoop (.ListComp elt [⟨target,iter,ifs,0⟩] scope pos) 0 it acc env) R s:=by
 apply codeAny_loop rfl I _ n h
 intro n s hI
 apply wpAny_noted
 rw [DM]
 change wpAny _ A _ _ _ _
 apply wpAny_bind
 apply wpAny_standAt
 apply wpAny_bind
 refine wpAny_mono (turn n s hI) (fun more s' q=>?_) fun _ _ z=>z.elim
 cases more
 ·exact wpAny_pure q
 ·exact wpAny_pure ⟨rfl,q⟩
end GX
namespace GX
open PySem PySem.Spec PyProof.Rows
abbrev Ju (a:Array Value) (c:Nat):Obj:={ cls:=.type "list",dict:=none,data:=.seq a c,slots:=#[] }
section
variable {prog:Program} {w:World}
theorem enter {id:String} {B:Builtin} {args:Args} {Sp:PySem.Spec} {A:Around} {R:Result->Shared->Prop} {s:Shared} (he:entryFor table id=some B) (hp:plainId id=true) (m:MeetsIn prog w (B args) Sp) (h:Sp A R s) :
  codeAny (model prog w) A (.builtin id args) R s:=codeAny_builtin he (by rw [Around.under_plainId hp]; exact m A R s h)
variable {A:Around} {key:Value} {op:CmpOp} {lp:String} {B:Builtin} {l I S:Addr} {vs:List Value} {bt:Nat->Nat->Bool} {G:List (Nat×Value)->Shared->Prop} {R:Result->Shared->Prop} {kw:List (Str×Value)}
abbrev Eh (h h':Heap):Prop:=∀ b o,h.get? b=some o->h'.get? b=some o
end
end GX
namespace GX
open PySem
theorem lJ {α β:Type} (f:α->Option β) (g:α->β):∀ (l:List α),(∀ x∈l,f x=some (g x))->l.filterMap f=l.map g
 | [],_=>rfl
 | x :: l,h=>by
  rw [List.filterMap_cons,h x List.mem_cons_self,List.map_cons]
  exact congrArg _ (lJ f g l fun y hy=>h y (List.mem_cons_of_mem _ hy))
theorem BL (its:List Value):slicePick its.toArray none none (some (-1))=its.reverse.toArray:=by
 unfold slicePick
 have e:sliceBounds none none (some (-1)) its.toArray.size=((its.length:Int) - 1,-1,-1):=by
  unfold sliceBounds
  simp
 rw [e]
 have r:sliceRange ((its.length:Int) - 1) (-1) (-1)=(List.range its.length).map fun k=>its.length - 1 - k:=by
  unfold sliceRange
  by_cases z:its.length=0
  ·rw [z]; rfl
  ·have c:(if ((-1:Int) > 0) then (if (its.length:Int) - 1 < -1 then (-1 - ((its.length:Int) - 1) + -1 - 1) / -1 else 0) else (if (its.length:Int) - 1 > -1 then ((its.length:Int) - 1 - -1 - -1 - 1) / (- -1) else 0))=(its.length:Int):=by
    rw [if_neg (by decide),if_pos (by omega)]
    have:(- -1:Int)=1:=by decide
    rw [this,Int.ediv_one]
    omega
   simp only [c,Int.toNat_natCast]
   apply List.map_congr_left
   intro k hk
   have:=List.mem_range.mp hk
   omega
 rw [r]
 congr 1
 rw [lJ _ (fun j=>its.getD j .none) _ (fun j hj=>?_)]
 ·apply List.ext_getElem?
  intro i
  rw [List.getElem?_map,List.getElem?_map]
  by_cases hi:i < its.length
  ·rw [List.getElem?_eq_getElem (by rw [List.length_range]; exact hi),List.getElem_range,List.getElem?_reverse hi]
   show some (its.getD (its.length - 1 - i) .none)=_
   rw [List.getD_eq_getElem?_getD,List.getElem?_eq_getElem (by omega)]
   rfl
  ·rw [List.getElem?_eq_none (by rw [List.length_range]; omega),List.getElem?_eq_none (by rw [List.length_reverse]; omega)]
   rfl
 ·obtain ⟨k,hk,e⟩:=List.mem_map.mp hj
  have hk:=List.mem_range.mp hk
  have hl:j < its.length:=by omega
  rw [List.getD_eq_getElem?_getD]
  simp [hl]
end GX
namespace GB
theorem yM (n h:Nat):(n &&& 2 ^ h=0)↔n.testBit h=false:=by
 constructor
 ·intro e
  have q:(n &&& 2 ^ h).testBit h=false:=by rw [e]; exact Nat.zero_testBit h
  rw [Nat.testBit_and,Nat.testBit_two_pow_self,Bool.and_true] at q
  exact q
 ·intro e
  apply Nat.eq_of_testBit_eq
  intro i
  rw [Nat.testBit_and,Nat.zero_testBit,Nat.testBit_two_pow]
  by_cases hi:h=i
  ·subst hi; rw [e]; rfl
  ·rw [decide_eq_false hi,Bool.and_false]
end GB
namespace GB
end GB
namespace L2
open PySem PySem.Spec PyProof.Rows
def Ek (N:List Str) (sc:Scope) (x:Str):Option Nat->Bool
 | none=>true
 | some j=>decide (N[j]?=some x) && decide (sc.names.lookup x=some .free)
def Bl (N N':List Str) (src:List (Option Nat)) (esc sc:Scope):Prop :=
 (∀ y∈sc.names,y.2≠.cell)/\(∀ y∈sc.names,y.2=.local->sc.names.lookup y.1=some .local) /\
 (∀ y∈sc.names,y.2=.free->esc.names.lookup y.1=some .cell∨esc.names.lookup y.1=some .free) /\
 N'.Nodup/\src.length=N'.length/\∀ p∈N'.zip src,Ek N sc p.1 p.2=true
instance (N N':List Str) (src:List (Option Nat)) (esc sc:Scope):Decidable (Bl N N' src esc sc):=by unfold Bl; infer_instance
def pb (src:List (Option Nat)) (σ:St):St:=src.map fun o=>o.bind fun j=>(σ[j]?).bind fun v=>v
def Cx.blk (X:Cx) (N':List Str) (sc:Scope) (cl:List (Str×Addr)) (C:Addr) (s2:Shared) (H2:Hp) (fp:List Addr):Cx :=
 { X with N:=N',s₀:=s2,H₀:=H2,env:=compEnvC sc cl C X.env,outer:=X.stack,ex:=fp,fn:=fun _=>false,pn:=[],xe:=fun _ _=>False }
def ER (X:Cx) (ifs:List Expr) (t:TT):Prop :=
 ∀ (pins:List (Addr×Obj)) (s:Shared) (σ:St) (H:Hp) (Q:Bool->Hp->Prop),aV X pins σ H s->t σ H Q ->
  wpAny (model X.prog X.w) X.A (forIn ifs true fun c r=>if r=true then do let ok ← isTrue c X.env (eval c X.env); pure (ForInStep.yield ok) else pure (ForInStep.yield r)) (TP X pins σ Q) X.xe s
def Fg:TT:=fun _ H Q=>Q true H
theorem kU {X:Cx}:ER X [] Fg:=fun _ _ _ H _ I h=>wpAny_tests_nil ⟨H,I,h⟩
theorem iO {X:Cx} {c:Expr} {t:TT} (h:PT X c t):ER X [c] t:=fun pins s σ H Q I hw=>wpAny_tests_one (h pins s σ H Q I hw)
theorem Un.but {fs ex:List Addr} {H H':Hp} {h h1 h2:Heap} {C:Addr} (u:Un fs ex H H' h h1) (sb:Heap.SameBut C h1 h2) (hC:h.get? C=none):Un fs ex H H' h h2 :=
 have ne:∀ b o,h.get? b=some o->b≠C:=fun b o e z=>by rw [z,hC] at e; cases e
 ⟨fun b o e n hb hx=>(sb.2 b (ne b o e)).trans (u.keep b o e n hb hx),fun b o e n hb hx=>let ⟨sl,z⟩:=u.slot b o e n hb hx; ⟨sl,(sb.2 b (ne b o e)).trans z⟩,u.free,
  fun b o e hx=>let ⟨o',z⟩:=u.there b o e hx; ⟨o',(sb.2 b (ne b o e)).trans z⟩,u.tups,u.frzs,u.tbls⟩
theorem k7.but {P:Program} {w:World} {H:Hp} {h h':Heap} {C:Addr} (x:k7 P w H h) (sb:Heap.SameBut C h h') (hC:H C=none):k7 P w H h':=fun b ob e=>by
 refine (x b ob e).stay (fun c v hc q=>(sb.2 c ?_).trans q) (fun _ q=>q) fun _ _ q=>q
 rintro rfl
 rcases hc with rfl | hc
 ·rw [hC] at e; cases e
 ·rw [hC] at hc; cases hc
def jc (g:TG) (tt:TT) (te:TE) (D:Addr) (N:St->Hp->Prop) (x:V) (σ:St) (H:Hp):Prop :=
 g x σ H fun σ2 H2=>tt σ2 H2 fun b H3=>if b=true then te σ2 H3 fun y H4=>∃ ys,H4 D=some (.lst ys)/\ys.length < sizeLine/\N σ2 (upd H4 D (.lst (ys ++ [y]))) else N σ2 H3
def yR (src:List (Option Nat)) (wi:TI) (g:TG) (tt:TT) (te:TE):TE:=fun σ H Q=>wi σ H fun J H1=>∀ D,H1 D=none->∃ W:Nat->Nat->St->Hp->Prop,(∃ m,W 0 m (pb src σ) (upd H1 D (.lst []))) /\
 ∀ i m σ' H',W i m σ' H'->(J.stop i H'/\Q (.ref D) H')∨(J.go i H'/\∃ N:St->Hp->Prop,(∀ σ2 H2,N σ2 H2->∃ m',m' < m/\W (i + 1) m' σ2 H2) /\
  ∀ x H'',J.yld i H' x H''->jc g tt te D N x σ' H'')
theorem tS {X:Cx} {elt tg iter:Expr} {ifs:List Expr} {sc:Scope} {pos:Pos} {g:TG} {tt:TT} {te:TE} {N':List Str} {src:List (Option Nat)} {cl:List (Str×Addr)} {pins:List (Addr×Obj)} {σ:St} {H2:Hp} {s2:Shared} {it:Addr} {fp:List Addr}
  {tn:Nat->Heap->Prop} {J:It} {W:Nat->Nat->St->Hp->Prop} {m0:Nat} {Qe:Hp->Prop} {RR:Value->Addr->Result->Shared->Prop}
  (hc:X.calm=true) (hk:sc.kind=.function) (hB:Bl X.N N' src X.env.scope sc) (hsub:∀ x c,cl.lookup x=some c->X.env.cells.lookup x=some c) (hhas:∀ n,(n,NameKind.free)∈sc.names->∃ c,cl.lookup n=some c)
  (hg:∀ cl C s2 H2 fp,N'.Nodup->PG (X.blk N' sc cl C s2 H2 fp) tg g)
  (ht:∀ cl C s2 H2 fp,ER (X.blk N' sc cl C s2 H2 fp) ifs tt)
  (he:∀ cl C s2 H2 fp,PE (X.blk N' sc cl C s2 H2 fp) elt te)
  (I2:aV X pins σ H2 s2) (T:yr X.prog X.w X.K tg J fp it tn) (st2:tn 0 s2.heap) (f2:∀ b∈fp,pS X pins H2 b)
  (w0:W 0 m0 (pb src σ) (upd H2 s2.heap.objs.size (.lst [])))
  (turn:∀ i m σ' H',W i m σ' H'->(J.stop i H'/\Qe H')∨(J.go i H'/\∃ N:St->Hp->Prop,(∀ σ2 H2,N σ2 H2->∃ m',m' < m/\W (i + 1) m' σ2 H2) /\
   ∀ x H'',J.yld i H' x H''->jc g tt te s2.heap.objs.size N x σ' H''))
  (fin:∀ C s4 σ3 H3,s2.heap.objs.size<=C->aV (X.blk N' sc cl C s2 H2 fp) [] σ3 H3 s4->Qe H3->RR (.ref s2.heap.objs.size) C (.ok .next) s4) :
  wpAny (model X.prog X.w) X.A (newList []) (fun acc s₃=>wpAny (model X.prog X.w) X.A (newFunctionEnv sc X.env.globals cl [] X.env.qual none .none (some X.env)) (fun cenv s₄ =>
   codeAny (model X.prog X.w) X.A (.compStart (.ListComp elt [⟨tg,iter,ifs,0⟩] sc pos) 0 (.ref it) acc { cenv with scope:=relabel sc X.env }) (RR acc cenv.locals) s₄) X.xe s₃) X.xe s2:=by
 obtain ⟨b1,b2,b3,b4,b5,b6⟩:=hB
 refine wpAny_newObj_type (wpAny_newFunctionEnv b1 (by intro y hy; simp at hy) (fun h₁ ns₁ sb₁=>?_) hk)
 dsimp only at ns₁ sb₁ ⊢
 generalize hP:s2.heap.push { cls:=.type "list",dict:=none,data:=.seq ([]:List Value).toArray }=Hl at ns₁ sb₁ ⊢
 have hC:Hl.objs.size=s2.heap.objs.size + 1:=by rw [← hP,Heap.size_push]
 have nDC:s2.heap.objs.size≠Hl.objs.size:=by rw [hC]; exact Nat.ne_of_lt (Nat.lt_succ_self _)
 have below:∀ {b:Addr} {o:Obj},s2.heap.get? b=some o->b≠Hl.objs.size:=fun {b o} z=>by
  have:=Heap.lt_size z
  rw [hC]
  exact Nat.ne_of_lt (Nat.lt_succ_of_lt this)
 have old:∀ b o,s2.heap.get? b=some o->h₁.get? b=some o:=fun b o z=>sb₁.extBut b o (below z) (Heap.get?_push_of_some _ (hP ▸ Heap.get?_push_of_some _ z))
 have hD1:h₁.get? s2.heap.objs.size=some { cls:=.type "list",data:=.seq ([]:List Value).toArray }:=sb₁.extBut _ _ nDC (Heap.get?_push_of_some _ (hP ▸ Heap.get?_push_size _ rfl))
 have fD:H2 s2.heap.objs.size=none:=I2.hok.fresh (Nat.le_refl _)
 have fC:H2 Hl.objs.size=none:=I2.hok.fresh (by rw [hC]; exact Nat.le_succ _)
 have ok:(X.blk N' sc cl Hl.objs.size s2 H2 fp).Ok:=by
  refine ⟨I2.ok.mod,hk,I2.ok.glob,I2.ok.blt,?_,fun x y c h1 h2=>I2.ok.inj x y c (hsub x c h1) (hsub y c h2),fun x hx=>?_,fun x c z=>?_,I2.ok.hd,I2.ok.frames,.inl rfl,fun b hb=>⟨?_,fun x c z=>(f2 b hb).2.2.2.2.1 x c (hsub x c z)⟩,
   I2.bs,Nat.le_trans I2.ok.bsz I2.sz,fun b o z hb=>?_,fun b hb z=>?_,I2.stack,I2.stkFree⟩
  ·show s2.heap.objs.size<=Hl.objs.size
   rw [hC]; exact Nat.le_succ _
  ·have hx':(sc.names.map fun (n,k)=>if (k == NameKind.free && X.env.scope.kind == .function && X.env.kindOf n == some .cell) then (n,NameKind.cell) else (n,k)).lookup x=some .cell ∨
     (sc.names.map fun (n,k)=>if (k == NameKind.free && X.env.scope.kind == .function && X.env.kindOf n == some .cell) then (n,NameKind.cell) else (n,k)).lookup x=some .free:=hx
   rw [GX.ff] at hx'
   cases e:sc.names.lookup x with
   | none =>
    rw [e] at hx'
    simp at hx'
   | some k =>
    rw [e] at hx'
    by_cases hf:k=.free
    ·subst hf
     exact hhas x (PySem.mem_of_lookup e)
    ·have hb:(k == NameKind.free)=false:=by simpa using hf
     have e2:((some k).map fun k=>if (k == NameKind.free && X.env.scope.kind == .function && X.env.kindOf x == some .cell) then NameKind.cell else k)=some k:=by
      show some (if (k == NameKind.free && X.env.scope.kind == .function && X.env.kindOf x == some .cell)=true then NameKind.cell else k)=some k
      rw [hb,Bool.false_and,Bool.false_and]
      rfl
     rw [e2] at hx'
     rcases hx' with z | z
     ·exact absurd (Option.some.inj z) (b1 _ (PySem.mem_of_lookup e))
     ·exact absurd (Option.some.inj z) hf
  ·cases z
  ·obtain ⟨o,z,_⟩:=T.obj 0 _ st2 b hb
   exact below z
  ·rcases (f2 b hb).2.2.2.1 with f3 | f3
   ·exact I2.ok.noex b o z f3
   ·have l1:=Heap.lt_size z
    have l2:=I2.ok.bsz
    exact absurd (Nat.lt_of_lt_of_le l1 (Nat.le_trans l2 f3)) (Nat.lt_irrefl _)
  ·rcases List.mem_cons.mp (I2.stkSub b z) with z | z
   ·exact (f2 b hb).2.1 z
   ·exact (f2 b hb).2.2.1 z
 have IY:aV (X.blk N' sc cl Hl.objs.size s2 H2 fp) [] (pb src σ) (upd H2 s2.heap.objs.size (.lst [])) { s2 with heap:=h₁,toks:=s2.toks + ([]:List (Str×Value)).length }:=by
  refine ⟨ok,rfl,I2.bare,Un.laid old (Nat.le_refl _) fD,⟨_,ns₁,fun i x v e1 e2 _=>?_⟩,fun x c z=>?_,?_,fun x c z=>?_,fun p hp=>?_,I2.hok.laid old (Nat.le_refl _) ⟨Nat.zero_le _,[],0,.nil,hD1⟩,?_⟩
  ·have e1':N'[i]?=some x:=e1
   unfold pb at e2
   rw [List.getElem?_map] at e2
   cases es:src[i]? with
   | none=>rw [es] at e2; cases e2
   | some o =>
    rw [es] at e2
    cases o with
    | none=>cases e2
    | some j =>
     have e3:(σ[j]?).bind (fun v=>v)=some v:=Option.some.inj e2
     have e4:σ[j]?=some (some v):=by
      cases q:σ[j]? with
      | none=>rw [q] at e3; cases e3
      | some w=>rw [q] at e3; exact congrArg some e3
     have hz:(x,some j)∈N'.zip src:=List.mem_of_getElem? (i:=i) (by rw [List.getElem?_zip_eq_some]; exact ⟨e1',es⟩)
     have hcap:=b6 _ hz
     have hcap':(decide (X.N[j]?=some x) && decide (sc.names.lookup x=some .free))=true:=hcap
     rw [Bool.and_eq_true] at hcap'
     have c1:X.N[j]?=some x:=of_decide_eq_true hcap'.1
     have c2:sc.names.lookup x=some .free:=of_decide_eq_true hcap'.2
     have hfree:=PySem.mem_of_lookup c2
     have vis:=b3 _ hfree rfl
     obtain ⟨m,hn,hl⟩:=I2.loc
     obtain ⟨u,ru,lk⟩:=hl j x v c1 e4 (.inr vis)
     rcases lk with ⟨k1,_⟩ | ⟨_,c,k2,z⟩
     ·have k1':X.env.scope.names.lookup x=some .local:=k1
      rcases vis with v | v <;> (rw [k1'] at v; cases v)
     ·obtain ⟨c',k3⟩:=hhas x hfree
      have k4:=hsub x c' k3
      rw [k2] at k4
      cases k4
      refine ⟨u,ru,.inr ⟨?_,c,k3,z.keeps old⟩⟩
      show (sc.names.map fun (n,k)=>if (k == NameKind.free && X.env.scope.kind == .function && X.env.kindOf n == some .cell) then (n,NameKind.cell) else (n,k)).lookup x=some .cell ∨
       (sc.names.map fun (n,k)=>if (k == NameKind.free && X.env.scope.kind == .function && X.env.kindOf n == some .cell) then (n,NameKind.cell) else (n,k)).lookup x=some .free
      rw [GX.ff,c2]
      show some (if _ then NameKind.cell else NameKind.free)=_∨some (if _ then NameKind.cell else NameKind.free)=_
      split
      ·exact .inl rfl
      ·exact .inr rfl
  ·obtain ⟨v,q⟩:=I2.cell x c (hsub x c z)
   exact ⟨v,q.keeps old⟩
  ·show upd H2 s2.heap.objs.size (.lst []) Hl.objs.size=none
   rw [aG (Ne.symm nDC)]
   exact fC
  ·obtain ⟨v,q⟩:=I2.cell x c (hsub x c z)
   rw [aG (Nat.ne_of_lt q.lt)]
   exact I2.freeC x c (hsub x c z)
  ·exact absurd (show p∈([]:List (Addr×Obj)) from hp) (by simp)
  ·show (src.map _).length=N'.length
   rw [List.length_map]
   exact b5
 have stat:∀ {H':Hp},(∀ b∈fp,H' b=none)->∀ b∈fp,pS (X.blk N' sc cl Hl.objs.size s2 H2 fp) [] H' b:=fun hn b hb =>
  ⟨hn b hb,(ok.exf b hb).1,ok.exfs b hb,.inl hb,(ok.exf b hb).2,fun p hp=>absurd (show p∈([]:List (Addr×Obj)) from hp) (by simp)⟩
 have loop:codeAny (model X.prog X.w) X.A (.compLoop (.ListComp elt [⟨tg,iter,ifs,0⟩] sc pos) 0 (.ref it) (.ref s2.heap.objs.size) (compEnvC sc cl Hl.objs.size X.env))
   (RR (.ref s2.heap.objs.size) Hl.objs.size) { s2 with heap:=h₁,toks:=s2.toks + ([]:List (Str×Value)).length }:=by
  refine GX.o3 (fun n s'=>∃ i σ' H',aV (X.blk N' sc cl Hl.objs.size s2 H2 fp) [] σ' H' s'/\tn i s'.heap/\(∀ b∈fp,H' b=none)/\W i n σ' H') ?_ m0
   ⟨0,_,_,IY,T.keep 0 _ _ st2 (fun b _ o z=>old b o z),fun b hb=>?_,w0⟩
  ·rintro n s3 ⟨i,σ3,H3,I3,st3,fr3,w3⟩
   rcases turn i n σ3 H3 w3 with ⟨stop,qn⟩ | ⟨go,N,hN,step⟩
   ·refine wpAny_bind (cE (T.done (X.blk N' sc cl Hl.objs.size s2 H2 fp) rfl rfl rfl hc i [] s3 σ3 H3 (fun _ _=>False) I3 (stat fr3) st3 stop) fun r s4 ⟨hr,I4⟩=>?_)
    subst hr
    exact wpAny_pure <| fin _ s4 σ3 H3 (by rw [hC]; exact Nat.le_succ _) I4 qn
   ·refine wpAny_bind (cE (T.item (X.blk N' sc cl Hl.objs.size s2 H2 fp) rfl rfl rfl hc i [] s3 σ3 H3 (fun _ _=>False) I3 (stat fr3) st3 go) fun r s4 ⟨u,hr,h4⟩=>?_)
    subst hr
    refine wpAny_bind (cE h4 fun _ s5 ⟨x,H5,I5,r5,y5,st5,fr5⟩=>?_)
    have I5':=I5.pinned (stat fr5) (T.obj _ _ st5)
    have again:∀ {σ7:St} {H7:Hp} {s7:Shared},aV (X.blk N' sc cl Hl.objs.size s2 H2 fp) ([] ++ om fp s5.heap) σ7 H7 s7->N σ7 H7 ->
      ∃ m,m < n/\∃ i σ' H',aV (X.blk N' sc cl Hl.objs.size s2 H2 fp) [] σ' H' s7/\tn i s7.heap/\(∀ b∈fp,H' b=none)/\W i m σ' H':=fun {σ7 H7 s7} I7 n7=>by
     obtain ⟨m',hm,w7⟩:=hN σ7 H7 n7
     refine ⟨m',hm,i + 1,σ7,H7,I7.unpinned,T.keep _ _ _ st5 fun b hb o z=>(I7.pin (b,o) (List.mem_append_right _ (List.mem_append_right _ (fH hb z)))).1,fun b hb=>?_,w7⟩
     obtain ⟨o,z,_⟩:=T.obj _ _ st5 b hb
     exact (I7.pin (b,o) (List.mem_append_right _ (List.mem_append_right _ (fH hb z)))).2.1
    refine wpAny_bind (cE (hg cl Hl.objs.size s2 H2 fp b4 _ s5 σ3 H5 x u _ I5' r5 (step x H5 y5)) fun _ s6 ⟨σ6,H6,I6,q6⟩=>?_)
    refine wpAny_bind (cE (ht cl Hl.objs.size s2 H2 fp _ s6 σ6 H6 _ I6 q6) fun ok s7 ⟨H7,I7,q7⟩=>?_)
    cases ok with
    | true =>
     rw [if_pos rfl] at q7 ⊢
     refine wpAny_bind (cE (he cl Hl.objs.size s2 H2 fp _ s7 σ6 H7 _ I7 q7) fun yv s8 ⟨y,H8,I8,r8,ys,hD,hz,n8⟩=>?_)
     exact wpAny_bind <| cE (cu (X:=X.blk N' sc cl Hl.objs.size s2 H2 fp) _ s8 σ6 H8 (.ref s2.heap.objs.size) [y] (.ref s2.heap.objs.size) [yv] (fun _ H'=>N σ6 H') I8 rfl (.cons r8 .nil) ⟨_,ys,y,rfl,rfl,hD,hz,n8⟩)
      fun _ s9 ⟨_,H9,I9,_,n9⟩=>wpAny_pure (again I9 n9)
    | false =>
     rw [if_neg Bool.false_ne_true] at q7 ⊢
     exact wpAny_pure (again I7 q7)
  ·obtain ⟨o,z,_⟩:=T.obj 0 _ st2 b hb
   rw [aG (Nat.ne_of_lt (Heap.lt_size z))]
   exact (f2 b hb).1
 exact codeAny_compStart_list loop (T.self X.A 0 _ _ _ (T.keep 0 _ _ st2 (fun b _ o z=>old b o z)) loop)
theorem gX {X:Cx} {elt tg iter:Expr} {ifs:List Expr} {sc:Scope} {pos:Pos} {wi:TI} {g:TG} {tt:TT} {te:TE} (N':List Str) (src:List (Option Nat))
  (hc:X.calm=true) (hk:sc.kind=.function) (hB:decide (Bl X.N N' src X.env.scope sc)=true) (hi:PI X tg iter wi)
  (hg:∀ cl C s2 H2 fp,N'.Nodup->PG (X.blk N' sc cl C s2 H2 fp) tg g)
  (ht:∀ cl C s2 H2 fp,ER (X.blk N' sc cl C s2 H2 fp) ifs tt)
  (he:∀ cl C s2 H2 fp,PE (X.blk N' sc cl C s2 H2 fp) elt te)
  (hs:∀ x,foldedSetIterable iter X.env x=pure x:=by intro _; rfl) :
  PE X (.ListComp elt [⟨tg,iter,ifs,0⟩] sc pos) (yR src wi g tt te):=by
 intro pins s σ H Q I h
 have B:=of_decide_eq_true hB
 obtain ⟨cl,hclos,hsub,hhas⟩:=GX.mC (env:=X.env) (sc:=sc) fun y hy hf=>I.ok.has y.1 (B.2.2.1 y hy hf)
 rw [eval_ListComp]
 refine wpAny_comprehension_free (use:=none) rfl hs hclos hk B.2.1 (cE (hi pins s σ H _ I h) fun v s1 h1=>cE h1 fun itv s2 h2=>?_)
 obtain ⟨it,fp,tn,J,H2,e,I2,T,st2,f2,q⟩:=h2
 subst e
 obtain ⟨W,⟨m0,w0⟩,turn⟩:=q s2.heap.objs.size (I2.hok.fresh (Nat.le_refl _))
 refine tS (RR:=fun acc C=>compPost (model X.prog X.w) X.A X.xe none (EP X pins σ Q) acc C) (Qe:=fun H'=>Q (.ref s2.heap.objs.size) H') hc hk B hsub hhas hg ht he I2 T st2 f2 w0 turn fun C s4 σ3 H3 hC I4 qn=>?_
 obtain ⟨m,hn,_⟩:=I4.loc
 refine ⟨m,hn,fun h' sb=>⟨.ref s2.heap.objs.size,H3,?_,rfl,qn⟩⟩
 exact I2.call' (s':={ s4 with heap:=h' }) (ch:=fp) I4.os (I4.base.but sb (Heap.get?_none_of_le hC)) (I4.hok.but sb I4.free) I4.bare fun b hb=>⟨(f2 b hb).2.2.2.1,(f2 b hb).2.1,(f2 b hb).2.2.2.2.1,(f2 b hb).2.2.2.2.2⟩
theorem qu {X:Cx} {elt tg iter:Expr} {ifs:List Expr} {sc:Scope} {pos py spos:Pos} {y:Str} {i:Nat} {wi:TI} {g:TG} {tt:TT} {te:TE} (N':List Str) (src:List (Option Nat))
  (hN:X.N.Nodup) (hy:X.N[i]?=some y) (hl:GO X.env.scope y) (hc:X.calm=true) (hk:sc.kind=.function) (hB:decide (Bl X.N N' src X.env.scope sc)=true) (hi:PI X tg iter wi)
  (hg:∀ cl C s2 H2 fp,N'.Nodup->PG (X.blk N' sc cl C s2 H2 fp) tg g)
  (ht:∀ cl C s2 H2 fp,ER (X.blk N' sc cl C s2 H2 fp) ifs tt)
  (he:∀ cl C s2 H2 fp,PE (X.blk N' sc cl C s2 H2 fp) elt te)
  (hsw:swapsWith (.ListComp elt [⟨tg,iter,ifs,0⟩] sc pos) (some (.Name y py)) spos.line X.env=pure true:=by rfl)
  (hs:∀ x,foldedSetIterable iter X.env x=pure x:=by intro _; rfl) (hf:X.fn y=true∨X.env.scope.names.lookup y=some .local:=by first | exact .inl rfl | exact .inr rfl) :
  PS X (.Assign [.Name y py] (.ListComp elt [⟨tg,iter,ifs,0⟩] sc pos) spos) (zw (yR src wi g tt te) (pf i)):=by
 intro pins s σ H D I h
 have B:=of_decide_eq_true hB
 obtain ⟨cl,hclos,hsub,hhas⟩:=GX.mC (env:=X.env) (sc:=sc) fun y hy hf=>I.ok.has y.1 (B.2.2.1 y hy hf)
 rw [exec_Assign_Name_used _ _ _ _ hsw]
 refine wpAny_bind (wpAny_standAt (wpAny_bind ?_))
 show wpAny _ X.A (do let _ ← comprehension (.ListComp elt [⟨tg,iter,ifs,0⟩] sc pos) sc X.env _ (newList []) false (eval iter X.env) (some (assign (.Name y py) X.env))) _ _ s
 refine wpAny_bind (wpAny_mono (wpAny_comprehension_free (use:=some (assign (.Name y py) X.env)) (Q:=fun _ s'=>SP X pins D .next s') rfl hs hclos hk B.2.1
  (cE (hi pins s σ H _ I h) fun v s1 h1=>cE h1 fun itv s2 h2=>?_)) (fun _ s' hq=>wpAny_pure (wpAny_pure hq)) fun _ _ e=>e)
 obtain ⟨it,fp,tn,J,H2,e,I2,T,st2,f2,q⟩:=h2
 subst e
 obtain ⟨W,⟨m0,w0⟩,turn⟩:=q s2.heap.objs.size (I2.hok.fresh (Nat.le_refl _))
 refine tS (RR:=fun acc C=>compPost (model X.prog X.w) X.A X.xe (some (assign (.Name y py) X.env)) (fun _ s'=>SP X pins D .next s') acc C) (Qe:=fun H'=>D.nx (σ.set i (some (.ref s2.heap.objs.size))) H') hc hk B hsub hhas hg ht he I2 T st2 f2 w0 turn
  fun C s4 σ3 H3 hC I4 qn=>?_
 have IX:aV X pins σ H3 s4:=I2.call' (ch:=fp) I4.os I4.base I4.hok I4.bare fun b hb=>⟨(f2 b hb).2.2.2.1,(f2 b hb).2.1,(f2 b hb).2.2.2.2.1,(f2 b hb).2.2.2.2.2⟩
 have nC:∀ {b:Addr} {o:Obj},s2.heap.get? b=some o->C≠b:=fun {b o} z=>Nat.ne_of_gt (Nat.lt_of_lt_of_le (Heap.lt_size z) hC)
 have nL:C≠X.env.locals:=Nat.ne_of_gt (Nat.lt_of_lt_of_le I2.lt hC)
 have nK:∀ x c,X.env.cells.lookup x=some c->c≠C:=fun x c z=>by
  obtain ⟨v,o,ho,_⟩:=I2.cell x c z
  exact Ne.symm (nC ho)
 obtain ⟨m,hn,_⟩:=I4.loc
 show wpAny _ X.A (assign (.Name y py) X.env (.ref s2.heap.objs.size)) _ _ s4
 refine wpAny_assign_Name (oq IX hN hy hl (v:=.ref s2.heap.objs.size) rfl (fun s5 I5 h5=>?_) hf)
 obtain ⟨a,sb,ha⟩:=h5
 have na:C≠a:=by
  rcases ha with z | z
  ·rw [z]; exact nL
  ·exact Ne.symm (nK _ _ z)
 refine ⟨m,hn.sameBut sb na,fun h' sb'=>⟨_,H3,?_,qn⟩⟩
 exact I5.turned (it:=C) (t':=s5.toks) (fun b o hb z=>(sb'.2 b hb).trans z) I4.free nL (.inr (Nat.le_trans I2.sz hC)) nK fun p hp=>Ne.symm (nC (I2.pin p hp).1)
theorem F4 {i:Nat} {te:TE} {D:Addr} {N:St->Hp->Prop} {x:V} {σ:St} {H:Hp} (h:te (σ.set i (some x)) H fun y H4=>∃ ys,H4 D=some (.lst ys)/\ys.length < sizeLine/\N (σ.set i (some x)) (upd H4 D (.lst (ys ++ [y])))):jc (pf i) Fg te D N x σ H:=by
 show (if true=true then te (σ.set i (some x)) H (fun y H4=>∃ ys,H4 D=some (.lst ys)/\ys.length < sizeLine/\N (σ.set i (some x)) (upd H4 D (.lst (ys ++ [y])))) else N (σ.set i (some x)) H)
 rw [if_pos rfl]
 exact h
theorem mG {lo:Int} {n:Nat} {g:TG} {tt:TT} {te:TE} {σ:St} {H:Hp} {D:Addr} {Qe:Hp->Prop} (Pv:Nat->St->Hp->Prop) (h0:Pv 0 σ H)
  (hs:∀ i σ H,i < n->Pv i σ H->jc g tt te D (Pv (i + 1)) (.int (lo + i)) σ H) (hd:∀ σ H,Pv n σ H->Qe H) :
  ∃ W:Nat->Nat->St->Hp->Prop,(∃ m,W 0 m σ H)/\∀ i m σ' H',W i m σ' H'->((Cr lo n).stop i H'/\Qe H')∨((Cr lo n).go i H'/\∃ N:St->Hp->Prop,(∀ σ2 H2,N σ2 H2->∃ m',m' < m/\W (i + 1) m' σ2 H2) /\
   ∀ x H'',(Cr lo n).yld i H' x H''->jc g tt te D N x σ' H''):=by
 refine ⟨fun i m σ H=>m=n - i/\i<=n/\Pv i σ H,⟨n,by simp,Nat.zero_le _,h0⟩,?_⟩
 rintro i m σ H ⟨rfl,hi,p⟩
 by_cases hlt:i < n
 ·refine .inr ⟨hlt,Pv (i + 1),fun σ' H' p'=>⟨n - (i + 1),by omega,rfl,hlt,p'⟩,fun x H' y=>?_⟩
  obtain ⟨e,y⟩:=y
  subst e y
  exact hs i σ _ hlt p
 ·have e:i=n:=by omega
  subst e
  exact .inl ⟨Nat.le_refl _,hd σ H p⟩
theorem dH {K:PySem.W.Frag} {a:Addr} {xs:List V} {g:TG} {tt:TT} {te:TE} {σ:St} {H:Hp} {D:Addr} {Qe:Hp->Prop} (Pv:Nat->St->Hp->Prop) (h0:Pv 0 σ H) (hl:∀ i σ H,i<=xs.length->Pv i σ H->bb K H a xs)
  (hs:∀ i x σ H,xs[i]?=some x->Pv i σ H->jc g tt te D (Pv (i + 1)) x σ H) (hd:∀ σ H,Pv xs.length σ H->Qe H) :
  ∃ W:Nat->Nat->St->Hp->Prop,(∃ m,W 0 m σ H)/\∀ i m σ' H',W i m σ' H'->((Cv K a).stop i H'/\Qe H')∨((Cv K a).go i H'/\∃ N:St->Hp->Prop,(∀ σ2 H2,N σ2 H2->∃ m',m' < m/\W (i + 1) m' σ2 H2) /\
   ∀ x H'',(Cv K a).yld i H' x H''->jc g tt te D N x σ' H''):=by
 refine ⟨fun i m σ H=>m=xs.length - i/\i<=xs.length/\Pv i σ H,⟨xs.length,by simp,Nat.zero_le _,h0⟩,?_⟩
 rintro i m σ H ⟨rfl,hi,p⟩
 have q:=hl i σ H hi p
 by_cases hlt:i < xs.length
 ·refine .inr ⟨⟨xs,xs[i],q,by simp [hlt]⟩,Pv (i + 1),fun σ' H' p'=>⟨xs.length - (i + 1),by omega,rfl,hlt,p'⟩,fun x H' y=>?_⟩
  obtain ⟨e,y⟩:=y
  subst e
  exact hs i x σ _ (y xs q) p
 ·have e:i=xs.length:=by omega
  subst e
  exact .inl ⟨⟨xs,q,Nat.le_refl _⟩,hd σ H p⟩
end L2
namespace L2
open PySem PySem.Spec PyProof.Rows
section
variable {X:Cx}
def G7 (_ j:Int):Prop:=0 < j/\j < 18446744073709551616
theorem Cc:j3 X (binaryOp .FloorDiv) (rI G7 fun i j=>.int (i / j)):=Gm fun i j _ _ _ _ _ hc q=>by
 have h1:(0:Int) < j:=hc.1
 have h2:j < 18446744073709551616:=hc.2
 refine floordiv_int (by omega) (by rw [Int.fdiv_eq_ediv_of_nonneg i (by omega)]; exact q) (.inl (PyProof.noPylong_of_log2 ?_))
 have h3:j.natAbs.log2 < 64:=(Nat.log2_lt (by omega)).mpr (by omega)
 omega
theorem wX:fg X (.builtin "isinstance") (fun xs H Q=>∃ (x:V) (t:Value) (T:String) (b:Bool),xs=[x,.ty T]/\mV X.K H x t/\PySem.W.kitOne X.K t (.type T)=some b/\Q (.bl b) H):=by
 intro pins s σ H xs us Q I r h
 obtain ⟨x,t,T,b,rfl,ty,e,q⟩:=h
 obtain ⟨u,w',rfl,r1,r2⟩:=yX r
 obtain rfl:w'=Value.type T:=r2
 exact zS I r1 ty e fun tk=>⟨.bl b,H,I.tok tk,rfl,q⟩
theorem zD (bs:List Bool):(List.range bs.length).all (fun i=>bs.getD i false)=bs.all fun b=>b:=by
 have e:(List.range bs.length).map (fun i=>bs.getD i false)=bs:=List.ext_getElem (by simp) fun i h1 h2=>by simp [h2]
 conv=>rhs; rw [← e,List.all_map]
 rfl
theorem By (hc:X.calm=true):fg X (.builtin "all") (fun xs H Q=>∃ (p:Addr) (bs:List Bool),xs=[.ref p]/\bb X.K H p (bs.map V.bl)/\Q (.bl (bs.all fun b=>b)) H):=by
 intro pins s σ H xs us Q I r h
 obtain ⟨p,bs,rfl,hq,q⟩:=h
 obtain ⟨u,rfl,rx⟩:=kS r
 cases rx
 obtain ⟨its,rv,pl,hz⟩:=I.list hq
 have hl:its.toArray.size=bs.length:=by rw [List.size_toArray,← rv.length,List.length_map]
 have hp:p < s.heap.objs.size:=let ⟨_,z,_⟩:=pl.isList; Heap.lt_size z
 refine call_all_walk (wpAny_pyIter_list pl.isList ?_)
 refine ⟨s.heap.objs.size,[s.heap.objs.size,p],[s.heap.objs.size],its.toArray.size,_,_,fun i=>bs.getD i false,rfl,Walks.list (A:=X.A.in1) (I.ok.hd hc) _ p (Nat.ne_of_lt hp) its.toArray,
  ⟨⟨_,Heap.get?_push_size _ rfl,rfl,rfl⟩,pl.isList.push _⟩,fun i v s' Q' E' hP hQ=>?_,fun h' tk kp=>?_⟩
 ·have hv:its[i]?=some v:=by simpa using hP
  have hb:i < bs.length:=by
   have:=(List.getElem?_eq_some_iff.mp hv).1
   rw [← hl,List.size_toArray]
   exact this
  obtain ⟨u,hu,ru⟩:=rv.get (i:=i) (x:=V.bl bs[i]) (by rw [List.getElem?_map,List.getElem?_eq_getElem hb]; rfl)
  rw [hv] at hu
  cases hu
  obtain rfl:v=Value.bool bs[i]:=ru
  refine wpAny_truthy_bool ?_
  have e:bs.getD i false=bs[i]:=by rw [List.getD_eq_getElem?_getD,List.getElem?_eq_getElem hb,Option.getD_some]
  rw [← e]
  exact hQ
 ·refine ⟨.bl (bs.all fun b=>b),H,I.kept (t':=tk) fun b o e=>kp b o ?_ (Heap.get?_push_of_some _ e),?_,q⟩
  ·intro z
   have z':b=s.heap.objs.size:=by simpa using z
   exact absurd (Heap.lt_size e) (by rw [z']; exact Nat.lt_irrefl _)
  ·show Value.bool _=Value.bool _
   rw [hl,zD]
end
structure dP (K:PySem.W.Frag) (mg:Str->Option Value) (x:Str) (f:Addr) (fd:FuncData) (ps:List Str):Prop where
 mg:mg x=some (.ref f)
 kp:PySem.W.keepIn K (.ref f)=true
 bd:Binds K fd ps []
theorem bI {X:Cx} {k:Nat} {f:Addr} {fd:FuncData} {ps:List Str} {sp:Sp} {x:Str} {e:Expr} {es:List Expr} {t:TA} {p pos:Pos} (F:aT X.prog X.w X.K X.mg X.base cy k f fd ps sp) (c:dP X.K X.mg x f fd ps) (hr:eM k X.A) (ha:PA X (e :: es) t)
  (hg:Gl X x:=by rfl) (hdb:(x == ("__debug__":Str))=false:=by decide) (he:starEach (e :: es) X.env=(false,eval e X.env) :: starEach es X.env:=by rfl) (hpl:(backTo pos (starEach es X.env)).any (·.1)=false:=by rfl) :
  PE X (.Call (.Name x p) (e :: es) [] pos) (yN sp [] E0 t):=DN F hr hg c.mg c.kp c.bd .nil sr ha hdb he hpl
theorem vg {X:Cx} {x:Str} {T:String} {pos:Pos} (hm:X.mg x=none) (hv:bootBuiltins x=some (.type T)) (hg:Gl X x:=by rfl) (hn:x≠"__name__":=by decide) (hdb:(x == ("__debug__":Str))=false:=by decide):PE X (.Name x pos) (tC (.ty T)) :=
 Cz hg hm hv rfl hn hdb
def Fw (K:PySem.W.Frag) (t:TE):TT:=fun σ H Q=>t σ H fun x H'=>∃ k,BM K x H' k/\Q k H'
theorem gi {X:Cx} (K:PySem.W.Frag) {f:Expr} {es:List Expr} {kws:List Keyword} {pos:Pos} {t:TE} (hK:X.K=K) (h:PE X (.Call f es kws pos) t):PT X (.Call f es kws pos) (Fw K t):=by
 subst hK
 exact wa h fun _=>rfl
end L2
namespace L2
open PySem PySem.Spec PyProof.Rows
section
variable {X:Cx}
def Hv (X:Cx) (r:V->Option Int->Option Int->Option Int->Hp->VK->Prop):Prop :=
 ∀ (pins:List (Addr×Obj)) (s:Shared) (σ:St) (H:Hp) (x:V) (v vl vu vt:Value) (lo hi st:Option Int) (sl:Addr) (Q:VK),aV X pins σ H s->RelV x v->s.heap.IsSliceOf sl vl vu vt->IsPart vl lo->IsPart vu hi->IsPart vt st->r x lo hi st H Q ->
  ∃ T id,typeLookup (.type T) "__getitem__"=pure (some (.builtin id))/\s.TypeIs v T/\wpAny (model X.prog X.w) X.A (getItem v (.ref sl)) (EP X pins σ Q) X.xe s
def HD (r:V->Option Int->Option Int->Option Int->Hp->VK->Prop) (te:TE) (tl th tk:TO):TE:=fun σ H Q=>te σ H fun x H1=>tl σ H1 fun l H2=>th σ H2 fun u H3=>tk σ H3 fun k H4=>r x l u k H4 Q
theorem tM {e est:Expr} {lo hi:Option Expr} {te:TE} {tl th tk:TO} {pos p2:Pos} {r:V->Option Int->Option Int->Option Int->Hp->VK->Prop} (hr:Hv X r) (he:PE X e te) (hl:PO X lo tl) (hu:PO X hi th) (hk:PO X (some est) tk) :
  PE X (.Subscript e (.Slice lo hi (some est) p2) pos) (HD r te tl th tk):=by
 intro pins s σ H Q I h
 refine Subscript_ (cE (he pins s σ H _ I h) fun v s1 ⟨x,H1,I1,r1,q1⟩=>?_)
 refine wpAny_Slice (cE (hl pins s1 σ H1 _ I1 q1) fun vl s2 ⟨l,H2,I2,pl,q2⟩=>cE (hu pins s2 σ H2 _ I2 q2) fun vu s3 ⟨u,H3,I3,pu,q3⟩=>cE (hk pins s3 σ H3 _ I3 q3) fun vt s4 ⟨k,H4,I4,pt,q4⟩=>?_)
 have I5:aV X pins σ H4 { s4 with heap:=s4.heap.push { cls:=.type "slice",data:=.fields #[vl,vu,vt] } }:=I4.kept (t':=s4.toks) fun b ob q=>Heap.get?_push_of_some _ q
 obtain ⟨T,id,hT,ht,hg⟩:=hr pins { s4 with heap:=s4.heap.push { cls:=.type "slice",data:=.fields #[vl,vu,vt] } } σ H4 x v vl vu vt l u k s4.heap.objs.size Q I5 r1 (Heap.IsSliceOf.new ..) pl pu pt q4
 show wpAny (model X.prog X.w) X.A (subscriptTail e (.Slice lo hi (some est) p2) v (.ref s4.heap.objs.size)) (EP X pins σ Q) X.xe { s4 with heap:=s4.heap.push { cls:=.type "slice",data:=.fields #[vl,vu,vt] } }
 exact tail_any (ops:=[v,.ref s4.heap.objs.size]) ht hT hg (by with_unfolding_all rfl)
theorem yJ:Hv X (fun x lo hi st H Q=>lo=none/\hi=none/\st=some (-1)/\∃ a xs,x=.ref a/\bb X.K H a xs/\∀ p,H p=none->Q (.ref p) (upd H p (.lst xs.reverse))):=by
 intro pins s σ H x v vl vu vt lo hi st sl Q I rx hs pl pu pt h
 obtain ⟨rfl,rfl,rfl,a,xs,rfl,hx,q⟩:=h
 cases rx
 obtain ⟨its,r,ht,hz⟩:=I.list hx
 have hlen:=r.length
 refine ⟨"list",_,slot_list_getitem.lookup,ht.isList.typeIs,?_⟩
 refine wpAny_getItem_list_slice ht.isList hs pl pu pt (by decide) ?_ (by rw [List.size_toArray] <;> omega)
 rw [GX.BL]
 refine ⟨.ref s.heap.objs.size,_,I.laid (t':=s.toks) (o:=.lst xs.reverse) (fun b ob q=>Heap.get?_push_of_some _ q) (Nat.le_refl _) ?_,rfl,q _ (I.hok.fresh (Nat.le_refl _))⟩
 exact ⟨by rw [List.length_reverse]; exact hz,its.reverse,0,r.reverse,Heap.get?_push_size _ rfl⟩
end
end L2
namespace GX
open PySem
theorem zP:typeLookup (.type "list") (Str.ofString "keys")=pure none:=am_miss_of_fast (by kernel_rfl)
section
variable {prog:Program} {w:World} {A:Around} {E:Value->Shared->Prop} {s:Shared} {l:Addr} {items:Array Value} {n:Nat} {Q:Option Value->Shared->Prop}
theorem BX {T id:String} {nm:Str} {B:Builtin} {x:Value} {R:Result->Shared->Prop} {S:PySem.Spec} (slot:Slot T nm id) (en:entryFor table id=some B) (hT:s.TypeIs (.ref l) T) (ar:argsOk id ⟨[.ref l,x],[]⟩) (m:Meets (B ⟨[.ref l,x],[]⟩) S) (h:S A R s) :
  codeAny (model prog w) A (.call (.builtin id) ⟨[.ref l,x],[]⟩) R s:=codeAny_call_builtin slot.plain en (slot.check _ _ _ _ _ _ _ _ hT ar (m prog w A R s h))
theorem CG {T id:String} {nm:Str} {o:Obj} (slot:Slot T "__getattribute__" id) (ga:typeLookup (.type T) "__getattr__"=pure none) (en:entryFor table id=some Builtin.«object.__getattribute__») (ar:∀ a b,argsOk id ⟨[a,b],[]⟩)
  (hl:s.heap.get? l=some o) (hc:o.cls=.type T) (m:∀ u,Meets (Builtin.«object.__getattribute__» ⟨[.ref l,.str nm u],[]⟩) (fun A R s=>s.heap.get? l=some o/\raisesAttr (.ref l) nm A R s))
  (hA:A.handled=none) (h:∀ h' tk,Eh s.heap h'->Q none { s with heap:=h',toks:=tk }):wpAny (model prog w) A (getAttr? (.ref l) nm) Q E s:=by
 obtain ⟨c,dd,dt,sl⟩:=o
 cases hc
 obtain ⟨hp,g,d,tk,os⟩:=s
 have hT:∀ tk,Shared.TypeIs ⟨hp,g,d,tk,os⟩ (.ref l) T:=fun _=>⟨_,hl,rfl⟩
 have:=slot.lookup
 have:=slot.bind (.ref l)
 have:=sub_AttributeError
 unfold getAttr? getAttrBy? getAttrBy
 repeat' first | assumption | exact hT _ | wp_step
 refine BX slot en (hT _) (ar _ _) (m _) ⟨hl,hA,fun h' tk' e x=>?_⟩
 obtain ⟨t',u',_⟩:=x.there
 have q:=h h' tk' x.keeps
 unfold getattributeRaised
 repeat' first | assumption | wp_step
theorem D1 (hA:A.handled=none) (hl:s.heap.get? l=some (Ju items n)) (h:∀ h' tk,Eh s.heap h'->Q none { s with heap:=h',toks:=tk }):wpAny (model prog w) A (getAttr? (.ref l) (Str.ofString "keys")) Q E s :=
 CG F.slot_list_getattribute am_list_getattr_none am_entry_list_getattribute F.args_list_getattribute_2 hl rfl (fun u=>meets_getattribute_miss_list l items n _ _ u zP (by decide)) hA h
end
end GX
namespace GX
open PySem
theorem j8:entryFor table "dict.update.loop"=some Builtin.«dict.update.loop»:=entryFor_of_tree (by kernel_rfl)
theorem fk:plainId "dict.update.loop"=true:=by decide +kernel
section
variable {prog:Program} {w:World} {A:Around} {R:Result->Shared->Prop} {I d:Addr} {fp wr:List Addr} {n:Nat} {P:Nat->Value->Prop} {St:Nat->Heap->Prop} {K:Type} [DecidableEq K] {knd:KeyKind prog w K}
theorem xI (kx:List (K×Value)):(merged [] kx).length<=kx.length:=by
 have:=merged_length_le [] kx
 simpa using this
theorem wI (I d:Addr) (i:Int) (t:Tok):MeetsIn prog w (Builtin.«dict.update.loop» ⟨[.ref d,.ref I,.int i t,.none],[]⟩) fun A R s=>wpAny (model prog w) A.in1 (pyNext (.ref I)) (fun r s=>match r with
  | none=>R (.ok (.ret .none)) s
  | some v=>∃ a o k x c,v=.ref a/\s.heap.get? a=some o/\o.cls=.type "tuple"/\o.data=.seq #[k,x] c /\
   wpAny (model prog w) A.in1 (dictSet d k x) (fun _ s=>codeAny (model prog w) A (.builtin "dict.update.loop" ⟨[.ref d,.ref I,.int (i + 1) 0,.none],[]⟩) R s) (fun _ _=>False) s) (fun _ _=>False) s:=by
 intro A R s nx
 show wpAny _ _ (pyNext (.ref I) >>= _) _ _ s
 apply wpAny_bind
 refine wpAny_mono nx (fun r s1 h=>?_) fun _ _ z=>z.elim
 rcases r with _ | v
 ·wp_walk
  exact h
 ·obtain ⟨a,o,k,x,c,rfl,ha,hc,hd,q⟩:=h
  have ty:s1.TypeIs (.ref a) "tuple":=⟨o,ha,hc⟩
  apply wpAny_bind
  apply wpAny_holding
  apply wpAny_bind
  apply wpAny_tryCatch
  wp_walk using wpAny_seqItems ha hd,wpAny_mono q
  ·exact fun _ _ e=>wpAny_pure ⟨plainId_quiet fk _,e⟩
  ·exact fun _ _ z=>z.elim
theorem FK {D:Nat->Heap->Prop} (W:Walks prog w A.in1 I fp wr n P St) (nd:d∉fp) (calm:∀ i h h',D i h->(∀ b o,b∉wr->h.get? b=some o->h'.get? b=some o)->D i h')
  (turn:∀ i v s,P i v->D i s.heap->∃ a o k x c,v=.ref a/\s.heap.get? a=some o/\o.cls=.type "tuple"/\o.data=.seq #[k,x] c /\
   ∀ Q:Unit->Shared->Prop,(∀ h,D (i + 1) h->(∀ b,b≠d->h.get? b=s.heap.get? b)->∀ tk,Q () { s with heap:=h,toks:=tk })->wpAny (model prog w) A.in1 (dictSet d k x) Q (fun _ _=>False) s) :
  ∀ (k i:Nat) (s:Shared) (t:Tok),n=i + k->St i s.heap->D i s.heap->(∀ h tk,D n h->R (.ok (.ret .none)) { s with heap:=h,toks:=tk }) ->
   codeAny (model prog w) A (.builtin "dict.update.loop" ⟨[.ref d,.ref I,.int i t,.none],[]⟩) R s:=by
 intro k
 induction k with
 | zero =>
  intro i s t e st di fin
  obtain rfl:n=i:=e
  exact enter j8 fk (wI I d _ t) (W.done s _ _ st fun h tk q=>fin h tk (calm _ _ _ di q))
 | succ k ih =>
  intro i s t e st di fin
  refine enter j8 fk (wI I d _ t) (W.item i s _ _ (by omega) st fun v h tk pv st1 q=>?_)
  obtain ⟨a,o,y,x,c,e1,e2,e3,e4,set⟩:=turn i v { s with heap:=h,toks:=tk } pv (calm _ _ _ di q)
  refine ⟨a,o,y,x,c,e1,e2,e3,e4,set _ fun h2 d2 sb tk=>?_⟩
  exact ih (i + 1) { s with heap:=h2,toks:=tk } 0 (by omega) (W.frame _ _ _ st1 fun b hb o e=>(sb b fun z=>nd (z ▸ hb)).trans e) d2 fin
theorem Ci (W:Walks prog w A.in1 I fp wr n P St) (nd:d∉fp) (h₀:Heap) (kx:List (K×Value)) (hn:kx.length=n) (hz:n<=sizeLine)
  (hP:∀ i v,P i v->∃ a key k x o c,v=.ref a/\kx[i]?=some (k,x)/\knd.is k key=true/\h₀.get? a=some o/\o.cls=.type "tuple"/\o.data=.seq #[key,x] c/\a≠d/\a∉wr) :
  ∀ (k i:Nat) (s:Shared) (t:Tok),n=i + k->St i s.heap->(∀ b o,b∉wr->b≠d->h₀.get? b=some o->s.heap.get? b=some o)->s.heap.DictOf knd d (merged [] (kx.take i)) ->
  (∀ h' tk,(∀ b o,b∉wr->b≠d->h₀.get? b=some o->h'.get? b=some o)->h'.DictOf knd d (merged [] kx)->R (.ok (.ret .none)) { s with heap:=h',toks:=tk }) ->
  codeAny (model prog w) A (.builtin "dict.update.loop" ⟨[.ref d,.ref I,.int i t,.none],[]⟩) R s:=by
 have nw:d∉wr:=fun z=>nd (W.sub _ z)
 intro k i s t en st kp dd fin
 refine FK (D:=fun i h=>(∀ b o,b∉wr->b≠d->h₀.get? b=some o->h.get? b=some o)/\h.DictOf knd d (merged [] (kx.take i))) W nd ?_ ?_ k i s t en st ⟨kp,dd⟩ fun h tk q=>fin h tk q.1 ?_
 ·rintro i h h' ⟨kp,od,es,ep,ho,r⟩ q
  exact ⟨fun b o nb nb' e=>q b o nb (kp b o nb nb' e),od,es,ep,q d od nw ho,r⟩
 ·rintro i v s pv ⟨kp,dd⟩
  obtain ⟨a,key,k,x,o,c,rfl,hx,hk,ha,hc,hd,na,naw⟩:=hP i v pv
  refine ⟨a,o,key,x,c,rfl,kp a o naw na ha,hc,hd,fun Q q=>wpAny_dictSet_pairs hk dd (fun h2 d2 sb=>q h2 ⟨fun b o nb nb' e=>(sb.2 b nb').trans (kp b o nb nb' e),?_⟩ sb.2 _) (Nat.le_trans (xI _) (by rw [List.length_take]; omega))⟩
  rw [merged_take_succ [] kx i (k,x) hx]
  exact d2
 ·have z:=q.2
  rwa [← hn,List.take_length] at z
end
section
variable {prog:Program} {w:World} {A:Around} {E:Value->Shared->Prop} {s:Shared} {K:Type} [DecidableEq K] {knd:KeyKind prog w K}
abbrev BB (h:Heap):Heap:=h.push { cls:=.type "dict",data:=.dict #[] }
theorem xT {T:String} {l:Addr} {Q:Value->Shared->Prop} (ty:Shared.TypeIs { s with heap:=BB s.heap } (.ref l) T) (nT:(Value.type T != .type "dict")=true)
  (h:wpAny (model prog w) A.in1.in1 (getAttr? (.ref l) (Str.ofString "keys")) (fun r s1=>r=none/\wpAny (model prog w) A.in1.in1 (pyIter (.ref l))
   (fun it s2=>codeAny (model prog w) A.in1 (.builtin "dict.update.loop" ⟨[.ref s.heap.objs.size,it,.int 0 0,.none],[]⟩) (wants (fun r s3=>r=.none/\Q (.ref s.heap.objs.size) s3) E) s2) E s1) E { s with heap:=BB s.heap }) :
  wpAny (model prog w) A (call (.type "dict") [.ref l]) Q E s:=by
 apply callType_codes F.kt_called_dict (F.kt_typeCall_dict_1 _) F.entry_dict_init (kt_code_dict_new (Q₁:=fun v s1=>v=.ref s.heap.objs.size/\s1={ s with heap:=BB s.heap }) _ ⟨rfl,rfl⟩)
 rintro _ _ ⟨rfl,rfl⟩
 have td:Shared.TypeIs { s with heap:=BB s.heap } (.ref s.heap.objs.size) "dict":=⟨_,Heap.get?_push_size _ rfl,rfl⟩
 refine ⟨td,F.args_dict_init_2 _ _,?_⟩
 show wpAny _ _ (Builtin.Dict.selfAndRest _ _ >>= _) _ _ _
 wp_walk using wpAny_notOrdered_dict td,wpAny_ite_true nT,wpAny_mono h
 ·rintro _ s1 ⟨rfl,q⟩
  wp_walk using wpAny_mono q
  ·exact fun _ _ e=>wpAny_pure ⟨plainId_quiet fk _,e⟩
  ·exact fun _ _ e=>e
 ·exact fun _ _ e=>e
theorem uU {l:Addr} {vs:List Value} {n:Nat} {kx:List (K×Value)} {Q:Value->Shared->Prop} (hA:A.handled=none)
  (hl:s.heap.get? l=some { cls:=.type "list",dict:=none,data:=.seq vs.toArray n,slots:=#[] }) (hz:vs.length<=sizeLine) (hlen:kx.length=vs.length)
  (hP:∀ (i:Nat) v,vs[i]?=some v->∃ a key k x o c,v=.ref a/\kx[i]?=some (k,x)/\knd.is k key=true/\s.heap.get? a=some o/\o.cls=.type "tuple"/\o.data=.seq #[key,x] c)
  (h:∀ h' tk,(∀ b o,s.heap.get? b=some o->h'.get? b=some o)->h'.DictOf knd s.heap.objs.size (merged [] kx)->Q (.ref s.heap.objs.size) { s with heap:=h',toks:=tk }) :
  wpAny (model prog w) A (call (.type "dict") [.ref l]) Q E s:=by
 have hl':(BB s.heap).get? l=some { cls:=.type "list",dict:=none,data:=.seq vs.toArray n,slots:=#[] }:=Heap.get?_push_of_some _ hl
 refine xT (T:="list") ⟨_,hl',rfl⟩ (by decide) (D1 hA hl' fun h1 tk1 k1=>⟨rfl,?_⟩)
 have hl1:=k1 l _ hl'
 have lt1:l < h1.objs.size:=Heap.lt_size hl1
 have ld:l < s.heap.objs.size:=Heap.lt_size hl
 have il:h1.IsList l vs.toArray:=⟨_,hl1,rfl,n,rfl⟩
 have d1:h1.DictOf knd s.heap.objs.size []:=by
  obtain ⟨od,es,ep,ho,r⟩:=Heap.DictOf.new (knd:=knd) s.heap
  exact ⟨od,es,ep,k1 _ _ ho,r⟩
 have dlt:s.heap.objs.size < h1.objs.size:=by
  obtain ⟨od,es,ep,ho,r⟩:=d1
  exact Heap.lt_size ho
 have hI:∀ {b:Addr},b < h1.objs.size->b≠h1.objs.size:=fun z=>Nat.ne_of_lt z
 refine wpAny_pyIter_list (s:={ s with heap:=h1,toks:=tk1 }) il ?_
 have W:=Walks.list (prog:=prog) (w:=w) (A:=A.in1.in1) hA h1.objs.size l (hI lt1) vs.toArray
 refine Ci (A:=A.in1) (knd:=knd) W (d:=s.heap.objs.size) ?_ s.heap kx (by rw [hlen,List.size_toArray]) (by rw [List.size_toArray]; exact hz) (fun i v hv=>?_) vs.toArray.size 0 _ 0 (by omega)
  ⟨⟨_,Heap.get?_push_size _ rfl,rfl,rfl⟩,il.push _⟩ (fun b o _ nb e=>Heap.get?_push_of_some _ (k1 b o (Heap.get?_push_of_some _ e))) ?_ fun h2 tk2 k2 d2=>?_
 ·intro z
  have z':s.heap.objs.size=h1.objs.size∨s.heap.objs.size=l:=by simpa using z
  rcases z' with z' | z'
  ·exact absurd dlt (by rw [z']; exact Nat.lt_irrefl _)
  ·exact absurd ld (by rw [z']; exact Nat.lt_irrefl _)
 ·obtain ⟨a,key,k,x,o,c,e1,e2,e3,e4,e5,e6⟩:=hP i v (by simpa using hv)
  refine ⟨a,key,k,x,o,c,e1,e2,e3,e4,e5,e6,Nat.ne_of_lt (Heap.lt_size e4),fun z=>?_⟩
  have z':a=h1.objs.size:=by simpa using z
  exact absurd (Nat.lt_trans (Heap.lt_size e4) dlt) (by rw [z']; exact Nat.lt_irrefl _)
 ·exact d1.push _
 ·exact ⟨rfl,h h2 tk2 (fun b o e=>k2 b o (fun z=>by
   have z':b=h1.objs.size:=by simpa using z
   exact absurd (Nat.lt_trans (Heap.lt_size e) dlt) (by rw [z']; exact Nat.lt_irrefl _)) (Nat.ne_of_lt (Heap.lt_size e)) e) d2⟩
end
end GX
namespace GX
open PySem PyProof.Rows
section
variable {prog:Program} {w:World} {A:Around} {E:Value->Shared->Prop} {s:Shared}
theorem tF {x:Value} {kw:List (Str×Value)} {Q:Value->Shared->Prop} (ok:argsOk "sorted" ⟨[x],kw⟩)
  (h:wpAny (model prog w) A.in1 (collect x) (fun vs s1=>wpAny (model prog w) A.in1 (newList vs >>= fun l=>holding [l] (call (.builtin "list.sort") [l] kw) >>= fun _=>ret l) (fun f s2=>∃ v,f=.done (.ret v)/\Q v s2) E s1) E s) :
  wpAny (model prog w) A (call (.builtin "sorted") [x] kw) Q E s :=
 call_function_entry_kw kind_sorted plain_sorted entry_sorted ok (wpAny_bind (m:=checkCount _ _ _ _) (wpAny_pure (wpAny_bind (wpAny_mono h (fun _ _ q=>q) fun _ _ e=>e))))
end
end GX
namespace L2
open PySem PySem.Spec PyProof.Rows
def dI (m:List (Int×Int)):List (cU×V):=m.map fun p=>(Sum.inl p.1,V.int p.2)
theorem oF (m:List (Int×Int)):(dI m).length=m.length:=List.length_map ..
def lA:List (Int×Int)->Int->Option Int
 | [],_=>none
 | p :: m,k=>if p.1=k then some p.2 else lA m k
theorem rQ:∀ (m:List (Int×Int)) (k:Int),cD (dI m) (Sum.inl k:cU)=(lA m k).map V.int
 | [],_=>rfl
 | p :: m,k=>by
  show cD ((Sum.inl p.1,V.int p.2) :: dI m) (Sum.inl k)=_
  unfold lA
  by_cases e:p.1=k
  ·rw [if_pos e,de (by rw [e])]
   rfl
  ·rw [if_neg e,c8 (fun z=>e (Sum.inl.inj z)),rQ m k]
def fJ:List (Int×Int)->Int->Int->List (Int×Int)
 | [],k,v=>[(k,v)]
 | p :: m,k,v=>if p.1=k then (p.1,v) :: m else p :: fJ m k v
theorem Gn:∀ (m:List (Int×Int)) (k v j:Int),lA (fJ m k v) j=if j=k then some v else lA m j
 | [],k,v,j=>by
  show (if k=j then some v else none)=_
  by_cases e:j=k
  ·rw [if_pos e,if_pos e.symm]
  ·rw [if_neg e,if_neg (fun z=>e z.symm)]
   rfl
 | p :: m,k,v,j=>by
  show lA (if p.1=k then (p.1,v) :: m else p :: fJ m k v) j=if j=k then some v else (if p.1=j then some p.2 else lA m j)
  by_cases e:p.1=k
  ·rw [if_pos e]
   show (if p.1=j then some v else lA m j)=_
   by_cases e2:j=k
   ·rw [if_pos e2,if_pos (e.trans e2.symm)]
   ·rw [if_neg e2,if_neg (fun z=>e2 (z.symm.trans e)),if_neg (fun z=>e2 (z.symm.trans e))]
  ·rw [if_neg e]
   show (if p.1=j then some p.2 else lA (fJ m k v) j)=_
   rw [Gn m k v j]
   by_cases e2:j=k
   ·rw [if_pos e2,if_neg (fun z=>e (z.trans e2)),if_pos e2]
   ·rw [if_neg e2,if_neg e2]
theorem vP:∀ (m:List (Int×Int)) (k v x:Int),x∈(fJ m k v).map (·.1)↔x=k∨x∈m.map (·.1)
 | [],k,v,x=>by simp [fJ]
 | p :: m,k,v,x=>by
  show x∈(if p.1=k then (p.1,v) :: m else p :: fJ m k v).map (·.1)↔_
  by_cases e:p.1=k
  ·rw [if_pos e]
   simp only [List.map_cons,List.mem_cons]
   constructor
   ·exact fun h=>.inr h
   ·rintro (h | h)
    ·exact .inl (h.trans e.symm)
    ·exact h
  ·rw [if_neg e]
   simp only [List.map_cons,List.mem_cons]
   have:=vP m k v x
   constructor
   ·rintro (h | h)
    ·exact .inr (.inl h)
    ·rcases this.mp h with h | h
     ·exact .inl h
     ·exact .inr (.inr h)
   ·rintro (h | h | h)
    ·exact .inr (this.mpr (.inl h))
    ·exact .inl h
    ·exact .inr (this.mpr (.inr h))
theorem AY:∀ (m:List (Int×Int)) (k v:Int),(m.map (·.1)).Nodup->((fJ m k v).map (·.1)).Nodup
 | [],k,v,_=>by simp [fJ]
 | p :: m,k,v,h=>by
  show ((if p.1=k then (p.1,v) :: m else p :: fJ m k v).map (·.1)).Nodup
  rw [List.map_cons,List.nodup_cons] at h
  by_cases e:p.1=k
  ·rw [if_pos e,List.map_cons,List.nodup_cons]
   exact h
  ·rw [if_neg e,List.map_cons,List.nodup_cons]
   refine ⟨fun z=>?_,AY m k v h.2⟩
   rcases (vP m k v p.1).mp z with z | z
   ·exact e z
   ·exact h.1 z
theorem nM:∀ (m:List (Int×Int)) (k v:Int) (p:Int×Int),p∈fJ m k v->p=(k,v)∨p∈m
 | [],k,v,p,h=>.inl (by simpa [fJ] using h)
 | q :: m,k,v,p,h=>by
  have h':p∈(if q.1=k then (q.1,v) :: m else q :: fJ m k v):=h
  by_cases e:q.1=k
  ·rw [if_pos e] at h'
   rcases List.mem_cons.mp h' with z | z
   ·exact .inl (by rw [z,e])
   ·exact .inr (List.mem_cons_of_mem _ z)
  ·rw [if_neg e] at h'
   rcases List.mem_cons.mp h' with z | z
   ·exact .inr (by rw [z]; exact List.mem_cons_self)
   ·rcases nM m k v p z with z | z
    ·exact .inl z
    ·exact .inr (List.mem_cons_of_mem _ z)
theorem BE (k:Int):∀ m:List (Int×Int),((dI m).any fun kv=>decide (kv.1=(Sum.inl k:cU)))=m.any fun p=>decide (p.1=k)
 | []=>rfl
 | p :: m=>by
  show (decide ((Sum.inl p.1:cU)=Sum.inl k) || (dI m).any _)=(decide (p.1=k) || m.any _)
  rw [BE k m]
  congr 1
  rw [decide_eq_decide]
  exact ⟨fun h=>Sum.inl.inj h,fun h=>congrArg _ h⟩
theorem vi:∀ (m:List (Int×Int)) (k v:Int),(m.any fun p=>decide (p.1=k))=false->fJ m k v=m ++ [(k,v)]
 | [],_,_,_=>rfl
 | p :: m,k,v,h=>by
  rw [List.any_cons,Bool.or_eq_false_iff] at h
  show (if p.1=k then (p.1,v) :: m else p :: fJ m k v)=_
  rw [if_neg (of_decide_eq_false h.1),vi m k v h.2]
  rfl
theorem yK:∀ (m:List (Int×Int)) (k v:Int),(m.map (·.1)).Nodup->(m.any fun p=>decide (p.1=k))=true->fJ m k v=m.map fun p=>if p.1=k then (p.1,v) else p
 | [],_,_,_,h=>by cases h
 | p :: m,k,v,nd,h=>by
  rw [List.map_cons,List.nodup_cons] at nd
  show (if p.1=k then (p.1,v) :: m else p :: fJ m k v)=(if p.1=k then (p.1,v) else p) :: m.map _
  by_cases e:p.1=k
  ·rw [if_pos e,if_pos e]
   congr 1
   have:m.map (fun p=>if p.1=k then (p.1,v) else p)=m.map id:=List.map_congr_left fun q hq=>by
    rw [if_neg (fun z=>nd.1 (by rw [e,← z]; exact List.mem_map_of_mem hq))]
    rfl
   rw [this,List.map_id]
  ·rw [if_neg e,if_neg e,yK m k v nd.2 (by
    rw [List.any_cons,decide_eq_false e,Bool.false_or] at h
    exact h)]
theorem ym (m:List (Int×Int)) (k v:Int) (nd:(m.map (·.1)).Nodup):eL (dI m) (Sum.inl k:cU) (V.int v)=dI (fJ m k v):=by
 unfold eL
 rw [BE]
 cases e:m.any fun p=>decide (p.1=k) with
 | false =>
  rw [vi m k v e]
  unfold dI
  rw [List.map_append]
  rfl
 | true =>
  rw [yK m k v nd e]
  unfold dI
  rw [List.map_map,if_pos rfl,List.map_map]
  apply List.map_congr_left
  intro p _
  show (if (Sum.inl p.1:cU)=Sum.inl k then ((Sum.inl p.1:cU),V.int v) else (Sum.inl p.1,V.int p.2))=((Sum.inl (if p.1=k then (p.1,v) else p).1:cU),V.int (if p.1=k then (p.1,v) else p).2)
  by_cases z:p.1=k
  ·rw [if_pos (congrArg _ z),if_pos z]
  ·rw [if_neg (fun q=>z (Sum.inl.inj q)),if_neg z]
theorem kM:∀ {m:List (Int×Int)} {k v:Int},lA m k=some v->(k,v)∈m
 | [],_,_,h=>by cases h
 | p :: m,k,v,h=>by
  have h':(if p.1=k then some p.2 else lA m k)=some v:=h
  by_cases e:p.1=k
  ·rw [if_pos e] at h'
   have:p=(k,v):=by rw [← e,← Option.some.inj h']
   rw [this]
   exact List.mem_cons_self
  ·rw [if_neg e] at h'
   exact List.mem_cons_of_mem _ (kM h')
theorem wY:∀ {m:List (Int×Int)} {k v:Int},(m.map (·.1)).Nodup->(k,v)∈m->lA m k=some v
 | [],_,_,_,h=>by cases h
 | p :: m,k,v,nd,h=>by
  rw [List.map_cons,List.nodup_cons] at nd
  show (if p.1=k then some p.2 else lA m k)=some v
  rcases List.mem_cons.mp h with z | z
  ·rw [← z,if_pos rfl]
  ·rw [if_neg (fun e=>nd.1 (by rw [e]; exact List.mem_map_of_mem (f:=(·.1)) z)),wY nd.2 z]
theorem DO {m:List (Int×Int)} {k:Int} (h:k∉m.map (·.1)):lA m k=none:=by
 cases e:lA m k with
 | none=>rfl
 | some v=>exact absurd (List.mem_map_of_mem (f:=(·.1)) (kM e)) h
theorem yI {m:List (Int×Int)} {k:Int} (h:k∈m.map (·.1)):∃ v,lA m k=some v:=by
 cases e:lA m k with
 | some v=>exact ⟨v,rfl⟩
 | none =>
  exfalso
  induction m with
  | nil=>cases h
  | cons p m ih =>
   have e':(if p.1=k then some p.2 else lA m k)=none:=e
   by_cases z:p.1=k
   ·rw [if_pos z] at e'; cases e'
   ·rw [if_neg z] at e'
    rw [List.map_cons] at h
    rcases List.mem_cons.mp h with q | q
    ·exact z q.symm
    ·exact ih q e'
def ct (m:List (Int×Int)) (k:Int):Int:=(lA m k).getD 0
section
variable {X:Cx}
theorem og {P:Program} {w:World}:∀ {m:List (Int×Int)} {vs:List (cU×Value)} {us:List Value},KV (dI m) vs->us.length=vs.length->(∀ (j:Nat) v,us[j]?=some v->∃ k x,vs[j]?=some (k,x)/\(bB P w).is k v=true)->IntsAre us (m.map (·.1))
 | [],_,us,r,hl,h=>by
  have r':KV [] _:=r
  cases r'
  cases us with
  | nil=>exact .nil
  | cons _ _=>cases hl
 | p :: m,vs,us,r,hl,h=>by
  have r':KV ((Sum.inl p.1,V.int p.2) :: dI m) vs:=r
  cases r' with
  | cons r1 r2 =>
   rename_i q qs
   cases us with
   | nil=>cases hl
   | cons u us =>
    obtain ⟨k,x,e1,e2⟩:=h 0 u rfl
    have e1':q=(k,x):=Option.some.inj e1
    subst e1'
    have ek:(Sum.inl p.1:cU)=k:=r1.1
    subst ek
    rcases bT (show iA (Sum.inl p.1) u=true from e2) with ⟨i,t,z1,z2⟩ | ⟨_,_,z,_⟩
    ·have z1':p.1=i:=Sum.inl.inj z1
     rw [z2,← z1']
     exact .cons _ t (og (P:=P) (w:=w) r2 (Nat.succ.inj hl) fun j v e=>h (j + 1) v e)
    ·cases z
theorem tq {A:Around} {E:Value->Shared->Prop} {prog:Program} {w:World} {s:Shared} {vs:List Value} {ns:List Int} {Q:Value->Shared->Prop} (hi:IntsAre vs ns) (h64:vs.length < 64) (hz:vs.length<=sizeLine)
  (h:∀ h' out ns' e,(∀ b o,s.heap.get? b=some o->h'.get? b=some o)->h'.get? s.heap.objs.size=some (seqObj "list" out e)->IntsAre out.toList ns'->ns'.Perm ns->ns'.Pairwise (·<=·)->Q (.ref s.heap.objs.size) { s with heap:=h' }) :
  wpAny (model prog w) A (do let l ← newList vs; let _ ← holding [l] (call (.builtin "list.sort") [l] []); ret l) (fun fin s'=>∃ v,fin=.done (.ret v)/\Q v s') E s:=by
 refine wpAny_bind (wpAny_newList ?_ hz)
 have ho:(s.heap.push (seqObj "list" vs.toArray 0)).get? s.heap.objs.size=some (seqObj "list" vs.toArray 0):=Heap.get?_push_size _ rfl
 refine wpAny_bind (wpAny_holding (wpAny_call_entry slot_list_sort ⟨_,ho,rfl⟩ entry_list_sort (list_sort_tree ho hi h64 fun out ns' a1 a2 a3=>⟨_,rfl,?_⟩) (args_list_sort _)))
 obtain ⟨e,he⟩:=sortedHeap_at (out:=out) ho
 refine wpAny_pure ⟨_,rfl,h _ out ns' e (fun b o q=>?_) he a1 a2 a3⟩
 have l:=Heap.lt_size q
 rw [sortedHeap_old (Nat.ne_of_lt l) (by rw [size_push']; exact Nat.lt_succ_of_lt l)]
 exact Heap.get?_push_of_some _ q
theorem aV.lay_ints {pins:List (Addr×Obj)} {σ:St} {H:Hp} {s:Shared} {h':Heap} {out:Array Value} {ns:List Int} {e tk:Nat} (I:aV X pins σ H s) (k:∀ b o,s.heap.get? b=some o->h'.get? b=some o) (he:h'.get? s.heap.objs.size=some (seqObj "list" out e)) (hi:IntsAre out.toList ns) (hz:ns.length<=sizeLine) :
  aV X pins σ (upd H s.heap.objs.size (.lst (ns.map V.int))) { s with heap:=h',toks:=tk } :=
 I.laid k (Nat.le_refl _) ⟨by rw [List.length_map]; exact hz,out.toList,e,oI hi,he⟩
theorem uO (hc:X.calm=true):fg X (.builtin "sorted") (fun xs H Q=>∃ (d:Addr) (m:List (Int×Int)),xs=[.ref d]/\Rd H d (.dK (dI m))/\m.length < 64/\∀ (l:Addr) (ns:List Int),H l=none->ns.Perm (m.map (·.1))->ns.Pairwise (·<=·)->Q (.ref l) (upd H l (.lst (ns.map V.int)))):=by
 intro pins s σ H xs us Q I r h
 obtain ⟨d,m,rfl,hd,hlen,q⟩:=h
 obtain ⟨u,rfl,rx⟩:=kS r
 cases rx
 obtain ⟨z,hS,vs,rel,dd⟩:=kl I.hok hd
 obtain ⟨ep,hat⟩:=dd.dictAt
 have hl:vs.length=m.length:=by rw [← rel.length,oF]
 refine GX.tF (args_sorted1 _) (PySem.W.kdu_collect (A:=X.A.in1) (PySem.W.kdl_dict (knd:=bB X.prog X.w) (kvs:=vs) (ep:=ep) hS) (I.ok.hd hc) hat (by rw [hl]; exact Nat.le_of_lt (aD (by omega))) fun h' tk acc hk hacc=>?_)
 have hi:IntsAre acc.toList (m.map (·.1)):=og (P:=X.prog) (w:=X.w) rel (by rw [Array.length_toList]; exact hacc.1) fun j v e=>hacc.2 j v (by rw [← Array.getElem?_toList]; exact e)
 have ha:acc.toList.length=m.length:=by rw [hi.length,List.length_map]
 have I1:aV X pins σ H { s with heap:=h',toks:=tk }:=I.kept hk
 refine tq hi (by rw [ha]; exact hlen) (by rw [ha]; exact Nat.le_of_lt (aD (by omega))) fun h2 out ns' e k2 he a1 a2 a3=>?_
 have ln:ns'.length<=sizeLine:=by rw [a2.length_eq,List.length_map]; exact Nat.le_of_lt (aD (by omega))
 exact ⟨.ref h'.objs.size,_,I1.lay_ints (tk:=tk) k2 he a1 ln,rfl,q _ ns' (I1.hok.fresh (Nat.le_refl _)) a2 a3⟩
def Pr (H:Hp) (x:V) (p:Int×Int):Prop:=∃ a,x=.ref a/\H a=some (.tup [.int p.1,.int p.2])
abbrev kW (H:Hp):List V->List (Int×Int)->Prop:=Paired (Pr H)
theorem kW.mono {H H':Hp} (h:∀ a xs,H a=some (.tup xs)->H' a=some (.tup xs)) {xs:List V} {ps:List (Int×Int)} (r:kW H xs ps):kW H' xs ps:=Paired.mapP r fun _ _ ⟨a,e1,e2⟩=>⟨a,e1,h a _ e2⟩
theorem kW.snoc {H:Hp} {x:V} {p:Int×Int}:∀ {xs:List V} {ps:List (Int×Int)},kW H xs ps->Pr H x p->kW H (xs ++ [x]) (ps ++ [p])
 | _,_,.nil,h=>.cons h .nil
 | _,_,.cons r t,h=>.cons r (kW.snoc t h)
theorem kW.get {H:Hp}:∀ {xs:List V} {ps:List (Int×Int)} {i:Nat} {x:V},kW H xs ps->xs[i]?=some x->∃ p,ps[i]?=some p/\Pr H x p
 | _,_,_,_,.nil,e=>by simp at e
 | _,_,0,_,.cons r _,e=>by simp at e; subst e; exact ⟨_,rfl,r⟩
 | _,_,i + 1,x,.cons _ t,e=>by
  obtain ⟨p,h1,h2⟩:=kW.get (i:=i) (x:=x) t (by simpa using e)
  exact ⟨p,by simpa using h1,h2⟩
theorem kW.len {H:Hp} {xs:List V} {ps:List (Int×Int)} (r:kW H xs ps):xs.length=ps.length:=Paired.length r
end
end L2
namespace L2
open PySem PySem.Spec PyProof.Rows
section
variable {X:Cx}
theorem wW:∀ (ps acc:List (Int×Int)),((acc ++ ps).map (·.1)).Nodup->ya (dI acc) (dI ps)=dI (acc ++ ps)
 | [],acc,_=>by rw [List.append_nil]; rfl
 | p :: ps,acc,h=>by
  show ya (eL (dI acc) (Sum.inl p.1) (V.int p.2)) (dI ps)=_
  have h1:(acc.map (·.1)).Nodup:=by
   rw [List.map_append] at h
   exact (List.nodup_append.mp h).1
  have h2:(acc.any fun q=>decide (q.1=p.1))=false:=by
   rw [List.any_eq_false]
   intro q hq z
   have z':=of_decide_eq_true z
   rw [List.map_append,List.map_cons] at h
   exact (List.nodup_append.mp h).2.2 q.1 (List.mem_map_of_mem (f:=(·.1)) hq) p.1 List.mem_cons_self z'
  rw [ym acc p.1 p.2 h1,vi acc p.1 p.2 h2,wW ps (acc ++ [(p.1,p.2)]) (by rw [List.append_assoc]; exact h),List.append_assoc]
  rfl
theorem BH {pins:List (Addr×Obj)} {σ:St} {H:Hp} {s:Shared} (I:aV X pins σ H s):∀ {xs:List V} {us:List Value} {ps:List (Int×Int)},kW H xs ps->Vals xs us ->
  ∃ kx:List (cU×Value),KV (dI ps) kx/\kx.length=us.length/\∀ (i:Nat) v,us[i]?=some v->∃ a key k x o c,v=.ref a/\kx[i]?=some (k,x)/\(bB X.prog X.w).is k key=true/\s.heap.get? a=some o/\o.cls=.type "tuple"/\o.data=.seq #[key,x] c:=by
 intro xs us ps w
 induction w generalizing us with
 | nil =>
  intro w
  cases w
  exact ⟨[],.nil,rfl,fun i v e=>by simp at e⟩
 | @cons x p xs ps h t ih =>
  intro w
  cases w with | cons r q =>
  rename_i u us
  obtain ⟨kx,k1,k2,k3⟩:=ih q
  obtain ⟨a,rfl,ha⟩:=h
  obtain rfl:u=Value.ref a:=r
  obtain ⟨_,its,rv,o,ho,hc,n,hd,_⟩:[V.int p.1,V.int p.2].length<=sizeLine/\∃ its:List Value,Vals [V.int p.1,V.int p.2] its/\jM s.heap a its.toArray:=I.hok a _ ha
  obtain ⟨u1,u2,rfl,r1,r2⟩:=yX rv
  obtain ⟨t1,rfl⟩:=r1
  refine ⟨(Sum.inl p.1,u2) :: kx,.cons ⟨rfl,r2⟩ k1,congrArg (· + 1) k2,fun i v e=>?_⟩
  cases i with
  | zero =>
   have e':Value.ref a=v:=Option.some.inj e
   subst e'
   exact ⟨a,_,_,u2,o,n,rfl,rfl,kO X.prog X.w p.1 t1,ho,hc,hd⟩
  | succ i=>exact k3 i v e
theorem xN (hc:X.calm=true):fg X (.type "dict") (fun xs H Q=>∃ (a:Addr) (ys:List V) (ps:List (Int×Int)),xs=[.ref a]/\H a=some (.lst ys)/\kW H ys ps/\(ps.map (·.1)).Nodup/\ps.length<=1000/\∀ p,H p=none->Q (.ref p) (upd H p (.dK (dI ps)))):=by
 intro pins s σ H xs us Q I r h
 obtain ⟨a,ys,ps,rfl,ha,hp,nd,hl,q⟩:=h
 obtain ⟨u,rfl,rx⟩:=kS r
 cases rx
 obtain ⟨z,its,n,rv,hlen,e⟩:=I.lstM ha
 obtain ⟨kx,k1,k2,k3⟩:=BH I hp rv
 refine GX.uU (knd:=bB X.prog X.w) (I.ok.hd hc) e (by rw [← hlen]; exact z) k2 k3 fun h' tk kp dd=>?_
 have rel:KV (dI ps) (merged [] kx):=by
  have:=KV.merge k1 (show KV (dI []) [] from .nil)
  rw [wW ps [] (by simpa using nd)] at this
  exact this
 refine ⟨.ref s.heap.objs.size,_,I.laid (t':=tk) kp (Nat.le_refl _) (yC ?_ (beq_eq_false_iff_ne.mpr (Ne.symm (Nat.ne_of_lt I.big))) rel dd),rfl,q _ (I.hok.fresh (Nat.le_refl _))⟩
 rw [oF]
 exact Nat.le_of_lt (aD hl)
def IC (K:PySem.W.Frag) (tl:TE):TI:=fun σ H R=>tl σ H fun x H1=>∃ a,x=.ref a/\(((∃ xs,bb K H1 a xs)/\R (Cv K a) H1)∨((∃ xs,aZ K H1 a xs)/\R (Ct K a) H1))
theorem EI {tg l:Expr} {tl:TE} (hl:PE X l tl):PI X tg l (IC X.K tl):=by
 intro pins s σ H R I h
 refine cE (hl pins s σ H _ I h) fun v s1 ⟨x,H1,I1,r1,q1⟩=>?_
 obtain ⟨a,e,q1⟩:=q1
 subst e
 cases r1
 have fp:∀ b∈[s1.heap.objs.size],pS X pins H1 b:=fun b hb=>by
  have e:b=s1.heap.objs.size:=by simpa using hb
  subst e
  exact I1.fpOk (Nat.le_refl _) (I1.hok.fresh (Nat.le_refl _))
 rcases q1 with ⟨⟨xs,hq⟩,q⟩ | ⟨⟨xs,hq⟩,q⟩
 ·obtain ⟨its,rv,p,hz⟩:=I1.list hq
  refine wpAny_pyIter_list p.isList ?_
  exact ⟨s1.heap.objs.size,[s1.heap.objs.size],_,_,H1,rfl,I1.kept (t':=s1.toks) fun b o e=>Heap.get?_push_of_some _ e,tD a _,⟨_,Heap.get?_push_size _ rfl,rfl,rfl⟩,fp,q⟩
 ·obtain ⟨its,rv,p,hz⟩:=I1.tuple hq
  refine wpAny_pyIter_tuple (show s1.heap.IsTuple a its.toArray from p) ?_
  exact ⟨s1.heap.objs.size,[s1.heap.objs.size],_,_,H1,rfl,I1.kept (t':=s1.toks) fun b o e=>Heap.get?_push_of_some _ e,qC a _,⟨_,Heap.get?_push_size _ rfl,rfl,rfl⟩,fp,q⟩
end
theorem vA {K:PySem.W.Frag} {a:Addr} {xs:List V} {g:TG} {tt:TT} {te:TE} {σ:St} {H:Hp} {D:Addr} {Qe:Hp->Prop} (Pv:Nat->St->Hp->Prop) (h0:Pv 0 σ H) (hl:∀ i σ H,i<=xs.length->Pv i σ H->aZ K H a xs)
  (hs:∀ i x σ H,xs[i]?=some x->Pv i σ H->jc g tt te D (Pv (i + 1)) x σ H) (hd:∀ σ H,Pv xs.length σ H->Qe H) :
  ∃ W:Nat->Nat->St->Hp->Prop,(∃ m,W 0 m σ H)/\∀ i m σ' H',W i m σ' H'->((Ct K a).stop i H'/\Qe H')∨((Ct K a).go i H'/\∃ N:St->Hp->Prop,(∀ σ2 H2,N σ2 H2->∃ m',m' < m/\W (i + 1) m' σ2 H2) /\
   ∀ x H'',(Ct K a).yld i H' x H''->jc g tt te D N x σ' H''):=by
 refine ⟨fun i m σ H=>m=xs.length - i/\i<=xs.length/\Pv i σ H,⟨xs.length,by simp,Nat.zero_le _,h0⟩,?_⟩
 rintro i m σ H ⟨rfl,hi,p⟩
 have q:=hl i σ H hi p
 by_cases hlt:i < xs.length
 ·refine .inr ⟨⟨xs,xs[i],q,by simp [hlt]⟩,Pv (i + 1),fun σ' H' p'=>⟨xs.length - (i + 1),by omega,rfl,hlt,p'⟩,fun x H' y=>?_⟩
  obtain ⟨e,y⟩:=y
  subst e
  exact hs i x σ _ (y xs q) p
 ·have e:i=xs.length:=by omega
  subst e
  exact .inl ⟨⟨xs,q,Nat.le_refl _⟩,hd σ H p⟩
section
variable {X:Cx}
end
end L2
namespace GX
open PySem PyProof.Rows
def AB (xs:Array Nat):Prop:=xs.toList.Pairwise (· < ·)
theorem AB.at {xs:Array Nat} (h:AB xs) {i j:Nat} (hi:i < j) (hj:j < xs.size):xs.getD i 0 < xs.getD j 0:=by
 have:=List.pairwise_iff_getElem.mp h i j (by simp; omega) (by simpa using hj) hi
 simp only [Array.getElem_toList] at this
 rw [Array.getD_eq_getD_getElem?,Array.getD_eq_getD_getElem?,Array.getElem?_eq_getElem (by omega),Array.getElem?_eq_getElem hj]
 exact this
theorem wu {xs:Array Nat} {i:Nat} (h:i < xs.size) (a b:Nat):xs.getD i a=xs.getD i b:=by
 rw [Array.getD_eq_getD_getElem?,Array.getD_eq_getD_getElem?,Array.getElem?_eq_getElem h]
 rfl
theorem rX {xs:Array Nat} (hr:AB xs) (j:Nat):∀ (fuel lo hi:Nat),lo<=hi->hi<=xs.size->hi - lo<=fuel->(∀ i,i < lo->xs.getD i 0 < j)->(∀ i,hi<=i->i < xs.size->j<=xs.getD i 0) ->
  SetTable.below.go xs j fuel lo hi<=xs.size/\(∀ i,i < SetTable.below.go xs j fuel lo hi->xs.getD i 0 < j)/\(∀ i,SetTable.below.go xs j fuel lo hi<=i->i < xs.size->j<=xs.getD i 0)
 | 0,lo,hi,h1,h2,h3,h4,h5=>by
  have e:lo=hi:=by omega
  subst e
  unfold SetTable.below.go
  exact ⟨h2,h4,h5⟩
 | fuel + 1,lo,hi,h1,h2,h3,h4,h5=>by
  unfold SetTable.below.go
  by_cases h:lo < hi
  ·rw [if_pos h]
   have hm:(lo + hi) / 2 < xs.size:=by omega
   show (if xs.getD ((lo + hi) / 2) j < j then SetTable.below.go xs j fuel ((lo + hi) / 2 + 1) hi else SetTable.below.go xs j fuel lo ((lo + hi) / 2))<=_/\_
   by_cases hc:xs.getD ((lo + hi) / 2) j < j
   ·simp only [if_pos hc]
    rw [wu hm j 0] at hc
    refine rX hr j fuel _ hi (by omega) h2 (by omega) (fun i hi'=>?_) h5
    rcases Nat.lt_or_ge i ((lo + hi) / 2) with z | z
    ·have:=hr.at z hm
     omega
    ·have:i=(lo + hi) / 2:=by omega
     rw [this]
     exact hc
   ·simp only [if_neg hc]
    rw [wu hm j 0] at hc
    refine rX hr j fuel lo _ (by omega) (by omega) (by omega) h4 (fun i hi' hs=>?_)
    rcases Nat.lt_or_ge ((lo + hi) / 2) i with z | z
    ·have:=hr.at z hs
     omega
    ·have:i=(lo + hi) / 2:=by omega
     rw [this]
     omega
  ·rw [if_neg h]
   have e:lo=hi:=by omega
   subst e
   exact ⟨h2,h4,h5⟩
theorem mZ {xs:Array Nat} (hr:AB xs) (j:Nat):SetTable.below xs j<=xs.size/\(∀ i,i < SetTable.below xs j->xs.getD i 0 < j)/\(∀ i,SetTable.below xs j<=i->i < xs.size->j<=xs.getD i 0):=by
 unfold SetTable.below
 exact rX hr j _ 0 _ (Nat.zero_le _) (Nat.le_refl _) (by omega) (fun i h=>by omega) (fun i h1 h2=>by omega)
theorem yt {xs:Array Nat} (hr:AB xs) {i:Nat} (hi:i < xs.size):SetTable.below xs (xs.getD i 0 + 1)=i + 1:=by
 obtain ⟨h1,h2,h3⟩:=mZ hr (xs.getD i 0 + 1)
 rcases Nat.lt_trichotomy (SetTable.below xs (xs.getD i 0 + 1)) (i + 1) with z | z | z
 ·have:=h3 i (by omega) hi
  omega
 ·exact z
 ·have q:=h2 (i + 1) z
  have:=hr.at (i:=i) (j:=i + 1) (by omega) (by omega)
  omega
theorem xU {xs:Array Nat} (hr:AB xs):SetTable.below xs 0=0:=by
 obtain ⟨h1,h2,h3⟩:=mZ hr 0
 rcases Nat.eq_zero_or_pos (SetTable.below xs 0) with z | z
 ·exact z
 ·have:=h2 0 z
  omega
def Off (xs:Array Nat) (d:Nat):Prop:=xs[SetTable.below xs d]?≠some d
theorem Off.no {xs:Array Nat} (hr:AB xs) {d:Nat} (h:Off xs d):∀ i,i < xs.size->xs.getD i 0≠d:=by
 intro i hi e
 obtain ⟨h1,h2,h3⟩:=mZ hr d
 have b1:SetTable.below xs d<=i:=by
  rcases Nat.lt_or_ge i (SetTable.below xs d) with z | z
  ·have:=h2 i z
   omega
  ·exact z
 have b2:SetTable.below xs d=i:=by
  rcases Nat.lt_or_ge (SetTable.below xs d) i with z | z
  ·have:=hr.at z hi
   have:=h3 (SetTable.below xs d) (Nat.le_refl _) (by omega)
   omega
  ·omega
 apply h
 rw [b2,Array.getElem?_eq_getElem hi]
 rw [Array.getD_eq_getD_getElem?,Array.getElem?_eq_getElem hi] at e
 exact congrArg some e
theorem vF {t:SetTable} {j:Nat} (h:∀ i,t.slot j≠.live i):Off t.place j:=by
 intro z
 apply h (SetTable.below t.place j)
 unfold SetTable.slot
 simp only [z,beq_self_eq_true,if_true]
theorem tj (t:SetTable) (p:SetTable.Probe):(t.advance p).dummy=p.dummy:=by
 unfold SetTable.advance
 split <;> rfl
theorem oJ {t:SetTable} {f:Nat->Int} {h:Int}:∀ (fuel:Nat) (p:SetTable.Probe) (j:Nat) (dm:Option Nat),(∀ d,p.dummy=some d->Off t.place d)->SetTable.probe.go t f h fuel p=some (.empty j dm)->Off t.place j/\∀ d,dm=some d->Off t.place d
 | 0,p,j,dm,hp,e=>by
  unfold SetTable.probe.go at e
  cases e
 | fuel + 1,p,j,dm,hp,e=>by
  unfold SetTable.probe.go at e
  cases hs:t.slot p.j with
  | empty =>
   rw [hs] at e
   dsimp only at e
   cases e
   exact ⟨vF (fun i z=>by rw [hs] at z; cases z),hp⟩
  | dummy =>
   rw [hs] at e
   dsimp only at e
   refine oJ fuel _ j dm (fun d hd=>?_) e
   rw [tj] at hd
   cases hd
   exact vF (fun i z=>by rw [hs] at z; cases z)
  | live i =>
   rw [hs] at e
   dsimp only at e
   split at e
   ·cases e
   ·exact oJ fuel _ j dm (fun d hd=>hp d (by rw [tj] at hd; exact hd)) e
theorem BU {t:SetTable} {h:Int} {sl:Nat} {b:Bool} (e:t.freeSlot h=some (sl,b)):Off t.place sl:=by
 unfold SetTable.freeSlot SetTable.probe at e
 generalize hg:SetTable.probe.go t (fun _=>h + 1) h (10 * SetTable.turns t.mask) (t.probeStart h)=g at e
 cases g with
 | none=>cases e
 | some m =>
  cases m with
  | candidate j i n=>cases e
  | empty j dm =>
   obtain ⟨h1,h2⟩:=oJ _ _ j dm (fun d hd=>by cases hd) hg
   dsimp only at e
   have e':=Option.some.inj e
   cases dm with
   | none =>
    have:j=sl:=congrArg Prod.fst e'
    rw [← this]
    exact h1
   | some d =>
    have:d=sl:=congrArg Prod.fst e'
    rw [← this]
    exact h2 d rfl
theorem AZ {xs:Array Nat} {x:Nat} {p:Nat} (h:x∈xs.toList.take p):∃ i,i < p/\i < xs.size/\xs.getD i 0=x:=by
 obtain ⟨i,hi,e⟩:=List.getElem_of_mem h
 rw [List.length_take,Array.length_toList] at hi
 refine ⟨i,by omega,by omega,?_⟩
 rw [List.getElem_take,Array.getElem_toList] at e
 rw [Array.getD_eq_getD_getElem?,Array.getElem?_eq_getElem (by omega)]
 exact e
theorem t6 {xs:Array Nat} {x:Nat} {p:Nat} (h:x∈xs.toList.drop p):∃ i,p<=i/\i < xs.size/\xs.getD i 0=x:=by
 obtain ⟨i,hi,e⟩:=List.getElem_of_mem h
 rw [List.length_drop,Array.length_toList] at hi
 refine ⟨p + i,by omega,by omega,?_⟩
 rw [List.getElem_drop,Array.getElem_toList] at e
 rw [Array.getD_eq_getD_getElem?,Array.getElem?_eq_getElem (by omega)]
 exact e
theorem De {t:SetTable} {sl:Nat} (hr:AB t.place) (ho:Off t.place sl):AB (t.put sl).1.place:=by
 obtain ⟨h1,h2,h3⟩:=mZ hr sl
 show (SetTable.insertAt t.place (SetTable.below t.place sl) sl).toList.Pairwise (· < ·)
 rw [SetTable.toList_insertAt,List.pairwise_append]
 refine ⟨hr.sublist (List.take_sublist _ _),?_,?_⟩
 ·rw [List.pairwise_cons]
  refine ⟨fun x hx=>?_,hr.sublist (List.drop_sublist _ _)⟩
  obtain ⟨i,a,b,c⟩:=t6 hx
  have q1:=h3 i a b
  have q2:=ho.no hr i b
  omega
 ·intro x hx y hy
  obtain ⟨i,a,b,c⟩:=AZ hx
  have q1:=h2 i a
  rcases List.mem_cons.mp hy with z | z
  ·omega
  ·obtain ⟨i',a',b',c'⟩:=t6 z
   have q2:=h3 i' a' b'
   omega
theorem kT (t:SetTable) (n:Nat):AB (t.standIn n).place:=by
 show (Array.range n).toList.Pairwise (· < ·)
 rw [Array.toList_range]
 exact List.pairwise_lt_range
def Tb (b:Bool) (t:SetTable):Prop:=AB t.place/\t.led=b
theorem E3 {b:Bool} {t:SetTable} (h:Tb b t) (es:Array (Int×Value)) (k:Int) (x:Value):Tb b (layNew t es k x).2.1:=by
 unfold layNew
 split
 ·rename_i sl wd e
  dsimp only
  unfold SetTable.orStandIn
  split
  ·exact ⟨De h.1 (BU e),h.2⟩
  ·exact ⟨kT _ _,h.2⟩
 ·exact ⟨kT _ _,h.2⟩
theorem zE {b:Bool} {t t':SetTable} {hs:Array Int} {n:Nat} {o:Array Nat} (h:Tb b t) (e:t.relaid hs n=some (t',o)):Tb b t':=by
 unfold SetTable.relaid SetTable.laid at e
 cases hc:SetTable.layClean (SetTable.sizeAbove n - 1) hs with
 | none=>rw [hc] at e; cases e
 | some ow =>
  rw [hc] at e
  have e':=Option.some.inj e
  have e1:=congrArg Prod.fst e'
  dsimp only at e1
  rw [← e1]
  refine ⟨?_,h.2⟩
  show List.Pairwise _ (Array.toList (List.toArray _))
  rw [List.toList_toArray,List.map_filterMap]
  refine List.Pairwise.filterMap (R:=(· < ·)) _ (fun x y hxy a ha c hc=>?_) List.pairwise_lt_range
  simp only [Option.map_map,Option.mem_def,Option.map_eq_some_iff] at ha hc
  obtain ⟨_,_,rfl⟩:=ha
  obtain ⟨_,_,rfl⟩:=hc
  exact hxy
theorem Bz {b:Bool} {t:SetTable} (h:Tb b t) (es:Array (Int×Value)) (n:Nat):Tb b (relayAll t es n).2.1:=by
 unfold relayAll
 split
 ·rename_i t' o e
  dsimp only
  split
  ·exact zE h e
  ·exact ⟨kT _ _,h.2⟩
 ·exact ⟨kT _ _,h.2⟩
end GX
namespace GX
open PySem PyProof.Rows
abbrev xW (w:World):Bool:=w.params.followText "set-order"
section
variable {prog:Program} {w:World} {A:Around} {E:Value->Shared->Prop} {s:Shared}
def mB (prog:Program) (w:World) (h:Heap) (a:Addr) (S:Int->Bool) (n:Nat):Prop :=
 ∃ o es ep t,h.get? a=some o/\o.ExactSet/\o.data=.set es ep t/\ElemsOf (intKind prog w) es.toList/\(∀ k,S k=true↔∃ e∈es.toList,(intKind prog w).is k e.2=true)/\es.size < scanBound/\t.fits es.size=true/\es.size=n/\Tb (!xW w) t
theorem mB.at {h h':Heap} {a:Addr} {S:Int->Bool} {n:Nat} (x:mB prog w h a S n) (k:∀ o,h.get? a=some o->h'.get? a=some o):mB prog w h' a S n:=by
 obtain ⟨o,es,ep,t,ho,r⟩:=x
 exact ⟨o,es,ep,t,k o ho,r⟩
theorem mB.congr {h:Heap} {a:Addr} {S S':Int->Bool} {n n':Nat} (x:mB prog w h a S n) (e:∀ k,S k=S' k) (en:n=n'):mB prog w h a S' n':=by
 have z:S=S':=funext e
 rw [← z,← en]
 exact x
def kR (prog:Program) (w:World) (es:Array (Int×Value)) (t:SetTable) (S:Int->Bool) (n:Nat):Prop :=
 ElemsOf (intKind prog w) es.toList/\(∀ k,S k=true↔∃ e∈es.toList,(intKind prog w).is k e.2=true)/\es.size < scanBound/\t.fits es.size=true/\es.size=n/\Tb (!xW w) t
def vM (h:Heap) (a:Addr) (es:Array (Int×Value)) (t:SetTable):Prop:=∃ o ep,h.get? a=some o/\o.ExactSet/\o.data=.set es ep t
theorem vM.good {h:Heap} {a:Addr} {es:Array (Int×Value)} {t:SetTable} {S:Int->Bool} {n:Nat} (r:vM h a es t) (g:kR prog w es t S n):mB prog w h a S n:=by
 obtain ⟨o,ep,r1,r2,r3⟩:=r
 exact ⟨o,es,ep,t,r1,r2,r3,g⟩
theorem vM.put {a:Addr} {es es':Array (Int×Value)} {t t':SetTable} {Q:Unit->Shared->Prop} (r:vM s.heap a es t) (hz:es'.size < scanBound) (h:∀ h',Heap.SameBut a s.heap h'->vM h' a es' t'->Q () { s with heap:=h' }) :
  wpAny (model prog w) A (storeSet a es' t') Q E s:=by
 obtain ⟨⟨c,d,b,sl⟩,ep,ho,hx,hd⟩:=r
 cases hd
 exact wpAny_storeSet_of ho rfl (h _ (Heap.SameBut.update ..) ⟨_,ep + 1,Heap.get?_update_self _ ho rfl,hx,rfl⟩) (fits_of_scanBound hz)
theorem kR.mix {es es':Array (Int×Value)} {t t':SetTable} {S:Int->Bool} {n:Nat} (g:kR prog w es t S n) (p:List.Perm es'.toList es.toList) (f:t'.fits es'.size=true) (b:Tb (!xW w) t'):kR prog w es' t' S n:=by
 obtain ⟨g1,g2,g3,_,g5,_⟩:=g
 have z:es'.size=es.size:=by simpa using p.length_eq
 exact ⟨g1.perm p,fun k=>(g2 k).trans ⟨fun ⟨e,u,v⟩=>⟨e,p.mem_iff.mpr u,v⟩,fun ⟨e,u,v⟩=>⟨e,p.mem_iff.mp u,v⟩⟩,z ▸ g3,f,z.trans g5,b⟩
theorem kR.relaid {es:Array (Int×Value)} {t:SetTable} {S:Int->Bool} {n:Nat} (g:kR prog w es t S n) (m:Nat):kR prog w (relayAll t es m).1 (relayAll t es m).2.1 S n :=
 g.mix (relayAll_perm t es m) (relayAll_fits t es m) (Bz g.2.2.2.2.2 es m)
theorem kR.more {es:Array (Int×Value)} {t:SetTable} {S:Int->Bool} {n:Nat} {k:Int} {x:Value} (g:kR prog w es t S n) (hk:(intKind prog w).is k x=true) (hx:x.scannable=true) (room:n + 1 < scanBound) :
  kR prog w (layNew t es ((intKind prog w).hash k) x).1 (layNew t es ((intKind prog w).hash k) x).2.1 (fun k'=>S k' || decide (k'=k)) (n + 1):=by
 obtain ⟨g1,g2,g3,_,g5,g6⟩:=g
 have p:List.Perm _ (es.push ((intKind prog w).hash k,x)).toList:=layNew_perm t es ((intKind prog w).hash k) x
 rw [Array.toList_push] at p
 have z:(layNew t es ((intKind prog w).hash k) x).1.size=n + 1:=by simpa [g5] using p.length_eq
 exact ⟨(g1.push hk hx).perm p,mem_push_iff hk g2 p,z ▸ room,layNew_fits t es _ x,z,E3 g6 es _ x⟩
theorem vX {b:Bool} {Q:Unit->Shared->Prop} (q:Q () s):wpAny (model prog w) A (match b with | true=>rule "set.scan.the-table-gave-way" | false=>pure ()) Q E s:=by
 cases b
 ·exact wpAny_pure q
 ·exact wpAny_rule q
theorem D3 {a:Addr} {S:Int->Bool} {n:Nat} {k:Int} {u:Tok} {Q:Bool->Shared->Prop} (x:mB prog w s.heap a S n) (room:n + 1 < scanBound)
  (h:∀ h' b,Heap.SameBut a s.heap h'->mB prog w h' a (fun k'=>S k' || decide (k'=k)) (if S k then n else n + 1)->Q b { s with heap:=h' }) :
  wpAny (model prog w) A (setAddHashed a (.int k u) ((intKind prog w).hash k)) Q E s:=by
 obtain ⟨o,es,ep,t,ho,hx,hd,g⟩:=x
 have g0:kR prog w es t S n:=g
 obtain ⟨he,hm,hb,hf,hn,tb⟩:=g
 have hk:(intKind prog w).is k (.int k u)=true:=intKind_is _ _ _ _
 rw [setAddHashed,setAddHashedIn]
 apply wpAny_holding
 apply wpAny_bind
 apply wpAny_setState_of ho hd hf
 dsimp only
 rw [byScan_of rfl hb he,if_pos rfl]
 wp_walk using wpAny_setScan_of hk ho hd hf he
 cases hr:List.findIdx? (fun e=>(intKind prog w).is k e.2) es.toList with
 | some j =>
  obtain ⟨lt,is,_⟩:=List.findIdx?_eq_some_iff_getElem.mp hr
  have sk:S k=true:=(hm k).mpr ⟨_,List.getElem_mem lt,is⟩
  wp_walk
  refine h s.heap false (.refl a _) (vM.good ⟨o,ep,ho,hx,hd⟩ ?_)
  rw [if_pos sk,show (fun k'=>S k' || decide (k'=k))=S from funext fun k'=>?_]
  ·exact g0
  ·by_cases e:k'=k
   ·rw [e,sk]; rfl
   ·rw [decide_eq_false e,Bool.or_false]
 | none =>
  have sk:¬ S k=true:=fun z=>by
   obtain ⟨e,u,v⟩:=(hm k).mp z
   exact absurd v (by simpa using List.findIdx?_eq_none_iff.mp hr e u)
  have g1:=g0.more hk rfl room
  rw [if_neg sk] at h
  dsimp only
  generalize layNew t es ((intKind prog w).hash k) (.int k u)=L at g1 ⊢
  obtain ⟨es1,t1,wd,gv⟩:=L
  refine wpAny_bind (vX ?_)
  dsimp only
  rw [hashByValue_scannable 8 (x:=.int k u) rfl]
  split
  all_goals
   refine wpAny_bind (wpAny_pure ?_)
   rw [if_pos (by rfl)]
   refine wpAny_bind (vM.put ⟨o,ep,ho,hx,hd⟩ g1.2.2.1 fun h1 s1 r1=>?_)
   split
   ·have g2:=g1.relaid (SetTable.grown es1.size)
    refine wpAny_bind (vX (wpAny_bind (vM.put (s:={ s with heap:=h1 }) r1 g2.2.2.1 fun h2 s2 r2=>?_)))
    wp_walk
    exact h h2 true (s1.trans s2) (r2.good g2)
   ·wp_walk
    exact h h1 true s1 (r1.good g1)
theorem wB (S I:Addr):MeetsIn prog w (Builtin.«set.update.loop» ⟨[.ref S,.ref I],[]⟩) fun A R s=>wpAny (model prog w) A.in1 (pyNext (.ref I)) (fun r s=>match r with
  | none=>R (.ok (.ret .none)) s
  | some v=>wpAny (model prog w) A.in1 (setAdd S v) (fun _ s=>codeAny (model prog w) A (.builtin "set.update.loop" ⟨[.ref S,.ref I],[]⟩) R s) (fun _ _=>False) s) (fun _ _=>False) s:=by
 intro A R s nx
 show wpAny _ _ (pyNext (.ref I) >>= _) _ _ s
 apply wpAny_bind
 refine wpAny_mono nx (fun r s1 h=>?_) fun _ _ z=>z.elim
 rcases r with _ | v
 ·wp_walk
  exact h
 ·wp_walk using wpAny_mono h
  ·exact fun _ _ e=>wpAny_pure ⟨plainId_quiet PyProof.Rows.F.plain_set_update_loop _,e⟩
  ·exact fun _ _ z=>z.elim
theorem Ap {R:Result->Shared->Prop} {I S:Addr} {fp wr:List Addr} {n:Nat} {P:Nat->Value->Prop} {St:Nat->Heap->Prop} (W:Walks prog w A.in1 I fp wr n P St) (nS:S∉fp) (val:Nat->Int) (hv:∀ i v,P i v->∃ t,v=.int (val i) t) (hb:n + 1 < scanBound) :
  ∀ (k i:Nat) (s:Shared),n=i + k->St i s.heap->mB prog w s.heap S (fun k'=>(firstMet val i).any (· == k')) (firstMet val i).length ->
   (∀ h' tk,(∀ b o,b∉wr->b≠S->s.heap.get? b=some o->h'.get? b=some o)->mB prog w h' S (fun k'=>(firstMet val n).any (· == k')) (firstMet val n).length->R (.ok (.ret .none)) { s with heap:=h',toks:=tk }) ->
   codeAny (model prog w) A (.builtin "set.update.loop" ⟨[.ref S,.ref I],[]⟩) R s:=by
 have nW:S∉wr:=fun z=>nS (W.sub _ z)
 intro k
 induction k with
 | zero =>
  intro i s en st x fin
  obtain rfl:n=i:=en
  exact enter PyProof.Rows.F.entry_set_update_loop PyProof.Rows.F.plain_set_update_loop (wB S I) (W.done s _ _ st fun h tk kp=>fin h tk (fun b o nb _ e=>kp b o nb e) (x.at fun o e=>kp S o nW e))
 | succ k ih =>
  intro i s en st x fin
  refine enter PyProof.Rows.F.entry_set_update_loop PyProof.Rows.F.plain_set_update_loop (wB S I) (W.item i s _ _ (by omega) st fun v h tk pv st1 kp=>?_)
  obtain ⟨t,rfl⟩:=hv i v pv
  have len:=firstMet_length_le val i
  show wpAny _ _ (setAdd S (.int (val i) t)) _ _ _
  unfold setAdd
  refine wpAny_holding (wpAny_bind ((intKind prog w).pyHash (k:=val i) (intKind_is _ _ _ _) (D3 (s:={ s with heap:=h,toks:=tk + 1 }) (x.at fun o e=>kp S o nW e) (by omega) fun h2 b sb x2=>?_)))
  refine ih (i + 1) { s with heap:=h2,toks:=tk + 1 } (by omega) (W.frame _ _ _ st1 fun b hb o e=>(sb.2 b fun z=>nS (z ▸ hb)).trans e) (x2.congr (fun k'=>?_) ?_) fun h3 tk3 k3 x3=>fin h3 tk3 (fun b o nb nb' e=>k3 b o nb nb' ((sb.2 b nb').trans (kp b o nb e))) x3
  ·rw [firstMet_succ,step_any]
  ·rw [firstMet_succ,step_length]
theorem DI (a:Value) {Q1:Value->Shared->Prop} (h:Q1 (.ref s.heap.objs.size) { s with heap:=s.heap.push { cls:=.type "set",dict:=none,data:=.set #[] 0 (.fresh 0 0 (!xW w)) } }) :
  codeAny (model prog w) A (.call (.builtin "set.__new__") ⟨[.type "set",a],[]⟩) (wants Q1 E) s:=by
 refine codeAny_call_builtin PySem.F.plain_set_new PySem.F.entry_set_new (wpAny_of_eq (PySem.F.newCall_set_1 a) ?_)
 have sub:=sub_set_self
 obtain ⟨hp,g,d,tk,os⟩:=s
 wp_walk using wpAny_askSetting
 exact h
theorem vY {T newId initId:String} {args:List Value} {Q Q1:Value->Shared->Prop} (ft:TypeCalled T newId initId) (ct:checkTypeCall T ⟨args,[]⟩=pure ())
  (new:codeAny (model prog w) A.in1 (.call (.builtin newId) ⟨.type T :: args,[]⟩) (wants Q1 E) s)
  (init:∀ v s1,Q1 v s1->s1.TypeIs v T/\codeAny (model prog w) A.in1 (.call (.builtin initId) ⟨v :: args,[]⟩) (wants (fun r s2=>r=.none/\Q v s2) E) s1):wpAny (model prog w) A (call (.type T) args) Q E s:=by
 obtain ⟨_,_,_⟩:=ft.mro
 have:=ft.notType
 have:=ft.canCreate
 have:=ft.made
 have:=ft.sub
 refine wpAny_call (codeAny_of_tree (wpAny_pure ⟨Code.quiet_builtin _ (by decide +kernel),codeAny_builtin PySem.F.entry_type_call ?_⟩))
 rw [Around.under_plain (weight_type_call_type T args []) rfl]
 repeat' first | assumption | wp_step
 refine codeAny_mono new fun r s1 h=>?_
 match r,h with
 | .error _,h=>exact h
 | .ok (.ret v),h =>
  obtain ⟨ty,c⟩:=init v s1 h
  have:=ft.init.lookup
  have:=ft.init.bind v
  repeat' first | assumption | wp_step
  refine codeAny_mono c fun r s2 h=>?_
  match r,h with
  | .error _,h=>exact h
  | .ok (.ret _),h =>
   obtain ⟨rfl,_⟩:=h
   repeat' first | assumption | wp_step
end
end GX
namespace GX
open PySem PyProof.Rows
theorem b9:Slot "set_iterator" "__next__" "set_iterator.__next__" :=
 .of (owner:="set_iterator") (n:="__next__") (by rw [typeLookup_type,builtinLookup_eq_fast]; kernel_rfl) (by decide +kernel) (by decide +kernel) (by decide +kernel) (by first | exact .inl (by decide +kernel) | exact .inr (by decide +kernel)) (by rw [isSubtype_type]; kernel_rfl)
theorem iH:entryFor table "set_iterator.__next__"=some Builtin.«set_iterator.__next__»:=entryFor_of_tree (by kernel_rfl)
theorem iQ (a:Value):argsOk "set_iterator.__next__" ⟨[a],[]⟩:=by unfold argsOk; kernel_rfl
theorem oZ:Slot "set_iterator" "__iter__" "set_iterator.__iter__" :=
 .of (owner:="set_iterator") (n:="__iter__") (by rw [typeLookup_type,builtinLookup_eq_fast]; kernel_rfl) (by decide +kernel) (by decide +kernel) (by decide +kernel) (by first | exact .inl (by decide +kernel) | exact .inr (by decide +kernel)) (by rw [isSubtype_type]; kernel_rfl)
theorem vU:entryFor table "set_iterator.__iter__"=some Builtin.«dict_keyiterator.__iter__»:=entryFor_alias (id':="dict_keyiterator.__iter__") (by kernel_rfl) rfl (by decide +kernel) (by kernel_rfl)
theorem xo (a:Value):argsOk "set_iterator.__iter__" ⟨[a],[]⟩:=by unfold argsOk; kernel_rfl
theorem w6:entryFor table "set.__iter__"=some Builtin.«frozenset.__iter__»:=entryFor_alias (id':="frozenset.__iter__") (by kernel_rfl) rfl (by decide +kernel) (by kernel_rfl)
abbrev xO (w:World) (h:Heap):Heap:=h.push { cls:=.type "set",dict:=none,data:=.set #[] 0 (.fresh 0 0 (!xW w)) }
section
variable {prog:Program} {w:World} {A:Around} {E:Value->Shared->Prop} {s:Shared}
theorem xf {l:Addr} {items:Array Value} {ns:List Int} {Q:Value->Shared->Prop} (hh:A.handled=none) (hl:s.heap.IsList l items) (hi:IntsAre items.toList ns) (hb:items.size + 1 < scanBound)
  (h:∀ h' tk,mB prog w h' s.heap.objs.size (fun k'=>(firstMet (fun i=>ns.getD i 0) items.size).any (· == k')) (firstMet (fun i=>ns.getD i 0) items.size).length->(∀ b o,s.heap.get? b=some o->h'.get? b=some o)->Q (.ref s.heap.objs.size) { s with heap:=h',toks:=tk }) :
  wpAny (model prog w) A (call (.type "set") [.ref l]) Q E s:=by
 obtain ⟨⟨oc,od,odt,osl⟩,hol,hcl,nl,hdl⟩:=id hl
 cases hcl
 cases hdl
 have lS:l < s.heap.objs.size:=Heap.lt_size hol
 refine vY PySem.F.called_set (PySem.F.typeCall_set_1 _) (DI (.ref l) (Q1:=fun v s1=>v=.ref s.heap.objs.size/\s1={ s with heap:=xO w s.heap }) ⟨rfl,rfl⟩) ?_
 rintro _ _ ⟨rfl,rfl⟩
 have new:(xO w s.heap).get? s.heap.objs.size=some { cls:=.type "set",dict:=none,data:=.set #[] 0 (.fresh 0 0 (!xW w)) }:=Heap.get?_push_size _ rfl
 have old:(xO w s.heap).get? l=some { cls:=.type "list",dict:=od,data:=.seq items nl,slots:=osl }:=Heap.get?_push_of_some _ hol
 have size:(xO w s.heap).objs.size=s.heap.objs.size + 1:=Heap.size_push ..
 have ty:Shared.TypeIs { s with heap:=xO w s.heap } (.ref s.heap.objs.size) "set":=⟨_,new,rfl⟩
 refine ⟨ty,codeAny_call_builtin PySem.F.called_set.init.plain PySem.F.entry_set_init (check_set_init_1 ty ?_)⟩
 have:=PySem.F.sub_list_set
 have:=PySem.F.sub_list_frozenset
 have nd:(Value.type "list" == Value.type "dict")=false:=by decide
 have grown:∀ b o,s.heap.get? b=some o->(xO w s.heap).get? b=some o:=fun b o e=>Heap.get?_push_of_some _ e
 generalize xO w s.heap=h1 at new old size ty grown ⊢
 have il:h1.IsList l items:=⟨_,old,rfl,nl,rfl⟩
 wp_walk using wpAny_pyIter_list il
 have nf:s.heap.objs.size∉[h1.objs.size,l]:=by
  rw [size]
  intro z
  rcases List.mem_cons.mp z with z | z
  ·exact absurd z (Nat.ne_of_lt (Nat.lt_succ_self _))
  ·exact Nat.ne_of_gt lS (List.mem_singleton.mp z)
 refine Ap (Walks.list (by simpa using hh) _ l (by rw [size]; exact Nat.ne_of_lt (Nat.lt_succ_of_lt lS)) items) nf (fun i=>ns.getD i 0) (fun i v hv=>IntsAre.int_at hi i v (by rw [Array.getElem?_toList]; exact hv)) hb items.size 0 _ (by omega)
  ⟨⟨_,Heap.get?_push_size _ rfl,rfl,rfl⟩,il.push _⟩ ⟨_,#[],0,_,Heap.get?_push_of_some _ new,⟨rfl,rfl,rfl⟩,rfl,fun e he=>by simp at he,fun k=>by simp [firstMet_zero],by decide,by rfl,rfl,⟨List.Pairwise.nil,rfl⟩⟩ fun h2 tk kp x=>?_
 wp_walk
 refine ⟨rfl,h h2 tk x fun b o e=>?_⟩
 have lb:=Heap.lt_size e
 refine kp b o (fun z=>?_) (Nat.ne_of_lt lb) (Heap.get?_push_of_some _ (grown b o e))
 rw [List.mem_singleton.mp z,size] at lb
 exact absurd lb (Nat.not_lt.mpr (Nat.le_succ _))
end
end GX
namespace GX
open PySem PyProof.Rows
section
variable {prog:Program} {w:World} {A:Around} {E:Value->Shared->Prop} {s:Shared}
theorem md {α:Type}:∀ {xs:List α} {i:Nat} (h:i < xs.length),(xs[i] :: xs.eraseIdx i).Perm xs
 | x :: xs,0,_=>.refl _
 | x :: xs,i + 1,h=>(List.Perm.swap x (xs[i]'(Nat.lt_of_succ_lt_succ h)) _).trans ((md (xs:=xs) (i:=i) (Nat.lt_of_succ_lt_succ h)).cons x)
theorem z9 {src:Source} {n:Nat} {M:Model} {Q:Nat->Shared->Prop} (hn:n≠0) (h:∀ i d,i < n->Q i { s with drawn:=d }):wpAny M A (choose src n) Q E s:=fun Γ p _=>by
 unfold choose
 rw [Sem.wp_choose]
 exact ⟨hn,h _ _ (Nat.mod_lt _ (Nat.pos_of_ne_zero hn))⟩
theorem y6 {α:Type} {M:Model}:∀ (n:Nat) (xs:List α) (s:Shared) (Q:List α->Shared->Prop),xs.length=n->(∀ ys d,ys.Perm xs->Q ys { s with drawn:=d })->wpAny M A (drawOrder n xs) Q E s
 | 0,xs,s,Q,hl,h=>by
  have e:xs=[]:=List.eq_nil_of_length_eq_zero hl
  subst e
  unfold drawOrder
  exact wpAny_pure (h [] s.drawn .nil)
 | n + 1,[],s,Q,hl,h=>by cases hl
 | n + 1,x :: xs,s,Q,hl,h=>by
  unfold drawOrder
  refine wpAny_bind (z9 (by simp) fun i d hi=>?_)
  rw [List.getElem?_eq_getElem hi]
  dsimp only
  refine wpAny_bind (y6 n _ _ _ (by rw [List.length_eraseIdx_of_lt hi,hl]; rfl) fun ys d' pm=>?_)
  exact wpAny_pure (h _ d' ((pm.cons _).trans (md hi)))
theorem yZ {α:Type} (f:Nat->Nat):∀ (n k:Nat) (xs:List α) (out:Array α),xs.length=n->(pickOrder.go f n k xs out).toList.Perm (out.toList ++ xs)
 | 0,k,xs,out,hl=>by
  have e:xs=[]:=List.eq_nil_of_length_eq_zero hl
  subst e
  unfold pickOrder.go
  rw [List.append_nil]
 | n + 1,k,xs,out,hl=>by
  unfold pickOrder.go
  have hi:f k % xs.length < xs.length:=Nat.mod_lt _ (by omega)
  rw [List.getElem?_eq_getElem hi]
  dsimp only
  refine (yZ f n (k + 1) _ _ (by rw [List.length_eraseIdx_of_lt hi,hl]; rfl)).trans ?_
  rw [Array.toList_push,List.append_assoc]
  exact List.Perm.append_left _ (md hi)
theorem zx {α:Type} (f:Nat->Nat) (xs:Array α):(pickOrder f xs).toList.Perm xs.toList:=by
 have:=yZ f xs.size 0 xs.toList #[] (by simp)
 simpa [pickOrder] using this
end
end GX
namespace GX
open PySem PyProof.Rows
section
variable {prog:Program} {w:World} {A:Around} {E:Value->Shared->Prop} {s:Shared}
def qh (first:Value) (i:Nat) (a:Addr) (n ep:Nat):Obj:={ cls:=.type "set_iterator",dict:=none,data:=.fields #[first,.int i 0,.ref a,.int n 0,.int ep 0],slots:=#[] }
theorem mr {I:Addr} {first:Value} {i n ep:Nat} {a:Addr} (h:Heap) (hI:h.get? I=some (qh first i a n ep)) (k:Nat) (x:Value):(h.update I (Obj.mapFields (·.setIfInBounds k x))).get? I=some { cls:=.type "set_iterator",dict:=none,data:=.fields ((#[first,.int i 0,.ref a,.int n 0,.int ep 0]:Array Value).setIfInBounds k x),slots:=#[] } :=
 Heap.get?_update_self _ hI rfl
variable {I a:Addr} {o:Obj} {es:Array (Int×Value)} {ep:Nat} {t:SetTable} {i:Nat}
theorem dU {first:Value} (hI:s.heap.get? I=some (qh first i a es.size ep)):s.TypeIs (.ref I) "set_iterator":=⟨_,hI,rfl⟩
theorem mS {sl:Int} {nx:Nat} {x:Value} {Q:Option Value->Shared->Prop} (hI:s.heap.get? I=some (qh (.int sl 0) i a es.size ep)) (ho:s.heap.get? a=some o) (hd:o.data=.set es ep t) (hf:t.fits es.size=true)
  (hn:∀ (A:Around) (E:Value->Shared->Prop) (Q':Option (Value×Nat)->Shared->Prop),Q' (some (x,nx)) s->wpAny (model prog w) A (setNext a sl.toNat i ep) Q' E s)
  (h:∀ h',h'.get? I=some (qh (.int nx 0) (i + 1) a es.size ep)->Heap.SameBut I s.heap h'->Q (some x) { s with heap:=h' }):wpAny (model prog w) A (pyNext (.ref I)) Q E s:=by
 unfold pyNext
 refine wpAny_bind (wpAny_attempt (wpAny_callSpecial?_slot (name:=Str.ofString "__next__") (dU hI) b9 (wpAny_call_entry b9 (dU hI) iH ?_ (iQ _))))
 unfold Builtin.«set_iterator.__next__»
 refine wpAny_bind (wpAny_pure (wpAny_bind (wpAny_fieldsOf hI rfl ?_)))
 show wpAny _ _ (setEntries a >>= _) _ _ _
 refine wpAny_bind (wpAny_setEntries_of ho hd hf ?_)
 show wpAny _ _ (if (((es.size:Nat):Int) != ((es.size:Nat):Int))=true then _ else _) _ _ _
 rw [if_neg (by simp)]
 show wpAny _ _ (setNext a sl.toNat ((i:Int)).toNat ((ep:Int)).toNat >>= _) _ _ _
 rw [Int.toNat_natCast,Int.toNat_natCast]
 refine wpAny_bind (hn _ _ _ ?_)
 show wpAny _ _ (setField (.ref I) 0 (rawInt nx) >>= _) _ _ _
 refine wpAny_bind (wpAny_setField hI rfl (by simp) ?_)
 have h1:=mr s.heap hI 0 (rawInt nx)
 refine wpAny_bind (wpAny_setField (s:={ s with heap:=s.heap.update I (Obj.mapFields (·.setIfInBounds 0 (rawInt nx))) }) h1 rfl (by simp) ?_)
 refine wpAny_pure ⟨_,rfl,wpAny_pure (h _ ?_ ((Heap.SameBut.update ..).trans (Heap.SameBut.update ..)))⟩
 exact Heap.get?_update_self _ h1 rfl
theorem w5 {M:Model} {Q:Fin->Shared->Prop} {E:Value->Shared->Prop} (hh:A.handled=none) (h:∀ h' e,(∀ b o,s.heap.get? b=some o->h'.get? b=some o)->(∃ o,h'.get? e=some o/\o.cls=.type "StopIteration")->E (.ref e) { s with heap:=h' }) :
  wpAny M A (newExc (.type "StopIteration") [] >>= fun e=>raiseNew e) Q E s:=by
 refine wpAny_bind ?_
 simp only [newExc,newTuple]
 refine wpAny_bind (wpAny_newObj_type ?_ (by size_fits))
 refine wpAny_bind (m:=firstArgMember _ _) (wpAny_of_eq (a:=Value.none) (by first | rfl | (simp only [firstArgMember]; rfl)) ?_)
 refine wpAny_newObj_type ?_ (by size_fits)
 refine wpAny_raiseNew_none hh (h _ _ (fun b o e=>Heap.get?_push_of_some _ (Heap.get?_push_of_some _ e)) ⟨_,Heap.get?_push_size _ rfl,rfl⟩)
theorem mQ {sl:Int} {Q:Option Value->Shared->Prop} (hh:A.handled=none) (hI:s.heap.get? I=some (qh (.int sl 0) i a es.size ep)) (ho:s.heap.get? a=some o) (hd:o.data=.set es ep t) (hf:t.fits es.size=true)
  (hn:∀ (A:Around) (E:Value->Shared->Prop) (Q':Option (Value×Nat)->Shared->Prop),Q' none s->wpAny (model prog w) A (setNext a sl.toNat i ep) Q' E s)
  (h:∀ h',(∀ b o,b≠I->s.heap.get? b=some o->h'.get? b=some o)->Q none { s with heap:=h' }):wpAny (model prog w) A (pyNext (.ref I)) Q E s:=by
 unfold pyNext
 refine wpAny_bind (wpAny_attempt (wpAny_callSpecial?_slot (name:=Str.ofString "__next__") (dU hI) b9 (wpAny_call_entry b9 (dU hI) iH ?_ (iQ _))))
 unfold Builtin.«set_iterator.__next__»
 refine wpAny_bind (wpAny_pure (wpAny_bind (wpAny_fieldsOf hI rfl ?_)))
 show wpAny _ _ (setEntries a >>= _) _ _ _
 refine wpAny_bind (wpAny_setEntries_of ho hd hf ?_)
 show wpAny _ _ (if (((es.size:Nat):Int) != ((es.size:Nat):Int))=true then _ else _) _ _ _
 rw [if_neg (by simp)]
 show wpAny _ _ (setNext a sl.toNat ((i:Int)).toNat ((ep:Int)).toNat >>= _) _ _ _
 rw [Int.toNat_natCast,Int.toNat_natCast]
 refine wpAny_bind (hn _ _ _ ?_)
 show wpAny _ _ (setField (.ref I) 2 .none >>= _) _ _ _
 refine wpAny_bind (wpAny_setField hI rfl (by simp) ?_)
 refine w5 (A:=A.in1) hh fun h' e kp ⟨oe,q1,q2⟩=>?_
 refine wpAny_bind (wpAny_isInstance (T:="StopIteration") (b:=true) ⟨oe,q1,q2⟩ isSubtype_stop ?_)
 exact wpAny_pure (h h' fun b ob nb e=>kp b ob ((Heap.get?_update_other _ _ (Ne.symm nb)).trans e))
theorem vj {tp:Addr} {c:Nat} {ps:List Nat} {x:Value} {k:Nat} {hk:Int} {Q:Option Value->Shared->Prop} (hI:s.heap.get? I=some (qh (.ref tp) i a es.size ep)) (ho:s.heap.get? a=some o) (hd:o.data=.set es ep t) (hf:t.fits es.size=true)
  (ht:s.heap.get? tp=some { cls:=.type "tuple",dict:=none,data:=.seq (ps.map fun (i:Nat)=>rawInt i).toArray c,slots:=#[] }) (hp:ps[i]?=some k) (hx:es[k]?=some (hk,x))
  (h:∀ h',h'.get? I=some (qh (.ref tp) (i + 1) a es.size ep)->Heap.SameBut I s.heap h'->Q (some x) { s with heap:=h' }):wpAny (model prog w) A (pyNext (.ref I)) Q E s:=by
 unfold pyNext
 refine wpAny_bind (wpAny_attempt (wpAny_callSpecial?_slot (name:=Str.ofString "__next__") (dU hI) b9 (wpAny_call_entry b9 (dU hI) iH ?_ (iQ _))))
 unfold Builtin.«set_iterator.__next__»
 refine wpAny_bind (wpAny_pure (wpAny_bind (wpAny_fieldsOf hI rfl ?_)))
 show wpAny _ _ (setEntries a >>= _) _ _ _
 refine wpAny_bind (wpAny_setEntries_of ho hd hf ?_)
 show wpAny _ _ (if (((es.size:Nat):Int) != ((es.size:Nat):Int))=true then _ else _) _ _ _
 rw [if_neg (by simp)]
 show wpAny _ _ (seqItems? (.ref tp) >>= _) _ _ _
 refine wpAny_bind (wpAny_seqItems ht rfl ?_)
 have e1:((ps.map fun (i:Nat)=>rawInt i).toArray)[((i:Nat):Int).toNat]?=some (.int k 0):=by
  rw [Int.toNat_natCast,List.getElem?_toArray,List.getElem?_map,hp]
  rfl
 dsimp only
 rw [e1]
 show wpAny _ _ (setNextDrawn a ((k:Nat):Int).toNat ((ep:Nat):Int).toNat >>= _) _ _ _
 rw [Int.toNat_natCast,Int.toNat_natCast]
 unfold setNextDrawn
 refine wpAny_bind (wpAny_bind (wpAny_setState_of ho hd hf ?_))
 show wpAny _ _ (if (ep != ep)=true then _ else _) _ _ _
 rw [if_neg (by simp)]
 refine wpAny_bind (wpAny_pure ?_)
 rw [hx]
 refine wpAny_pure ?_
 show wpAny _ _ (setField (.ref I) 1 (rawInt ((i:Int) + 1)) >>= _) _ _ _
 refine wpAny_bind (wpAny_setField hI rfl (by simp) (wpAny_pure ⟨_,rfl,wpAny_pure (h _ ?_ (Heap.SameBut.update ..))⟩))
 exact mr s.heap hI 1 (rawInt ((i:Int) + 1))
theorem uB {tp:Addr} {c:Nat} {ps:List Nat} {Q:Option Value->Shared->Prop} (hh:A.handled=none) (hI:s.heap.get? I=some (qh (.ref tp) i a es.size ep)) (ho:s.heap.get? a=some o) (hd:o.data=.set es ep t) (hf:t.fits es.size=true)
  (ht:s.heap.get? tp=some { cls:=.type "tuple",dict:=none,data:=.seq (ps.map fun (i:Nat)=>rawInt i).toArray c,slots:=#[] }) (hp:ps[i]?=none)
  (h:∀ h',(∀ b o,b≠I->s.heap.get? b=some o->h'.get? b=some o)->Q none { s with heap:=h' }):wpAny (model prog w) A (pyNext (.ref I)) Q E s:=by
 unfold pyNext
 refine wpAny_bind (wpAny_attempt (wpAny_callSpecial?_slot (name:=Str.ofString "__next__") (dU hI) b9 (wpAny_call_entry b9 (dU hI) iH ?_ (iQ _))))
 unfold Builtin.«set_iterator.__next__»
 refine wpAny_bind (wpAny_pure (wpAny_bind (wpAny_fieldsOf hI rfl ?_)))
 show wpAny _ _ (setEntries a >>= _) _ _ _
 refine wpAny_bind (wpAny_setEntries_of ho hd hf ?_)
 show wpAny _ _ (if (((es.size:Nat):Int) != ((es.size:Nat):Int))=true then _ else _) _ _ _
 rw [if_neg (by simp)]
 show wpAny _ _ (seqItems? (.ref tp) >>= _) _ _ _
 refine wpAny_bind (wpAny_seqItems ht rfl ?_)
 have e1:((ps.map fun (i:Nat)=>rawInt i).toArray)[((i:Nat):Int).toNat]?=none:=by
  rw [Int.toNat_natCast,List.getElem?_toArray,List.getElem?_map,hp]
  rfl
 dsimp only
 rw [e1]
 show wpAny _ _ (setField (.ref I) 0 (rawInt 0) >>= _) _ _ _
 refine wpAny_bind (wpAny_setField hI rfl (by simp) ?_)
 have h1:=mr s.heap hI 0 (rawInt 0)
 refine wpAny_bind (wpAny_setField (s:={ s with heap:=s.heap.update I (Obj.mapFields (·.setIfInBounds 0 (rawInt 0))) }) h1 rfl (by simp) ?_)
 refine w5 (A:=A.in1) hh fun h' e kp ⟨oe,q1,q2⟩=>?_
 refine wpAny_bind (wpAny_isInstance (T:="StopIteration") (b:=true) ⟨oe,q1,q2⟩ isSubtype_stop ?_)
 exact wpAny_pure (h h' fun b ob nb e=>kp b ob ((Heap.get?_update_other _ _ (Ne.symm nb)).trans ((Heap.get?_update_other _ _ (Ne.symm nb)).trans e)))
theorem tN {sl:Nat} {Q:Option (Value×Nat)->Shared->Prop} (b:xW w=true) (ho:s.heap.get? a=some o) (hd:o.data=.set es ep t) (hf:t.fits es.size=true)
  (h:Q (((pickOrder (w.params.setOrder a ep) es)[i]?).map fun e=>(e.2,sl)) s):wpAny (model prog w) A (setNext a sl i ep) Q E s:=by
 have hb:w.params.followText "set-order"=true:=b
 unfold setNext
 refine wpAny_bind (wpAny_setState_of ho hd hf (wpAny_bind (wpAny_bind (wpAny_askSetting (wpAny_pure ?_)))))
 show wpAny _ _ (if w.params.followText "set-order"=true then _ else _) _ _ _
 rw [hb,if_pos rfl]
 show wpAny _ _ (if (ep != ep)=true then _ else _) _ _ _
 rw [if_neg (by simp)]
 refine wpAny_bind ?_
 unfold setWalk
 refine wpAny_bind (wpAny_setState_of ho hd hf (wpAny_bind (wpAny_bind (wpAny_askSetting (wpAny_pure ?_)))))
 show wpAny _ _ (if w.params.followText "set-order"=true then _ else _) _ _ _
 rw [hb,if_pos rfl]
 exact wpAny_bind (wpAny_askSetting (wpAny_pure (wpAny_pure h)))
theorem vS {sl:Nat} {Q:Option (Value×Nat)->Shared->Prop} (b:xW w=false) (d:(!t.plain && decide (es.size > 1))=false) (hl:t.led=true) (ho:s.heap.get? a=some o) (hd:o.data=.set es ep t) (hf:t.fits es.size=true)
  (h:Q (match es[SetTable.below t.place sl]?,t.place[SetTable.below t.place sl]? with | some (_,x),some j=>some (x,j + 1) | _,_=>none) s):wpAny (model prog w) A (setNext a sl i ep) Q E s:=by
 have hb:w.params.followText "set-order"=false:=b
 unfold setNext
 refine wpAny_bind (wpAny_setState_of ho hd hf (wpAny_bind (wpAny_bind (wpAny_askSetting (wpAny_pure ?_)))))
 show wpAny _ _ (if w.params.followText "set-order"=true then _ else _) _ _ _
 rw [hb,if_neg Bool.false_ne_true]
 refine wpAny_bind (wpAny_pure ?_)
 show wpAny _ _ (if (!t.plain && decide (es.size > 1))=true then _ else _) _ _ _
 rw [d,if_neg Bool.false_ne_true]
 refine wpAny_bind ?_
 show wpAny _ _ (if (!t.led && !es.isEmpty)=true then _ else _) _ _ _
 rw [hl]
 show wpAny _ _ (if (false && !es.isEmpty)=true then _ else _) _ _ _
 rw [Bool.false_and,if_neg Bool.false_ne_true]
 exact wpAny_pure (wpAny_pure h)
end
end GX
namespace GX
open PySem PyProof.Rows
section
variable {prog:Program} {w:World} {A:Around} {E:Value->Shared->Prop} {s:Shared} {I a:Addr} {o:Obj} {es:Array (Int×Value)} {ep:Nat} {t:SetTable}
theorem qZ {i:Nat} {first:Value} {Q:Value->Shared->Prop} (hI:s.heap.get? I=some (qh first i a es.size ep)) (h:Q (.ref I) s):wpAny (model prog w) A (pyIter (.ref I)) Q E s:=by
 refine wpAny_pyIter_slot (dU hI) oZ (wpAny_call_entry oZ (dU hI) vU ?_ (xo _))
 show wpAny _ _ (ret (.ref I)) _ _ s
 exact wpAny_pure ⟨_,rfl,"set_iterator",_,dU hI,b9.lookup,h⟩
theorem zH (hh:A.handled=none) (b:xW w=true) (hd:o.data=.set es ep t) (hf:t.fits es.size=true) (ne:a≠I) :
  Walks prog w A I [I,a] [I] ((pickOrder (w.params.setOrder a ep) es).toList.map (·.2)).length (fun i v=>((pickOrder (w.params.setOrder a ep) es).toList.map (·.2))[i]?=some v)
   (fun i h=>(∃ sl:Nat,h.get? I=some (qh (.int sl 0) i a es.size ep))/\h.get? a=some o) where
 sub:=fun b hb=>List.mem_singleton.mp hb ▸ List.mem_cons_self
 frame:=fun i h h' st hk=>⟨let ⟨sl,e⟩:=st.1; ⟨sl,hk I (by simp) _ e⟩,hk a (by simp) _ st.2⟩
 item:=fun i s _ _ hi st hQ=>by
  obtain ⟨⟨sl,hI⟩,ho⟩:=st
  have hi':i < (pickOrder (w.params.setOrder a ep) es).size:=by simpa using hi
  refine mS (x:=((pickOrder (w.params.setOrder a ep) es)[i]).2) (nx:=sl) hI ho hd hf (fun A E Q' q=>tN b ho hd hf ?_) fun h' e sb=>hQ _ h' s.toks ?_ ⟨⟨sl,e⟩,(sb.2 a ne).trans ho⟩ fun c oc nc ec=>(sb.2 c (fun z=>nc (by simp [z]))).trans ec
  ·rw [Array.getElem?_eq_getElem hi']
   exact q
  ·rw [List.getElem?_map,Array.getElem?_toList,Array.getElem?_eq_getElem hi']
   rfl
 done:=fun s Q E st hQ=>by
  obtain ⟨⟨sl,hI⟩,ho⟩:=st
  refine mQ hh hI ho hd hf (fun A E Q' q=>tN b ho hd hf ?_) fun h' kp=>hQ h' s.toks fun c oc nc ec=>kp c oc (fun z=>nc (by simp [z])) ec
  rw [Array.getElem?_eq_none (by simp)]
  exact q
 self:=fun i s Q E st hQ=>let ⟨⟨_,hI⟩,_⟩:=st; qZ hI hQ
theorem Cq (hh:A.handled=none) (b:xW w=false) (d:(!t.plain && decide (es.size > 1))=false) (tb:Tb (!xW w) t) (hd:o.data=.set es ep t) (hf:t.fits es.size=true) (ne:a≠I) :
  Walks prog w A I [I,a] [I] (es.toList.map (·.2)).length (fun i v=>(es.toList.map (·.2))[i]?=some v)
   (fun i h=>(∃ sl:Nat,SetTable.below t.place sl=i/\h.get? I=some (qh (.int sl 0) i a es.size ep))/\h.get? a=some o) where
 sub:=fun b hb=>List.mem_singleton.mp hb ▸ List.mem_cons_self
 frame:=fun i h h' st hk=>⟨let ⟨sl,e1,e⟩:=st.1; ⟨sl,e1,hk I (by simp) _ e⟩,hk a (by simp) _ st.2⟩
 item:=fun i s _ _ hi st hQ=>by
  obtain ⟨⟨sl,e1,hI⟩,ho⟩:=st
  have hi':i < es.size:=by simpa using hi
  have hl:t.led=true:=by rw [tb.2,b]; rfl
  have hp:t.place.size=es.size:=by
   simp only [SetTable.fits,Bool.and_eq_true,beq_iff_eq,decide_eq_true_eq] at hf
   exact hf.1
  have hip:i < t.place.size:=by omega
  refine mS (x:=(es[i]).2) (nx:=t.place.getD i 0 + 1) hI ho hd hf (fun A E Q' q=>vS b d hl ho hd hf ?_) fun h' e sb=>hQ _ h' s.toks ?_ ⟨⟨t.place.getD i 0 + 1,yt tb.1 hip,e⟩,(sb.2 a ne).trans ho⟩ fun c oc nc ec=>(sb.2 c (fun z=>nc (by simp [z]))).trans ec
  ·rw [Int.toNat_natCast,e1,Array.getElem?_eq_getElem hi',Array.getElem?_eq_getElem hip]
   rw [Array.getD_eq_getD_getElem?,Array.getElem?_eq_getElem hip] at q
   exact q
  ·rw [List.getElem?_map,Array.getElem?_toList,Array.getElem?_eq_getElem hi']
   rfl
 done:=fun s Q E st hQ=>by
  obtain ⟨⟨sl,e1,hI⟩,ho⟩:=st
  have hl:t.led=true:=by rw [tb.2,b]; rfl
  refine mQ hh hI ho hd hf (fun A E Q' q=>vS b d hl ho hd hf ?_) fun h' kp=>hQ h' s.toks fun c oc nc ec=>kp c oc (fun z=>nc (by simp [z])) ec
  rw [Int.toNat_natCast,e1,Array.getElem?_eq_none (by simp)]
  exact q
 self:=fun i s Q E st hQ=>let ⟨⟨_,_,hI⟩,_⟩:=st; qZ hI hQ
theorem xP {tp:Addr} {c:Nat} {ps:List Nat} (hh:A.handled=none) (pm:ps.Perm (List.range es.size)) (hd:o.data=.set es ep t) (hf:t.fits es.size=true) (ne:a≠I) (nt:tp≠I) :
  Walks prog w A I [I,a,tp] [I] (ps.map fun i=>(es.getD i (0,.none)).2).length (fun i v=>(ps.map fun i=>(es.getD i (0,.none)).2)[i]?=some v)
   (fun i h=>h.get? I=some (qh (.ref tp) i a es.size ep)/\h.get? a=some o/\h.get? tp=some { cls:=.type "tuple",dict:=none,data:=.seq (ps.map fun (i:Nat)=>rawInt i).toArray c,slots:=#[] }) where
 sub:=fun b hb=>List.mem_singleton.mp hb ▸ List.mem_cons_self
 frame:=fun i h h' st hk=>⟨hk I (by simp) _ st.1,hk a (by simp) _ st.2.1,hk tp (by simp) _ st.2.2⟩
 item:=fun i s _ _ hi st hQ=>by
  obtain ⟨hI,ho,ht⟩:=st
  rw [List.length_map] at hi
  have hm:ps[i] < es.size:=List.mem_range.mp (pm.mem_iff.mp (List.getElem_mem hi))
  refine vj (x:=(es[ps[i]]).2) (hk:=(es[ps[i]]).1) hI ho hd hf ht (List.getElem?_eq_getElem hi) (Array.getElem?_eq_getElem hm) fun h' e sb=>hQ _ h' s.toks ?_ ⟨e,(sb.2 a ne).trans ho,(sb.2 tp nt).trans ht⟩ fun c oc nc ec=>(sb.2 c (fun z=>nc (by simp [z]))).trans ec
  rw [List.getElem?_map,List.getElem?_eq_getElem hi,Option.map_some,Array.getD_eq_getD_getElem?,Array.getElem?_eq_getElem hm]
  rfl
 done:=fun s Q E st hQ=>by
  obtain ⟨hI,ho,ht⟩:=st
  exact uB hh hI ho hd hf ht (List.getElem?_eq_none (by rw [List.length_map]; exact Nat.le_refl _)) fun h' kp=>hQ h' s.toks fun c oc nc ec=>kp c oc (fun z=>nc (by simp [z])) ec
 self:=fun i s Q E st hQ=>qZ st.1 hQ
theorem xS (es:Array (Int×Value)):(List.range es.size).map (fun i=>(es.getD i (0,Value.none)).2)=es.toList.map (·.2):=by
 apply List.ext_getElem?
 intro i
 rw [List.getElem?_map,List.getElem?_map,Array.getElem?_toList (xs:=es)]
 by_cases h:i < es.size
 ·rw [List.getElem?_eq_getElem (by rw [List.length_range]; exact h),List.getElem_range,Option.map_some,Array.getD_eq_getD_getElem?,Array.getElem?_eq_getElem h]
  rfl
 ·rw [List.getElem?_eq_none (by rw [List.length_range]; omega),Array.getElem?_eq_none (by omega)]
  rfl
theorem AK (hh:A.handled=none) (ho:s.heap.get? a=some o) (hx:o.ExactSet) (hd:o.data=.set es ep t) (hf:t.fits es.size=true) (hb:es.size < scanBound) (tb:Tb (!xW w) t) {Q:Value->Shared->Prop}
  (h:∀ (h':Heap) (d':Drawn) (I:Addr) (fp:List Addr) (vs:List Value) (St:Nat->Heap->Prop),(∀ b o,s.heap.get? b=some o->h'.get? b=some o)->s.heap.objs.size<=I->(∀ b∈fp,b=a∨s.heap.objs.size<=b)->vs.Perm (es.toList.map (·.2)) ->
   (∀ A:Around,A.handled=none->Walks prog w A I fp [I] vs.length (fun i v=>vs[i]?=some v) St)->St 0 h'->Q (.ref I) { s with heap:=h',drawn:=d' }):wpAny (model prog w) A (pyIter (.ref a)) Q E s:=by
 have hT:s.TypeIs (.ref a) "set":=⟨o,ho,hx.1⟩
 have la:=Heap.lt_size ho
 refine wpAny_pyIter_slot hT PySem.F.slot_set_iter (wpAny_call_entry PySem.F.slot_set_iter hT w6 ?_ (PySem.F.args_set_iter_1 _))
 unfold Builtin.«frozenset.__iter__» Builtin.Frozenset.slot0 Builtin.Frozenset.addrOf Builtin.Frozenset.sizeOf
 refine wpAny_bind (wpAny_bind (wpAny_pure (wpAny_pure (wpAny_bind (wpAny_bind (wpAny_setEntries_of ho hd hf (wpAny_pure ?_)))))))
 refine wpAny_bind ?_
 unfold setDrawn
 refine wpAny_bind (wpAny_setState_of ho hd hf (wpAny_bind (wpAny_bind (wpAny_askSetting (wpAny_pure (wpAny_pure ?_))))))
 show wpAny _ _ (if (!xW w && (!t.plain && decide (es.size > 1)))=true then _ else _) _ _ _
 cases hc:(!xW w && (!t.plain && decide (es.size > 1))) with
 | false =>
  rw [if_neg Bool.false_ne_true]
  refine wpAny_bind (wpAny_pure (wpAny_bind ?_))
  unfold setEpoch
  refine wpAny_bind (wpAny_setState_of ho hd hf (wpAny_pure ?_))
  refine wpAny_bind (wpAny_newObj_type (wpAny_pure ⟨_,rfl,"set_iterator",_,⟨_,Heap.get?_push_size _ rfl,rfl⟩,b9.lookup,?_⟩))
  have nI:a≠s.heap.objs.size:=Nat.ne_of_lt la
  have fpok:∀ b∈[s.heap.objs.size,a],b=a∨s.heap.objs.size<=b:=fun b hb=>by
   simp only [List.mem_cons,List.not_mem_nil,or_false] at hb
   rcases hb with z | z
   ·exact .inr (Nat.le_of_eq z.symm)
   ·exact .inl z
  cases hT:xW w with
  | true =>
   refine h _ s.drawn s.heap.objs.size [s.heap.objs.size,a] _ _ (fun b o e=>Heap.get?_push_of_some _ e) (Nat.le_refl _) fpok ((zx (w.params.setOrder a ep) es).map _) (fun A hA=>zH hA hT hd hf nI) ⟨⟨0,Heap.get?_push_size _ rfl⟩,Heap.get?_push_of_some _ ho⟩
  | false =>
   have hc':(!t.plain && decide (es.size > 1))=false:=by rw [hT] at hc; exact hc
   refine h _ s.drawn s.heap.objs.size [s.heap.objs.size,a] _ _ (fun b o e=>Heap.get?_push_of_some _ e) (Nat.le_refl _) fpok (.refl _) (fun A hA=>Cq hA hT hc' tb hd hf nI) ⟨⟨0,xU tb.1,Heap.get?_push_size _ rfl⟩,Heap.get?_push_of_some _ ho⟩
 | true =>
  rw [if_pos rfl]
  refine wpAny_bind (y6 es.size (List.range es.size) s _ (by rw [List.length_range]) fun ps d' pm=>wpAny_bind ?_)
  refine wpAny_newTuple (wpAny_bind ?_) ?_
  ·unfold setEpoch
   have ho':(s.heap.push { cls:=.type "tuple",data:=.seq (ps.map fun (i:Nat)=>rawInt i).toArray }).get? a=some o:=Heap.get?_push_of_some _ ho
   refine wpAny_bind (wpAny_setState_of ho' hd hf (wpAny_pure ?_))
   refine wpAny_bind (wpAny_newObj_type (wpAny_pure ⟨_,rfl,"set_iterator",_,⟨_,Heap.get?_push_size _ rfl,rfl⟩,b9.lookup,?_⟩))
   have sz:(s.heap.push { cls:=.type "tuple",data:=.seq (ps.map fun (i:Nat)=>rawInt i).toArray }).objs.size=s.heap.objs.size + 1:=Heap.size_push ..
   refine h _ d' (s.heap.push { cls:=.type "tuple",data:=.seq (ps.map fun (i:Nat)=>rawInt i).toArray }).objs.size [(s.heap.push { cls:=.type "tuple",data:=.seq (ps.map fun (i:Nat)=>rawInt i).toArray }).objs.size,a,s.heap.objs.size] (ps.map fun i=>(es.getD i (0,.none)).2) _
    (fun b o e=>Heap.get?_push_of_some _ (Heap.get?_push_of_some _ e)) (by rw [sz]; exact Nat.le_succ _) (fun b hb=>?_) ?_ (fun A hA=>xP (c:=0) hA pm hd hf (by rw [sz]; exact Nat.ne_of_lt (Nat.lt_succ_of_lt la)) (by rw [sz]; exact Nat.ne_of_lt (Nat.lt_succ_self _)))
    ⟨Heap.get?_push_size _ rfl,Heap.get?_push_of_some _ ho',Heap.get?_push_of_some _ (Heap.get?_push_size _ rfl)⟩
   ·simp only [List.mem_cons,List.not_mem_nil,or_false] at hb
    rcases hb with z | z | z
    ·exact .inr (by rw [z,sz]; exact Nat.le_succ _)
    ·exact .inl z
    ·exact .inr (Nat.le_of_eq z.symm)
   ·exact (pm.map _).trans (by rw [xS])
  ·rw [List.length_map,pm.length_eq,List.length_range]
   exact fits_of_scanBound hb
end
end GX
namespace GX
open PySem PyProof.Rows
theorem qB {α:Type} [DecidableEq α]:∀ {l m:List α},l.Nodup->(∀ x∈l,x∈m)->m.length<=l.length->m.Perm l
 | [],m,_,_,h=>by
  have e:m=[]:=List.eq_nil_of_length_eq_zero (Nat.le_zero.mp h)
  rw [e]
 | x :: l,m,nd,sub,h=>by
  rw [List.nodup_cons] at nd
  have hx:=sub x List.mem_cons_self
  have pm:=List.perm_cons_erase hx
  refine pm.trans (List.Perm.cons x (qB nd.2 (fun y hy=>?_) ?_))
  ·have hy':=sub y (List.mem_cons_of_mem _ hy)
   exact (List.mem_erase_of_ne (show y≠x from fun z=>nd.1 (z ▸ hy))).mpr hy'
  ·have:=pm.length_eq
   rw [List.length_cons] at this h
   omega
theorem pq (val:Nat->Int):∀ i,(firstMet val i).Nodup
 | 0=>List.nodup_nil
 | i + 1=>by
  rw [firstMet_succ]
  unfold step_dedup
  have ih:=pq val i
  by_cases h:List.any (firstMet val i) (· == val i)
  ·rw [if_pos h]
   exact ih
  ·rw [if_neg h,List.nodup_append]
   refine ⟨ih,by simp,fun x hx y hy e=>h ?_⟩
   rw [List.any_eq_true]
   refine ⟨x,hx,?_⟩
   have e2:=List.mem_singleton.mp hy
   rw [e,e2,beq_self_eq_true]
theorem ua (val:Nat->Int) (i:Nat) (k:Int):k∈firstMet val i↔∃ j,j < i/\val j=k:=by
 have h:=firstMet_any val i k
 rw [Bool.eq_iff_iff,List.any_eq_true,List.any_eq_true] at h
 constructor
 ·intro z
  obtain ⟨x,hx,e⟩:=h.mp ⟨k,z,by simp⟩
  obtain ⟨j,hj,ej⟩:=List.mem_map.mp hx
  exact ⟨j,List.mem_range.mp hj,by rw [ej]; simpa using e⟩
 ·rintro ⟨j,hj,e⟩
  obtain ⟨x,hx,e2⟩:=h.mpr ⟨val j,List.mem_map.mpr ⟨j,List.mem_range.mpr hj,rfl⟩,by simp [e]⟩
  have:x=k:=by simpa using e2
  rw [← this]
  exact hx
section
variable {prog:Program} {w:World} {A:Around} {E:Value->Shared->Prop} {s:Shared} {a:Addr} {o:Obj} {es:Array (Int×Value)} {ep:Nat} {t:SetTable}
theorem qF:∀ {l:List (Int×Value)},ElemsOf (intKind prog w) l->∃ ns,IntsAre (l.map (·.2)) ns/\∀ k,k∈ns↔∃ e∈l,(intKind prog w).is k e.2=true
 | [],_=>⟨[],.nil,fun k=>by simp⟩
 | e :: l,h=>by
  obtain ⟨ns,h1,h2⟩:=qF h.tail
  obtain ⟨⟨k,hk,_⟩,_⟩:=h.head
  obtain ⟨t,et⟩:=Value.isInt_shape (k:=k) (v:=e.2) hk
  refine ⟨k :: ns,?_,fun j=>?_⟩
  ·rw [List.map_cons,et]
   exact .cons k t h1
  ·rw [List.mem_cons,h2 j]
   constructor
   ·rintro (z | ⟨e',he,q⟩)
    ·exact ⟨e,List.mem_cons_self,by rw [z]; exact hk⟩
    ·exact ⟨e',List.mem_cons_of_mem _ he,q⟩
   ·rintro ⟨e',he,q⟩
    rcases List.mem_cons.mp he with z | z
    ·rw [z] at q
     exact .inl ((intKind prog w).inj e.2 j k q hk)
    ·exact .inr ⟨e',z,q⟩
theorem zy {vs us:List Value} {ns:List Int} (pm:vs.Perm us) (h:IntsAre us ns):∃ ms,IntsAre vs ms/\ms.Perm ns:=by
 induction pm generalizing ns with
 | nil=>exact ⟨ns,h,.refl _⟩
 | cons x p ih =>
  cases h with
  | cons n t hr =>
   obtain ⟨ms,h1,h2⟩:=ih hr
   exact ⟨n :: ms,.cons n t h1,h2.cons n⟩
 | swap x y l =>
  cases h with
  | cons n t hr =>
   cases hr with
   | cons m u hr=>exact ⟨_,.cons m u (.cons n t hr),List.Perm.swap ..⟩
 | trans p q ih1 ih2 =>
  obtain ⟨ms,h1,h2⟩:=ih2 h
  obtain ⟨ks,h3,h4⟩:=ih1 h1
  exact ⟨ks,h3,h4.trans h2⟩
theorem Bu {Q:Bool->Shared->Prop} (hT:s.TypeIs (.ref a) "set") (h:Q false s):wpAny (model prog w) A (Builtin.List.listLengthHint (.ref a)) Q E s:=by
 show wpAny _ _ (specialOf (.ref a) "__len__" >>= _) _ _ s
 refine wpAny_bind (wpAny_specialOf hT PySem.F.slot_set_len.lookup ?_)
 generalize hid:("set.__len__":String)=id0
 wp_delta
 rw [show splitId id0=some ("set","__len__") from by subst hid; decide +kernel]
 subst hid
 refine wpAny_bind (wpAny_isInstance (T:="set") (b:=true) hT (by rw [isSubtype_type]; kernel_rfl) ?_)
 refine wpAny_ite_split (fun z=>absurd z (by decide)) (fun _=>?_)
 refine wpAny_ite_split (fun _=>?_) (fun z=>absurd (by decide +kernel) z)
 exact wpAny_bind (wpAny_typeOf hT (wpAny_pure h))
theorem Ao {id:String} {B:Builtin} {args:Args} {R:Result->Shared->Prop} (he:entryFor table id=some B) (hp:plainId id=true)
  (h:wpAny (model prog w) A.in1 (B args) (fun f s1=>match f with | .done f=>R (.ok f) s1 | .again c=>c.quiet=true/\codeAny (model prog w) A c R s1) (fun e s1=>R (.error e) s1) s):codeAny (model prog w) A (.builtin id args) R s :=
 codeAny_builtin he (by rw [Around.under_plainId hp]; exact h)
theorem wV {S:Int->Bool} {n:Nat} {R:List Value->Shared->Prop} (hh:A.handled=none) (x:mB prog w s.heap a S n)
  (h:∀ (h':Heap) (d':Drawn) (tk:Nat) (vs:List Value) (ns:List Int),(∀ b o,s.heap.get? b=some o->h'.get? b=some o)->IntsAre vs ns->ns.length=n->(∀ k,k∈ns↔S k=true)->R vs { s with heap:=h',drawn:=d',toks:=tk }) :
  wpAny (model prog w) A (collect (.ref a)) R E s:=by
 obtain ⟨o,es,ep,t,ho,hx,hd,he,hm,hb,hf,hn,tb⟩:=x
 have la:=Heap.lt_size ho
 unfold collect
 refine wpAny_bind (wpAny_runValue (Ao entry_proto_collect' PySem.F.plain_proto_collect (wpAny_bind (wpAny_newObj_type (wpAny_pure ⟨plainId_quiet PySem.F.plain_list_iadd _,Ao entry_list_iadd' PySem.F.plain_list_iadd ?_⟩)))))
 have hS1:(s.heap.push { cls:=.type "list",data:=.seq ([]:List Value).toArray }).get? s.heap.objs.size=some { cls:=.type "list",data:=.seq #[] }:=Heap.get?_push_size _ rfl
 have ho1:(s.heap.push { cls:=.type "list",data:=.seq ([]:List Value).toArray }).get? a=some o:=Heap.get?_push_of_some _ ho
 have sz1:(s.heap.push { cls:=.type "list",data:=.seq ([]:List Value).toArray }).objs.size=s.heap.objs.size + 1:=Heap.size_push ..
 have kp1:∀ b ob,s.heap.get? b=some ob->(s.heap.push { cls:=.type "list",data:=.seq ([]:List Value).toArray }).get? b=some ob:=fun b ob e=>Heap.get?_push_of_some _ e
 show wpAny _ A.in1 (Builtin.List.listExtendWith (.ref s.heap.objs.size) (.ref a) (.ref s.heap.objs.size)) _ _ _
 generalize s.heap.push { cls:=.type "list",data:=.seq ([]:List Value).toArray }=H1 at hS1 ho1 sz1 kp1 ⊢
 show wpAny _ _ (typeOf (.ref a) >>= _) _ _ _
 refine wpAny_bind (wpAny_typeOf (T:="set") ⟨o,ho1,hx.1⟩ ?_)
 have n1:Builtin.List.listSameRef (.ref s.heap.objs.size) (.ref a)=false:=by simp [Builtin.List.listSameRef,Nat.ne_of_gt la]
 have n2:(Value.type "set" == Value.type "list")=false:=by decide
 have n3:(Value.type "set" == Value.type "tuple")=false:=by decide
 simp only [n1,n2,n3,Bool.or_false,Bool.false_eq_true,if_false]
 refine wpAny_bind (AK (s:={ s with heap:=H1 }) (A:=A.in1) hh ho1 hx hd hf hb tb fun h2 d2 I fp vs St k2 lI fpk pm W st=>?_)
 refine wpAny_bind (wpAny_holding (Bu (s:={ s with heap:=h2,drawn:=d2 }) ⟨o,k2 _ _ ho1,hx.1⟩ ?_))
 have hS2:=k2 _ _ hS1
 have nf:s.heap.objs.size∉fp:=fun z=>by
  rcases fpk _ z with q | q
  ·exact absurd la (by rw [← q]; exact Nat.lt_irrefl _)
  ·rw [sz1] at q
   exact absurd q (Nat.not_succ_le_self _)
 have hlen:vs.length=n:=by rw [pm.length_eq,List.length_map,Array.length_toList,hn]
 have nz:vs.length<=sizeLine:=by rw [hlen,← hn]; exact fits_of_scanBound hb
 refine wpAny_ite_split (fun _=>?_) (fun z=>absurd (by decide) z)
 refine wpAny_bind (wpAny_rule (wpAny_bind ?_))
 show wpAny _ _ (updateSeq s.heap.objs.size (·.push .none) >>= fun _=>updateSeq s.heap.objs.size (·.pop)) _ _ _
 refine wpAny_bind (wpAny_updateSeq hS2 rfl ?_)
 have hS3:=Heap.get?_update_self (Obj.mapSeq (·.push Value.none)) hS2 rfl
 refine wpAny_updateSeq (hz:=by seq_fits) hS3 rfl ?_
 have hS4:=Heap.get?_update_self (Obj.mapSeq (·.pop)) hS3 rfl
 have oth:∀ b ob,b≠s.heap.objs.size->h2.get? b=some ob->((h2.update s.heap.objs.size (Obj.mapSeq (·.push Value.none))).update s.heap.objs.size (Obj.mapSeq (·.pop))).get? b=some ob:=fun b ob nb e=>(Heap.get?_update_other _ _ (Ne.symm nb)).trans ((Heap.get?_update_other _ _ (Ne.symm nb)).trans e)
 refine wpAny_pure ⟨plainId_quiet PySem.F.plain_extend_loop _,codeAny_extend_loopS (W A.in1 hh).toS nz _ nf _ vs.length 0 _ #[] _ rfl (Nat.zero_le _) ((W A.in1 hh).frame 0 _ _ st fun b hb ob e=>oth b ob (fun z=>nf (z ▸ hb)) e) hS4 (ItemsOf.nil _) fun s' acc c' hmv hS' hacc=>?_⟩
 apply wpAny_bind (wpAny_load hS' _)
 have ea:acc.toList=vs:=by
  apply List.ext_getElem?
  intro j
  rw [Array.getElem?_toList]
  by_cases hj:j < acc.size
  ·rw [Array.getElem?_eq_getElem hj]
   exact (hacc.2 j _ (Array.getElem?_eq_getElem hj)).symm
  ·rw [Array.getElem?_eq_none (by omega),List.getElem?_eq_none (by rw [← hacc.1]; omega)]
 obtain ⟨ns0,q1,q2⟩:=qF he
 obtain ⟨ns,q3,q4⟩:=zy pm q1
 have ln:ns.length=n:=by rw [← q3.length,hlen]
 have:=h s'.heap s'.drawn s'.toks vs ns (fun b ob e=>hmv.heap b ob (fun z=>?_) (oth b ob (Nat.ne_of_lt (Heap.lt_size e)) (k2 b ob (kp1 b ob e)))) q3 ln (fun k=>by rw [q4.mem_iff,q2 k,hm k])
 ·obtain ⟨h',g',d',t',os'⟩:=s'
  have eg:g'=s.gens:=hmv.gens
  have eo:os'=s.os:=hmv.os
  subst eg eo
  show wpAny _ A (pure acc.toList) _ _ _
  rw [ea]
  exact wpAny_pure this
 ·have l1:=Heap.lt_size e
  rcases List.mem_cons.mp z with z | z
  ·rw [z] at l1
   exact Nat.lt_irrefl _ l1
  ·rw [List.mem_singleton.mp z] at l1
   have q:H1.objs.size<=I:=lI
   rw [sz1] at q
   exact absurd l1 (Nat.not_lt.mpr (Nat.le_trans (Nat.le_succ _) q))
end
end GX
namespace L2
open PySem PySem.Spec PyProof.Rows
def Dj (P:Program) (w:World) (a:Addr) (ks:List Int):HO:=.ext fun h=>GX.mB P w h a (fun k=>ks.any (· == k)) ks.length
section
variable {X:Cx}
theorem aV.draw {pins:List (Addr×Obj)} {σ:St} {H:Hp} {s:Shared} (I:aV X pins σ H s) (d:Drawn):aV X pins σ H { s with drawn:=d }:=⟨I.ok,I.os,I.bare,I.base,I.loc,I.cell,I.free,I.freeC,I.pin,I.hok,I.len⟩
theorem zA (hc:X.calm=true):fg X (.type "set") (fun xs H Q=>∃ (p:Addr) (ns:List Int),xs=[.ref p]/\bb X.K H p (ns.map V.int)/\ns.length<=1000/\∀ (q:Addr) (ks:List Int),H q=none->ks.Nodup->(∀ k,k∈ks↔k∈ns)->Q (.ref q) (upd H q (Dj X.prog X.w q ks))):=by
 intro pins s σ H xs us Q I r h
 obtain ⟨p,ns,rfl,hq,hz,q⟩:=h
 obtain ⟨u,rfl,rx⟩:=kS r
 cases rx
 obtain ⟨its,rv,pl,hzz⟩:=I.list hq
 have hi:IntsAre its ns:=xQ rv
 have hl:its.length=ns.length:=hi.length
 refine GX.xf (items:=its.toArray) (ns:=ns) (I.ok.hd hc) pl.isList (by simpa using hi) (by rw [List.size_toArray,hl]; unfold scanBound; omega) fun h' tk x kp=>?_
 have sz:its.toArray.size=ns.length:=by rw [List.size_toArray,hl]
 rw [sz] at x
 have new:cL X.prog X.w (upd H s.heap.objs.size (Dj X.prog X.w s.heap.objs.size (firstMet (fun i=>ns.getD i 0) ns.length))) h' s.heap.objs.size (Dj X.prog X.w s.heap.objs.size (firstMet (fun i=>ns.getD i 0) ns.length)):=by
  refine ⟨x,?_,fun h1 h2 y k=>y.at k⟩
  obtain ⟨o,_,_,_,ho,_⟩:=x
  exact ⟨o,ho⟩
 refine ⟨.ref s.heap.objs.size,_,I.laid (t':=tk) kp (Nat.le_refl _) new,rfl,q _ _ (I.hok.fresh (Nat.le_refl _)) (GX.pq _ _) fun k=>?_⟩
 rw [GX.ua]
 constructor
 ·rintro ⟨j,hj,e⟩
  rw [List.getD_eq_getElem?_getD,List.getElem?_eq_getElem hj] at e
  have e':ns[j]=k:=e
  rw [← e']
  exact List.getElem_mem hj
 ·intro hk
  obtain ⟨j,hj,e⟩:=List.getElem_of_mem hk
  refine ⟨j,hj,?_⟩
  rw [List.getD_eq_getElem?_getD,List.getElem?_eq_getElem hj]
  exact e
theorem uG (hc:X.calm=true):fg X (.builtin "sorted") (fun xs H Q=>∃ (a:Addr) (ks:List Int),xs=[.ref a]/\H a=some (Dj X.prog X.w a ks)/\ks.Nodup/\ks.length < 64/\∀ (l:Addr) (ns:List Int),H l=none->ns.Perm ks->ns.Pairwise (·<=·)->Q (.ref l) (upd H l (.lst (ns.map V.int)))):=by
 intro pins s σ H xs us Q I r h
 obtain ⟨a,ks,rfl,ha,nd,hlen,q⟩:=h
 obtain ⟨u,rfl,rx⟩:=kS r
 cases rx
 have x:GX.mB X.prog X.w s.heap a (fun k=>ks.any (· == k)) ks.length:=(I.hok a _ ha).1
 refine GX.tF (args_sorted1 _) (GX.wV (A:=X.A.in1) (I.ok.hd hc) x fun h' d' tk vs ns hk hi hl hm=>?_)
 have pm:ns.Perm ks:=GX.qB nd (fun k hk=>(hm k).mpr (List.any_eq_true.mpr ⟨k,hk,by simp⟩)) (Nat.le_of_eq hl)
 have hv:vs.length=ks.length:=by rw [hi.length,hl]
 have I1:aV X pins σ H { s with heap:=h',drawn:=d',toks:=tk }:=(I.draw d').kept (t':=tk) hk
 refine tq (s:={ s with heap:=h',drawn:=d',toks:=tk }) hi (by rw [hv]; exact hlen) (by rw [hv]; exact Nat.le_of_lt (aD (by omega))) fun h2 out ns' e k2 he a1 a2 a3=>?_
 have ln:ns'.length<=sizeLine:=by rw [a2.length_eq,hl]; exact Nat.le_of_lt (aD (by omega))
 exact ⟨.ref h'.objs.size,_,I1.lay_ints (tk:=tk) k2 he a1 ln,rfl,q _ ns' (I1.hok.fresh (Nat.le_refl _)) (a2.trans pm) a3⟩
theorem yq (hc:X.calm=true):fg X (.type "list") (fun xs H Q=>∃ (d:Addr) (m:List (Int×Int)),xs=[.ref d]/\Rd H d (.dK (dI m))/\m.length<=1000/\∀ (l:Addr),H l=none->Q (.ref l) (upd H l (.lst ((m.map (·.1)).map V.int)))):=by
 intro pins s σ H xs us Q I r h
 obtain ⟨d,m,rfl,hd,hlen,q⟩:=h
 obtain ⟨u,rfl,rx⟩:=kS r
 cases rx
 obtain ⟨z,hS,vs,rel,dd⟩:=kl I.hok hd
 obtain ⟨ep,hat⟩:=dd.dictAt
 have hl:vs.length=m.length:=by rw [← rel.length,oF]
 refine PySem.W.kdl_call (A:=X.A) (PySem.W.kdl_dict (knd:=bB X.prog X.w) (kvs:=vs) (ep:=ep) hS) (I.ok.hd hc) hat (by rw [hl]; exact Nat.le_of_lt (aD (by omega))) fun h' tk acc c hk he hacc=>?_
 have hi:IntsAre acc.toList (m.map (·.1)):=og (P:=X.prog) (w:=X.w) rel (by rw [Array.length_toList]; exact hacc.1) fun j v e=>hacc.2 j v (by rw [← Array.getElem?_toList]; exact e)
 exact ⟨.ref s.heap.objs.size,_,I.lay_ints (tk:=tk) (e:=c) hk he hi (by rw [List.length_map]; exact Nat.le_of_lt (aD (by omega))),rfl,q _ (I.hok.fresh (Nat.le_refl _))⟩
end
end L2
namespace GX
open PySem PyProof.Rows
section
variable {prog:Program} {w:World} {A:Around} {E:Value->Shared->Prop} {s:Shared} {I:Addr} {fp wr:List Addr} {N:Nat} {P:Nat->Value->Prop} {St:Nat->Heap->Prop}
end
end GX
namespace L2
open PySem PySem.Spec PyProof.Rows
section
variable {X:Cx}
abbrev G9 (H:Hp):List V->List (List (Int×Int))->Prop:=Paired fun x m=>∃ d,x=.ref d/\Rd H d (.dK (dI m))
theorem G9.get {H:Hp}:∀ {xs:List V} {ms:List (List (Int×Int))} {i:Nat} {x:V},G9 H xs ms->xs[i]?=some x->∃ m,ms[i]?=some m/\∃ d,x=.ref d/\Rd H d (.dK (dI m))
 | _,_,_,_,.nil,e=>by simp at e
 | _,_,0,_,.cons r _,e=>by simp at e; subst e; exact ⟨_,rfl,r⟩
 | _,_,i + 1,x,.cons _ t,e=>by
  obtain ⟨p,h1,h2⟩:=G9.get (i:=i) (x:=x) t (by simpa using e)
  exact ⟨p,by simpa using h1,h2⟩
end
end L2
namespace L2
open PySem PySem.Spec PyProof.Rows
section
variable {X:Cx}
end
end L2
namespace L2
open PySem PySem.Spec PyProof.Rows
mutual
inductive Dp (K:PySem.W.Frag) (H:Hp):V->PyData->Prop
 | none:Dp K H .non .none
 | bool (b:Bool):Dp K H (.bl b) (.bool b)
 | int (i:Int):Dp K H (.int i) (.int i)
 | str (x:Str):Dp K H (.str x) (.str x)
 | tup {a:Addr} {xs:List V} {ds:List PyData}:aZ K H a xs->vn K H xs ds->Dp K H (.ref a) (.tuple ds)
inductive vn (K:PySem.W.Frag) (H:Hp):List V->List PyData->Prop
 | nil:vn K H [] []
 | cons {x:V} {xs:List V} {d:PyData} {ds:List PyData}:Dp K H x d->vn K H xs ds->vn K H (x :: xs) (d :: ds)
end
def Hf (K:PySem.W.Frag) (H H':Hp):Prop:=∀ a xs,aZ K H a xs->aZ K H' a xs
theorem Hf.same {K:PySem.W.Frag} {H H':Hp} (e:aE H H'):Hf K H H':=by
 rintro a xs ((h | ⟨o,h⟩) | h)
 ·exact .inl (.inl (e _ _ h))
 ·exact .inl (.inr ⟨o,e _ _ h⟩)
 ·exact .inr h
mutual
theorem Dp.mono {K:PySem.W.Frag} {H H':Hp} (m:Hf K H H'):∀ {x:V} {d:PyData},Dp K H x d->Dp K H' x d
 | _,_,.none=>.none
 | _,_,.bool b=>.bool b
 | _,_,.int i=>.int i
 | _,_,.str x=>.str x
 | _,_,.tup h t=>.tup (m _ _ h) (vn.mono m t)
theorem vn.mono {K:PySem.W.Frag} {H H':Hp} (m:Hf K H H'):∀ {xs:List V} {ds:List PyData},vn K H xs ds->vn K H' xs ds
 | _,_,.nil=>.nil
 | _,_,.cons h t=>.cons (Dp.mono m h) (vn.mono m t)
end
section
variable {X:Cx} {pins:List (Addr×Obj)} {σ:St} {H:Hp} {s:Shared}
mutual
theorem Dp.reads (I:aV X pins σ H s):∀ {x:V} {d:PyData} {u:Value},Dp X.K H x d->RelV x u->∃ as,Reads s.heap u d as
 | _,_,_,.none,r=>by cases r; exact ⟨_,.none⟩
 | _,_,_,.bool b,r=>by cases r; exact ⟨_,.bool b⟩
 | _,_,_,.int i,r=>by obtain ⟨t,rfl⟩:=r; exact ⟨_,.int i t⟩
 | _,_,_,.str z,r=>by obtain ⟨t,rfl⟩:=r; exact ⟨_,.str z t⟩
 | _,_,_,.tup h t,r=>by
  cases r
  obtain ⟨its,rv,⟨o,e,c,n,dd⟩,_⟩:=I.tuple h
  obtain ⟨as,q⟩:=vn.reads I t rv
  exact ⟨_,.tuple e c dd (by simpa using q)⟩
theorem vn.reads (I:aV X pins σ H s):∀ {xs:List V} {ds:List PyData} {us:List Value},vn X.K H xs ds->Vals xs us->∃ as,ReadsAll s.heap us ds as
 | _,_,_,.nil,r=>by cases r; exact ⟨_,.nil⟩
 | _,_,_,.cons h t,r=>by
  cases r with
  | cons r1 r2 =>
   obtain ⟨as,q⟩:=Dp.reads I h r1
   obtain ⟨bs,q2⟩:=vn.reads I t r2
   exact ⟨_,.cons q q2⟩
end
def Dl (K:PySem.W.Frag) (H:Hp) (x:V) (d:PyData):Prop:=Dp K H x d∨∃ a xs ds,x=.ref a/\d=.list ds/\bb K H a xs/\vn K H xs ds
theorem Dl.reads (I:aV X pins σ H s) {x:V} {d:PyData} {u:Value} (h:Dl X.K H x d) (r:RelV x u):∃ as,Reads s.heap u d as:=by
 rcases h with h | ⟨a,xs,ds,rfl,rfl,h,t⟩
 ·exact Dp.reads I h r
 ·cases r
  obtain ⟨its,rv,⟨o,n,e,c,_,dd⟩,_⟩:=I.list h
  obtain ⟨as,q⟩:=vn.reads I t rv
  exact ⟨_,.list e c dd (by simpa using q)⟩
def F6 (K:PySem.W.Frag):R2:=fun x y H Q=>∃ d e,Dl K H x d/\Dl K H y e/\d.canLay0=true/\e.canLay0=true/\min d.depth e.depth<=60/\Q (.bl (d.eqv e)) H
def DX (K:PySem.W.Frag):R2:=fun x y H Q=>∃ d e,Dl K H x d/\Dl K H y e/\d.canLay0=true/\e.canLay0=true/\min d.depth e.depth<=60/\Q (.bl (!d.eqv e)) H
theorem CP (hu:X.A.units + 64 < cLine):j3 X (compareOp .Eq) (F6 X.K):=by
 intro pins s σ H x y v u Q I rx ry h
 obtain ⟨d,e,h1,h2,c1,c2,dp,q⟩:=h
 obtain ⟨as,r1⟩:=h1.reads I rx
 obtain ⟨bs,r2⟩:=h2.reads I ry
 exact SeqAt.compareEq_reads r1 r2 c1 c2 (by omega) ⟨.bl _,H,I,rfl,q⟩
theorem DL (hu:X.A.units + 64 < cLine):j3 X (compareOp .NotEq) (DX X.K):=by
 intro pins s σ H x y v u Q I rx ry h
 obtain ⟨d,e,h1,h2,c1,c2,dp,q⟩:=h
 obtain ⟨as,r1⟩:=h1.reads I rx
 obtain ⟨bs,r2⟩:=h2.reads I ry
 exact SeqAt.compareNe_reads r1 r2 c1 c2 (by omega) ⟨.bl _,H,I,rfl,q⟩
end
end L2
namespace L2
open PySem PySem.Spec PyProof.Rows
theorem aN {H:Hp} {l:Addr} {o:HO} (h:H l=none):aE H (upd H l o):=fun b u e=>by rw [aG (aI e h)]; exact e
def mL (d:Addr) (H H':Hp):Prop:=∀ b,b≠d->H' b=H b
theorem mL.upd {d:Addr} {H:Hp} {o:HO}:mL d H (L2.upd H d o):=fun b h=>aG h
theorem mL.same {d:Addr} {B H H':Hp} (e:mL d H H') (s:aE B H) (h:B d=none):aE B H':=fun b o hb=>by rw [e b (aI hb h)]; exact s b o hb
theorem mL.at {d b:Addr} {H H':Hp} {o:Option HO} (e:mL d H H') (n:b≠d) (h:H b=o):H' b=o:=by rw [e b n]; exact h
theorem mL.of {d b:Addr} {H H':Hp} {o u:HO} (e:mL d H H') (hd:H d=some u) (h:H b=some o) (n:o≠u):H' b=some o:=e.at (bK h hd n) h
def JA (xs:List V) (H:Hp) (Q:VK):Prop:=xs.length<=sizeLine/\∀ p,H p=none->Q (.ref p) (upd H p (.tup xs))
def JD (xs:List V) (H:Hp) (Q:VK):Prop:=xs.length<=sizeLine/\∀ p,H p=none->Q (.ref p) (upd H p (.lst xs))
section
variable {D:mI} {σ:St} {H:Hp} {Q:VK} {K:PySem.W.Frag}
theorem cK {t u:TS} (h:t { D with nx:=u D } σ H):w4 t u D σ H:=h
theorem Gq {te:TE} {g:TG} {u:TS} (h:te σ H fun x H1=>g x σ H1 (u D)):w4 (zw te g) u D σ H:=h
theorem FD {te:TE} {u:TS} (h:te σ H fun _ H1=>u D σ H1):w4 (BP te) u D σ H:=h
theorem GD {wi:TI} {g:TG} {tb u:TS} (h:CJ wi g tb { D with nx:=u D } σ H):w4 (CJ wi g tb) u D σ H:=h
theorem GA {ta tv:TE} {f:Str} {u:TS} (h:AU K ta tv f { D with nx:=u D } σ H):w4 (AU K ta tv f) u D σ H:=h
theorem FZ {c:TT} {te:TE} {u:TS} (h:c σ H fun b H1=>if b=true then te σ H1 D.rt else u D σ H1):w4 (FG c (DD te) Bh) u D σ H:=h
theorem bD (I:St->Hp->Prop) {t u:TS} (h2:∀ σ' H',I σ' H'->u D σ' H') (h:∀ N:St->Hp->Prop,(∀ σ' H',I σ' H'->N σ' H')->t { D with nx:=N } σ H):w4 t u D σ H:=h _ h2
theorem GF (h:D.nx σ H):Bh D σ H:=h
theorem Hu {te:TE} (h:te σ H D.rt):DD te D σ H:=h
theorem FF (h:D.rt .non H):EB D σ H:=h
theorem Gr {te:TE} (h:te σ H fun _ H1=>D.nx σ H1):BP te D σ H:=h
theorem HZ {te:TE} {g:TG} (h:te σ H fun x H1=>g x σ H1 D.nx):zw te g D σ H:=h
theorem HL {c:TT} {t u:TS} (h:c σ H fun b H1=>if b=true then t D σ H1 else u D σ H1):FG c t u D σ H:=h
theorem FX {i:Nat} {v:V} {R:St->Hp->Prop} (h:R (σ.set i (some v)) H):pf i v σ H R:=h
theorem F1 {R:St->Hp->Prop} (h:R σ H):Fs [] σ H R:=⟨rfl,h⟩
theorem DT {t:TG} {u:Cs} {v:V} {r:List V} {R:St->Hp->Prop} (h:t v σ H fun σ' H'=>u r σ' H' R):zp t u (v :: r) σ H R:=⟨v,r,rfl,h⟩
theorem FI {n:Nat} {t:Cs} {a:Addr} {xs:List V} {R:St->Hp->Prop} (h1:aZ K H a xs) (h2:xs.length=n) (h:t xs σ H R):Ca K n t (.ref a) σ H R:=⟨a,xs,rfl,h1,h2,h⟩
theorem IB {i:Nat} {v:V} (h1:σ[i]?=some (some v)) (h:Q v H):zG i σ H Q:=⟨v,h1,h⟩
theorem JK {v:V} (h:Q v H):tC v σ H Q:=h
theorem Jl {r:R2} {ta tb:TE} (h:ta σ H fun x H1=>tb σ H1 fun y H2=>r x y H2 Q):GS r ta tb σ H Q:=h
theorem Je {r:V->Hp->VK->Prop} {ta:TE} (h:ta σ H fun x H1=>r x H1 Q):JI r ta σ H Q:=h
theorem Jq {g:Int->Int->V} {i j:Int} (h:Q (g i j) H):zM g (.int i) (.int j) H Q:=⟨i,j,rfl,rfl,h⟩
theorem JM {C:Int->Int->Prop} {g:Int->Int->V} {i j:Int} (hc:C i j) (h:Q (g i j) H):rI C g (.int i) (.int j) H Q:=⟨i,j,rfl,rfl,hc,h⟩
theorem JL {g:Int->V} {i:Int} (h:Q (g i) H):rU g (.int i) H Q:=⟨i,rfl,h⟩
theorem Io (i j:Int):decide (V.int i=V.int j)=decide (i=j):=by
 by_cases h:i=j
 ·subst h; rw [decide_eq_true rfl,decide_eq_true rfl]
 ·rw [decide_eq_false h,decide_eq_false (fun e=>h (V.int.inj e))]
theorem HR (i j:Str):decide (V.str i=V.str j)=decide (i=j):=by
 by_cases h:i=j
 ·subst h; rw [decide_eq_true rfl,decide_eq_true rfl]
 ·rw [decide_eq_false h,decide_eq_false (fun e=>h (V.str.inj e))]
theorem II {i j:Int} (h:Q (.bl (decide (i=j))) H):Jk (.int i) (.int j) H Q:=⟨rfl,by rw [Io]; exact h⟩
theorem Iq {i j:Int} (h:Q (.bl (!decide (i=j))) H):Jf (.int i) (.int j) H Q:=⟨rfl,by rw [Io]; exact h⟩
theorem IJ {i j:Str} (h:Q (.bl (decide (i=j))) H):Jk (.str i) (.str j) H Q:=⟨rfl,by rw [HR]; exact h⟩
theorem HC {i j:Str} (h:Q (.bl (!decide (i=j))) H):Jf (.str i) (.str j) H Q:=⟨rfl,by rw [HR]; exact h⟩
theorem Gs {t:TE} {R:Bool->Hp->Prop} (h:t σ H fun x H'=>∃ k,x=.bl k/\R k H'):Bs t σ H R:=h
theorem Ih {t:TE} {R:Bool->Hp->Prop} (h:t σ H fun x H'=>∃ k,BM K x H' k/\R k H'):Fw K t σ H R:=h
theorem E4 {c:Bool} {P:Bool->Prop} (h:P c):∃ k,V.bl c=.bl k/\P k:=⟨c,rfl,h⟩
theorem D5 {c:Bool} {P:Bool->Prop} (h:P c):∃ k,BM K (.bl c) H k/\P k:=⟨c,rfl,h⟩
theorem Hb {t u:TT} {R:Bool->Hp->Prop} (h:t σ H fun c H1=>if c=true then u σ H1 R else R false H1):Iv t u σ H R:=h
theorem Jc {t u:TT} {R:Bool->Hp->Prop} (h:t σ H fun c H1=>if c=true then R true H1 else u σ H1 R):JH t u σ H R:=h
theorem Hi {t:TT} {R:Bool->Hp->Prop} (h:t σ H fun c H1=>R (!c) H1):Ie t σ H R:=h
theorem F5 {ta tb:TE} (h:ta σ H fun x H1=>∃ c,x=.bl c/\if c=true then tb σ H1 Q else Q (.bl false) H1):En ta tb σ H Q:=h
theorem HN {ta tb:TE} (h:ta σ H fun x H1=>∃ c,x=.bl c/\if c=true then Q (.bl true) H1 else tb σ H1 Q):Hn ta tb σ H Q:=h
theorem GL {ta:TE} (h:ta σ H fun x H1=>∃ c,x=.bl c/\Q (.bl (!c)) H1):Es ta σ H Q:=h
theorem HF {t:TT} {ta tb:TE} (h:t σ H fun c H1=>if c=true then ta σ H1 Q else tb σ H1 Q):JG t ta tb σ H Q:=h
theorem HM {R:List V->Hp->Prop} (h:R [] H):BR σ H R:=h
theorem Fn {ta:TE} {tr:TA} {R:List V->Hp->Prop} (h:ta σ H fun x H1=>tr σ H1 fun xs H2=>R (x :: xs) H2):yV ta tr σ H R:=h
theorem Ig {t:TA} (h:t σ H fun xs H1=>JA xs H1 Q):Fp t σ H Q:=h
theorem HI {t:TA} (h:t σ H fun xs H1=>JD xs H1 Q):Hd t σ H Q:=h
theorem G0 {xs:List V} (hl:xs.length<=sizeLine) (h:∀ p H',H p=none->aE H H'->H' p=some (.tup xs)->Q (.ref p) H'):JA xs H Q:=⟨hl,fun p hp=>h p _ hp (aN hp) au⟩
theorem G8 {xs:List V} (hl:xs.length<=sizeLine) (h:∀ p H',H p=none->aE H H'->H' p=some (.lst xs)->Q (.ref p) H'):JD xs H Q:=⟨hl,fun p hp=>h p _ hp (aN hp) au⟩
theorem FJ (h:∀ p H',H p=none->aE H H'->H' p=some (.dK (dI []))->Q (.ref p) H'):AD σ H Q:=fun p hp=>h p _ hp (aN hp) au
theorem FW {sp:Sp} {dvs:List V} {E:XK} {t:TA} (h:t σ H fun vs H1=>sp (vs ++ dvs) H1 Q E):yN sp dvs E t σ H Q:=h
theorem Jh {r:List V->Hp->VK->Prop} {t:TA} (h:t σ H fun vs H1=>r vs H1 Q):IV r t σ H Q:=h
theorem Jr {r:V->Option Int->Option Int->Hp->VK->Prop} {te:TE} {tl th:TO} (h:te σ H fun x H1=>tl σ H1 fun l H2=>th σ H2 fun u H3=>r x l u H3 Q):JF r te tl th σ H Q:=h
theorem Aj {R:Option Int->Hp->Prop} (h:R none H):yY σ H R:=h
theorem E8 {t:TE} {R:Option Int->Hp->Prop} (h:t σ H fun x H1=>∃ i,x=.int i/\R (some i) H1):El t σ H R:=h
theorem DS {c:Int} {P:Int->Prop} (h:P c):∃ k,V.int c=.int k/\P k:=⟨c,rfl,h⟩
theorem Hr {a:Addr} {xs:List V} {lo hi:Option Int} (h1:bb K H a xs) (h:∀ p H',H p=none->aE H H'->H' p=some (.lst (ja xs lo hi))->Q (.ref p) H'):Ge K (.ref a) lo hi H Q:=⟨a,xs,rfl,h1,fun p hp=>h p _ hp (aN hp) au⟩
theorem HV {a:Addr} {xs:List V} {i:Int} {v:V} (h1:bb K H a xs) (h2:jG xs i=some v) (h:Q v H):FT K (.ref a) (.int i) H Q:=⟨a,xs,i,v,rfl,rfl,h1,h2,h⟩
theorem HB {a:Addr} {xs:List V} {i:Int} {v:V} (h1:aZ K H a xs) (h2:jG xs i=some v) (h:Q v H):Gk K (.ref a) (.int i) H Q:=⟨a,xs,i,v,rfl,rfl,h1,h2,h⟩
theorem FP {td ty:TE} (h:td σ H fun x H1=>ty σ H1 fun y H2=>∃ a v,x=.ref a/\mJ H2 a y (some v)/\Q v H2):ED td ty σ H Q:=h
theorem E9 {d:Addr} {m:List (Int×Int)} {k n:Int} {P:V->Prop} (hd:Rd H d (.dK (dI m))) (hk:lA m k=some n) (h:P (.int n)):∃ a v,V.ref d=.ref a/\mJ H a (.int k) (some v)/\P v :=
 ⟨d,.int n,rfl,.inl ⟨_,Sum.inl k,hd,rfl,by rw [rQ,hk]; rfl⟩,h⟩
theorem Dy {td ty tx:TE} (h:td σ H fun x H1=>∃ a,x=.ref a/\Ht H1 a/\ty σ H1 fun y H2=>tx σ H2 fun z H3=>∃ o,mJ H3 a y o/\Q (o.getD z) H3):Bm td ty tx σ H Q:=h
theorem EZ {d:Addr} {m:List (Int×Int)} {k:Int} {P:Option V->Prop} (hd:Rd H d (.dK (dI m))) (h:P ((lA m k).map V.int)):∃ o,mJ H d (.int k) o/\P o :=
 ⟨_,.inl ⟨_,Sum.inl k,hd,rfl,(rQ m k).symm⟩,h⟩
theorem zh (o:Option Int) (z:Int):(o.map V.int).getD (V.int z)=V.int (o.getD z):=by cases o <;> rfl
theorem IK {td ty:TE} (h:ty σ H fun y H1=>td σ H1 fun x H2=>∃ a o,x=.ref a/\mJ H2 a y o/\Q (.bl o.isSome) H2):Il ty td σ H Q:=h
theorem EK {td ty tv:TE} (h:tv σ H fun v H1=>td σ H1 fun x H2=>ty σ H2 fun y H3=>∃ a H4,x=.ref a/\D4 H3 a y v H4/\D.nx σ H4):Ec td ty tv D σ H:=h
theorem Bp {d:Addr} {m:List (Int×Int)} {k n:Int} {P:Hp->Prop} (hd:H d=some (.dK (dI m))) (nd:(m.map (·.1)).Nodup) (hl:m.length < sizeLine) (h:∀ H2,mL d H H2->H2 d=some (.dK (dI (fJ m k n)))->P H2):∃ a H4,V.ref d=.ref a/\D4 H a (.int k) (.int n) H4/\P H4 :=
 ⟨d,_,rfl,.inl ⟨_,Sum.inl k,hd,rfl,by rw [oF]; exact hl,rfl⟩,h _ .upd (by rw [au,ym m k n nd])⟩
theorem Hg {wi:TI} {g:TG} {tb:TS} (h:wi σ H fun J H1=>∃ W:Nat->Nat->St->Hp->Prop,(∃ m,W 0 m σ H1)/\∀ i m σ H,W i m σ H ->
 (J.stop i H/\D.nx σ H)∨(J.go i H/\∃ N:St->Hp->Prop,(∀ σ' H',N σ' H'->∃ m',m' < m/\W (i + 1) m' σ' H')/\∀ x H',J.yld i H x H'->g x σ H' fun σ2 H2=>tb { D with nx:=N,ct:=N,bk:=D.nx } σ2 H2)):CJ wi g tb D σ H:=h
theorem DB {tl:TE} {R:It->Hp->Prop} (h:tl σ H fun x H1=>∃ a,x=.ref a/\(∃ xs,bb K H1 a xs)/\R (Cv K a) H1):AW K tl σ H R:=h
theorem Ff {a:Addr} {xs:List V} {P:Addr->Prop} (hd:bb K H a xs) (h:P a):∃ b,V.ref a=.ref b/\(∃ xs,bb K H b xs)/\P b:=⟨a,rfl,⟨xs,hd⟩,h⟩
theorem E2 {tl:TE} {R:It->Hp->Prop} (h:tl σ H fun x H1=>∃ a,x=.ref a/\(∃ xs,aZ K H1 a xs)/\R (Ct K a) H1):Fz K tl σ H R:=h
theorem Fv {a:Addr} {xs:List V} {P:Addr->Prop} (hd:aZ K H a xs) (h:P a):∃ b,V.ref a=.ref b/\(∃ xs,aZ K H b xs)/\P b:=⟨a,rfl,⟨xs,hd⟩,h⟩
theorem IH {ta:TA} {R:It->Hp->Prop} (h:ta σ H fun vs H1=>∃ j:Int,vs=[.int j]/\-(2 ^ 62)<=j/\j < 2 ^ 62/\R (Cr 0 j.toNat) H1):Ep ta σ H R:=h
theorem IZ {T:String} {r:V->List V->Hp->VK->Prop} {to:TE} {t:TA} (h:to σ H fun x H1=>Hj K T x H1/\t σ H1 fun xs H2=>r x xs H2 Q):GU K T r to t σ H Q:=h
theorem Hm {a:Addr} {xs:List V} {P:Prop} (hd:H a=some (.lst xs)) (h:P):Hj K "list" (.ref a) H/\P:=⟨.inl ⟨rfl,_,bb.of hd⟩,h⟩
theorem qO {a:Addr} {xs:List V} {y:V} (hd:H a=some (.lst xs)) (hl:xs.length < sizeLine) (h:∀ H2,mL a H H2->H2 a=some (.lst (xs ++ [y]))->Q .non H2):qj (.ref a) [y] H Q:=⟨a,xs,y,rfl,rfl,hd,hl,h _ .upd au⟩
theorem FA {src:List (Option Nat)} {wi:TI} {g:TG} {tt:TT} {te:TE} (h:wi σ H fun J H1=>∀ D,H1 D=none->∃ W:Nat->Nat->St->Hp->Prop,(∃ m,W 0 m (pb src σ) (upd H1 D (.lst []))) /\
 ∀ i m σ' H',W i m σ' H'->(J.stop i H'/\Q (.ref D) H')∨(J.go i H'/\∃ N:St->Hp->Prop,(∀ σ2 H2,N σ2 H2->∃ m',m' < m/\W (i + 1) m' σ2 H2) /\
  ∀ x H'',J.yld i H' x H''->jc g tt te D N x σ' H'')):yR src wi g tt te σ H Q:=h
end
theorem D8 {A B:Prop} (h:B):if (!true)=true then A else B:=h
theorem GY {A B:Prop} (h:A):if (!false)=true then A else B:=h
end L2
namespace L2
open PySem PySem.Spec PyProof.Rows
section
variable {X:Cx} {K:PySem.W.Frag}
theorem ao (hK:X.K=K):HU X (Gk K):=by subst hK; exact Fj
theorem aM (hK:X.K=K):HU X (FT K):=by subst hK; exact CF
theorem jf (hK:X.K=K):GR X (Ge K):=by subst hK; exact CO
theorem iM (hK:X.K=K):GR X (Ds K):=by subst hK; exact B6
theorem Fm (hK:X.K=K) (hu:X.A.units + 64 < cLine):j3 X (compareOp .Eq) (F6 K):=by subst hK; exact CP hu
theorem yz (hK:X.K=K) (hu:X.A.units + 64 < cLine):j3 X (compareOp .NotEq) (DX K):=by subst hK; exact DL hu
theorem xa (hK:X.K=K):j3 X (binaryOp .Add) (AX K):=by subst hK; exact y9
def HG (K:PySem.W.Frag):List V->Hp->VK->Prop:=fun xs H Q=>∃ p ys,xs=[.ref p]/\(bb K H p ys∨aZ K H p ys)/\Q (.int ys.length) H
theorem bQ (hK:X.K=K):fg X (.builtin "len") (HG K):=by subst hK; exact ue
def uA (K:PySem.W.Frag):List V->Hp->VK->Prop:=fun xs H Q=>∃ p ys,xs=[.ref p]/\(bb K H p ys∨aZ K H p ys)/\∀ l,H l=none->Q (.ref l) (upd H l (.lst ys))
theorem my (hK:X.K=K):fg X (.type "list") (uA K):=by subst hK; exact uv
def vO (K:PySem.W.Frag):List V->Hp->VK->Prop:=fun xs H Q=>∃ p ys,xs=[.ref p]/\((bb K H p ys/\∀ l,H l=none->Q (.ref l) (upd H l (.tup ys)))∨(aZ K H p ys/\Q (.ref p) H))
theorem o5 (hK:X.K=K):fg X (.type "tuple") (vO K):=by subst hK; exact sX
def Jv (K:PySem.W.Frag):List V->Hp->VK->Prop:=fun xs H Q=>∃ (x:V) (t:Value) (T:String) (b:Bool),xs=[x,.ty T]/\mV K H x t/\PySem.W.kitOne K t (.type T)=some b/\Q (.bl b) H
theorem oo (hK:X.K=K):fg X (.builtin "isinstance") (Jv K):=by subst hK; exact wX
theorem cY {es:List Expr} {k:Nat} {t:Cs} {n:Nat} {pos:Pos} (hK:X.K=K) (hc:X.calm=true) (h:Hh X es t) (hn:(assignEach es X.env).length=n:=by rfl) (hst:(assignEach es X.env).findIdx? (·.1)=none:=by rfl):PG X (.Tuple es k pos) (Ca K n t):=by subst hK; exact GI hc h hn hst
theorem bz {tg l:Expr} {tl:TE} (hK:X.K=K) (hl:PE X l tl):PI X tg l (AW K tl):=by subst hK; exact CQ hl
theorem zf {tg l:Expr} {tl:TE} (hK:X.K=K) (hl:PE X l tl):PI X tg l (Fz K tl):=by subst hK; exact EY hl
theorem CK {tg l:Expr} {tl:TE} (hK:X.K=K) (hl:PE X l tl):PI X tg l (IC K tl):=by subst hK; exact EI hl
theorem je {x:Str} {pos:Pos} {t:TE} (hK:X.K=K) (h:PE X (.Name x pos) t):PT X (.Name x pos) (Fw K t):=by
 subst hK
 exact wa h fun _=>rfl
theorem cB {o e:Expr} {to:TE} {t:TA} {apos cpos:Pos} (hK:X.K=K) (h:PE X (.Call (.Attribute o "append" apos) [e] [] cpos) (GU X.K "list" qj to t)):PE X (.Call (.Attribute o "append" apos) [e] [] cpos) (GU K "list" qj to t):=by subst hK; exact h
end
section
variable {σ:St} {H:Hp} {Q:VK} {K:PySem.W.Frag}
theorem BO {a:Addr} {xs:List V} (hd:bb K H a xs) (h:∀ p H',H p=none->aE H H'->H' p=some (.lst xs)->Q (.ref p) H'):uA K [.ref a] H Q:=⟨a,xs,rfl,.inl hd,fun p hp=>h p _ hp (aN hp) au⟩
theorem Ai {a:Addr} {xs:List V} (hd:aZ K H a xs) (h:∀ p H',H p=none->aE H H'->H' p=some (.lst xs)->Q (.ref p) H'):uA K [.ref a] H Q:=⟨a,xs,rfl,.inr hd,fun p hp=>h p _ hp (aN hp) au⟩
theorem D2 {a:Addr} {xs:List V} (hd:bb K H a xs) (h:∀ p H',H p=none->aE H H'->H' p=some (.tup xs)->Q (.ref p) H'):vO K [.ref a] H Q:=⟨a,xs,rfl,.inl ⟨hd,fun p hp=>h p _ hp (aN hp) au⟩⟩
end
end L2
namespace L2
open PySem PySem.Spec PyProof.Rows
theorem Cg (ns:List Int) (lo hi:Option Int):∃ ms:List Int,ja (ns.map V.int) lo hi=ms.map V.int/\ms.length<=ns.length:=by
 refine ⟨(ns.drop (HT.dF (ns.map V.int).length 0 lo)).take (HT.dF (ns.map V.int).length (ns.map V.int).length hi - HT.dF (ns.map V.int).length 0 lo),?_,?_⟩
 ·unfold ja
  rw [List.map_take,List.map_drop]
 ·rw [List.length_take,List.length_drop]
  omega
theorem nU {H H':Hp} {a:Addr} {u:HO} (s:aE H H') (h:Rd H a u):Rd H' a u:=by
 rcases h with h | ⟨o,h⟩
 ·exact .inl (s _ _ h)
 ·exact .inr ⟨o,s _ _ h⟩
theorem bx {α:Type} {ls:List α} {i:Nat} {n:α} (h:ls[i]?=some n):ls.take (i + 1)=ls.take i ++ [n]:=by
 rw [List.take_succ,h]
 rfl
theorem uM {ms:List Int} {i:Nat} {x:V} (h:(ms.map V.int)[i]?=some x):∃ n:Int,ms[i]?=some n/\x=.int n:=by
 rw [List.getElem?_map] at h
 cases e:ms[i]? with
 | none=>rw [e] at h; cases h
 | some n=>rw [e] at h; exact ⟨n,rfl,(Option.some.inj h).symm⟩
theorem uS {α:Type} {xs:List α} {i:Int} {v:α} (h0:0<=i) (h:xs[i.toNat]?=some v):jG xs i=some v:=by
 obtain ⟨n,rfl⟩:=Int.eq_ofNat_of_zero_le h0
 exact cR h
def eW (H H':Hp):Prop:=∀ a xs,H a=some (.tup xs)->H' a=some (.tup xs)
theorem eW.refl (H:Hp):eW H H:=fun _ _ h=>h
theorem eW.trans {H1 H2 H3:Hp} (a:eW H1 H2) (b:eW H2 H3):eW H1 H3:=fun _ _ h=>b _ _ (a _ _ h)
theorem eW.same {H H':Hp} (e:aE H H'):eW H H':=fun _ _ h=>e _ _ h
theorem eW.but {H H':Hp} {l:Addr} {o:HO} (e:mL l H H') (h:H l=some o) (n:∀ xs,o≠.tup xs):eW H H':=fun a xs z=>e.of h z (Ne.symm (n xs))
section
variable {σ:St} {H:Hp} {Q:VK} {K:PySem.W.Frag} {X:Cx}
theorem CW {a:Addr} {xs:List V} (hd:bb K H a xs∨aZ K H a xs) (h:Q (.int xs.length) H):HG K [.ref a] H Q:=⟨a,xs,rfl,hd,h⟩
end
theorem Cb {P:Prop} (h:P):V.non=V.non/\P:=⟨rfl,h⟩
end L2
namespace L2
open PySem PySem.Spec PyProof.Rows
section
variable {X:Cx} {CX:yi} {k:Nat} {f C:Addr} {fd:FuncData} {ps:List Str} {sp:Sp} {dvs:List V} {ds:List Value} {E:XK} {x m:Str} {p pos apos:Pos} {e o:Expr} {es:List Expr} {ta:TE} {t:TA}
structure HA (K:PySem.W.Frag) (C:Addr) (m:Str) (f:Addr):Prop where
 ga:PySem.W.specialIn K (.ref C) "__getattribute__"=some (some (.builtin "type.__getattribute__"))
 rd:PySem.W.readsIn K C (.type "type")=true
 at_:PySem.W.findCls K (.ref C) (.type "type") m=some (.val (.ref f))
 hd:PySem.W.handedIn (.ref f)=true
 kp:PySem.W.keepIn K (.ref f)=true
theorem HJ {pl:Sem Bool} (hg:Gl X x) (hm:X.mg x=some (.ref C)) (c:HA X.K C m f) (F:aT X.prog X.w X.K X.mg X.base cy k f fd ps sp) (hb:Binds X.K fd ps []) (hr:eM k X.A) (ha:PA X (e :: es) t)
  (hdb:(x == ("__debug__":Str))=false:=by decide)
  (hst:starEach (e :: es) X.env=(false,eval e X.env) :: starEach es X.env:=by rfl) (hpl:(backTo pos (starEach es X.env)).any (·.1)=false:=by rfl)
  (ht:eval (.Call (.Attribute (.Name x p) m apos) (e :: es) [] pos) X.env=(do
   let ov ← eval (.Name x p) X.env
   standAt apos.atName
   let (f,first) ← holding [ov] (getMethod ov m pl)
   callWith pos f first (backTo pos (starEach (e :: es) X.env)) (backToKw pos (keywordEach [] X.env))):=by rfl) :
  PE X (.Call (.Attribute (.Name x p) m apos) (e :: es) [] pos) (yN sp [] E0 t):=by
 intro pins s σ H Q I h
 refine PySem.W.methodCall_KW (pl:=pl) (cE (yT (v:=.ref C) hg hm rfl hdb pins s σ H (fun v H1=>v=.ref C/\t σ H1 fun vs H2=>sp (vs ++ []) H2 Q E0) I ⟨rfl,h⟩) fun u s1 ⟨x,H1,I1,rx,ex,q⟩=>?_) ht
 subst ex
 obtain rfl:u=Value.ref C:=rx
 refine PySem.W.method_cls I1.kIn c.ga (PySem.W.cls_value I1.kIn c.rd c.at_ c.hd ?_)
 refine PySem.W.callWith_K (first:=[]) (h₀:=X.base) I.ok.mod.kin c.kp (cE (ha pos pins _ σ H1 _ (I1.tok _) q) fun us s2 ⟨vs,H2,I2,r,q2⟩=>⟨I2.kIn,?_⟩) hst hpl
 exact r9 (us:=us) (vs:=vs) F hr hb .nil sr I2 r q2
def mY (P:Program) (w:World) (K:PySem.W.Frag) (mg:Str->Option Value) (base:Heap) (k:Nat) (m:Str) (ms:List (Addr×Sp)):Prop :=
 ∀ cs∈ms,∃ f fd ps,xv K cs.1/\jC K cs.1 m f/\aT P w K mg base cy k f fd ps cs.2/\Binds K fd ps []
theorem mY.nil {P:Program} {w:World} {K:PySem.W.Frag} {mg:Str->Option Value} {base:Heap}:mY P w K mg base k m []:=fun _ h=>nomatch h
theorem mY.cons {P:Program} {w:World} {K:PySem.W.Frag} {mg:Str->Option Value} {base:Heap} {ms:List (Addr×Sp)} (c:xv K C) (hm:jC K C m f) (F:aT P w K mg base cy k f fd ps sp) (hb:Binds K fd ps []) (r:mY P w K mg base k m ms):mY P w K mg base k m ((C,sp) :: ms):=by
 intro cs h
 rcases List.mem_cons.mp h with rfl | h
 ·exact ⟨f,fd,ps,c,hm,F,hb⟩
 ·exact r cs h
def Jn (ms:List (Addr×Sp)) (m:Str) (t:TA) (σ:St) (x:V) (H:Hp) (Q:VK):Prop :=
 ∃ cs∈ms,∃ a dx fs,x=.ref a/\H a=some (.ins cs.1 dx fs)/\fs.lookup m=none/\t σ H fun vs H2=>cs.2 (x :: (vs ++ [])) H2 Q E0
def xA (ms:List (Addr×Sp)) (m:Str) (ta:TE) (t:TA):TE:=fun σ H Q=>ta σ H fun x H1=>Jn ms m t σ x H1 Q
theorem gI {pl:Sem Bool} {ms:List (Addr×Sp)} (M:mY X.prog X.w X.K X.mg X.base k m ms) (he:PE X o ta) (hr:eM k X.A) (ha:PA X (e :: es) t)
  (hst:starEach (e :: es) X.env=(false,eval e X.env) :: starEach es X.env:=by rfl) (hpl:(backTo pos (starEach es X.env)).any (·.1)=false:=by rfl)
  (ht:eval (.Call (.Attribute o m apos) (e :: es) [] pos) X.env=(do
   let ov ← eval o X.env
   standAt apos.atName
   let (f,first) ← holding [ov] (getMethod ov m pl)
   callWith pos f first (backTo pos (starEach (e :: es) X.env)) (backToKw pos (keywordEach [] X.env))):=by rfl) :
  PE X (.Call (.Attribute o m apos) (e :: es) [] pos) (xA ms m ta t):=by
 intro pins s σ H Q I h
 refine PySem.W.methodCall_KW (pl:=pl) (cE (he pins s σ H _ I h) fun u s1 ⟨x,H1,I1,rx,cs,hcs,a,dx,fs,ex,ea,l,q⟩=>?_) ht
 subst ex
 obtain rfl:u=Value.ref a:=rx
 obtain ⟨f,fd,ps,c,hm,F,hb⟩:=M cs hcs
 refine rN I1 ea c hm l ?_
 refine PySem.W.callWith_K (first:=[.ref a]) (h₀:=X.base) I.ok.mod.kin hm.kp (cE (ha pos pins s1 σ H1 _ I1 q) fun us s2 ⟨vs,H2,I2,r,q2⟩=>⟨I2.kIn,?_⟩) hst hpl
 exact r9 (us:=.ref a :: us) (vs:=.ref a :: vs) F hr hb .nil sr I2 (.cons rfl r) q2
theorem oN {pl:Sem Bool} {ms:List (Addr×Sp)} (M:mY X.prog X.w X.K X.mg X.base k m ms) (he:PE X o ta) (hr:eM k X.A)
  (ht:eval (.Call (.Attribute o m apos) [] [] pos) X.env=(do
   let ov ← eval o X.env
   standAt apos.atName
   let (f,first) ← holding [ov] (getMethod ov m pl)
   callWith pos f first (backTo pos (starEach [] X.env)) (backToKw pos (keywordEach [] X.env))):=by rfl) :
  PE X (.Call (.Attribute o m apos) [] [] pos) (xA ms m ta BR):=by
 intro pins s σ H Q I h
 refine PySem.W.methodCall_KW (pl:=pl) (cE (he pins s σ H _ I h) fun u s1 ⟨x,H1,I1,rx,cs,hcs,a,dx,fs,ex,ea,l,q⟩=>?_) ht
 subst ex
 obtain rfl:u=Value.ref a:=rx
 obtain ⟨f,fd,ps,c,hm,F,hb⟩:=M cs hcs
 refine rN I1 ea c hm l ?_
 exact PySem.W.callWith_K0 (first:=[.ref a]) I1.kIn hm.kp (r9 (us:=[.ref a]) (vs:=[.ref a]) F hr hb .nil sr I1 (.cons rfl .nil) q)
end
section
variable {X:Cx} {K:PySem.W.Frag}
theorem aU {e:Expr} {ta:TE} {f:Str} {pos:Pos} (hK:X.K=K) (he:PE X e ta) (hb:attributeBase e f X.env (eval e X.env)=eval e X.env):PE X (.Attribute e f pos) (FR K ta f):=by subst hK; exact Fh he hb
theorem cZ {o value:Expr} {ta tv:TE} {f:Str} {pos pos':Pos} (hK:X.K=K) (ha:PE X o ta) (hv:PE X value tv) (hs:swapsWith value (some (.Attribute o f pos')) pos.line X.env=pure false):PS X (.Assign [.Attribute o f pos'] value pos) (AU K ta tv f):=by subst hK; exact Ft ha hv hs
end
section
variable {D:mI} {σ:St} {H:Hp} {Q:VK} {K:PySem.W.Frag}
def G3 (K:PySem.W.Frag) (f:Str) (x:V) (H:Hp) (Q:VK):Prop:=∃ a C dx fs v,x=.ref a/\H a=some (.ins C dx fs)/\xv K C/\dA K C f/\fs.lookup f=some v/\Q v H
theorem Ii {ta:TE} {f:Str} (h:ta σ H fun x H1=>G3 K f x H1 Q):FR K ta f σ H Q:=h
theorem Fb {f:Str} {a C dx:Addr} {fs:List (Str×V)} {v:V} (e:H a=some (.ins C dx fs)) (c:xv K C) (n:dA K C f) (l:fs.lookup f=some v) (h:Q v H):G3 K f (.ref a) H Q:=⟨a,C,dx,fs,v,rfl,e,c,n,l,h⟩
def JJ (K:PySem.W.Frag) (f:Str) (y x:V) (H:Hp) (R:Hp->Prop):Prop:=∃ a C dx fs,x=.ref a/\H a=some (.ins C dx fs)/\xv K C/\dA K C f/\fs.length < 1000/\R (upd H a (.ins C dx (eO f y fs)))
theorem EM {ta tv:TE} {f:Str} (h:tv σ H fun y H1=>ta σ H1 fun x H2=>JJ K f y x H2 fun H3=>D.nx σ H3):AU K ta tv f D σ H:=h
theorem HS {f:Str} {y:V} {a C dx:Addr} {fs:List (Str×V)} {R:Hp->Prop} (e:H a=some (.ins C dx fs)) (c:xv K C) (n:dA K C f) (hl:fs.length < 1000) (h:∀ H2,mL a H H2->H2 a=some (.ins C dx (eO f y fs))->R H2):JJ K f y (.ref a) H R:=⟨a,C,dx,fs,rfl,e,c,n,hl,h _ .upd au⟩
theorem CU {ms:List (Addr×Sp)} {m:Str} {ta:TE} {t:TA} (h:ta σ H fun x H1=>Jn ms m t σ x H1 Q):xA ms m ta t σ H Q:=h
theorem yD {ms:List (Addr×Sp)} {m:Str} {t:TA} {C a dx:Addr} {sp:Sp} {fs:List (Str×V)} (e:H a=some (.ins C dx fs)) (l:fs.lookup m=none) (h:t σ H fun vs H2=>sp (.ref a :: (vs ++ [])) H2 Q E0):Jn ((C,sp) :: ms) m t σ (.ref a) H Q :=
 ⟨(C,sp),List.mem_cons_self,a,dx,fs,rfl,e,l,h⟩
def JE (C:Addr) (sp:Sp) (vs:List V) (H:Hp) (Q:VK):Prop:=∀ x dx,H x=none->H dx=none->dx≠x->sp (.ref x :: (vs ++ [])) (upd (upd H dx (.own x)) x (.ins C dx [])) (fun v H2=>v=.non/\Q (.ref x) H2) E0
theorem FC {C:Addr} {sp:Sp} {t:TA} (h:t σ H fun vs H1=>JE C sp vs H1 Q):Bn C sp [] E0 t σ H Q:=h
theorem Ja {C:Addr} {sp:Sp} {vs:List V} (h:∀ x dx H',H x=none->aE H H'->H' x=some (.ins C dx [])->sp (.ref x :: (vs ++ [])) H' (fun v H2=>v=.non/\Q (.ref x) H2) E0):JE C sp vs H Q:=by
 intro x dx nx ndx nex
 refine h x dx _ nx (fun b o e=>?_) au
 rw [aG (aI e nx),aG (aI e ndx)]
 exact e
end
theorem Jb {f b c:St->Hp->Prop} {r:VK} {σ:St} {H:Hp} (h:f σ H):mI.nx ⟨f,r,b,c⟩ σ H:=h
theorem IE {σ:St} {H:Hp} {R:Bool->Hp->Prop} (h:R true H):Fg σ H R:=h
theorem FH {g:TG} {tt:TT} {te:TE} {D:Addr} {N:St->Hp->Prop} {x:V} {σ:St} {H:Hp} (h:g x σ H fun σ2 H2=>tt σ2 H2 fun b H3=>if b=true then te σ2 H3 fun y H4=>∃ ys,H4 D=some (.lst ys)/\ys.length < sizeLine/\N σ2 (upd H4 D (.lst (ys ++ [y]))) else N σ2 H3):jc g tt te D N x σ H:=h
end L2
namespace L2
open PySem PySem.Spec PyProof.Rows
theorem i8 {H H':Hp} (s:aE H H') {xs:List V} {ps:List (Int×Int)} (r:kW H xs ps):kW H' xs ps:=r.mono fun a xs e=>s a _ e
theorem q9 {K:PySem.W.Frag} {H H':Hp} {a:Addr} {xs:List V} (e:aE H H') (h:aZ K H a xs):aZ K H' a xs:=by
 rcases h with (h | ⟨o,h⟩) | h
 ·exact .inl (.inl (e _ _ h))
 ·exact .inl (.inr ⟨o,e _ _ h⟩)
 ·exact .inr h
structure Ck (m:List (Int×Int)):Prop where
 nd:(m.map (·.1)).Nodup
 nn:∀ p∈m,0<=p.2
 rg:∀ p∈m,0<=p.1/\p.1 < 63
def Dc:List Int:=(List.range 63).map fun (h:Nat)=>(h:Int)
theorem FE {k:Int}:k∈Dc↔0<=k/\k < 63:=by
 unfold Dc
 rw [List.mem_map]
 constructor
 ·rintro ⟨n,hn,rfl⟩
  have:=List.mem_range.mp hn
  omega
 ·rintro ⟨h0,h1⟩
  exact ⟨k.toNat,List.mem_range.mpr (by omega),by omega⟩
theorem rW {α:Type} [DecidableEq α]:∀ {l m:List α},l.Nodup->(∀ x∈l,x∈m)->l.length<=m.length
 | [],m,_,_=>Nat.zero_le _
 | x :: l,m,nd,sub=>by
  rw [List.nodup_cons] at nd
  have hx:=sub x List.mem_cons_self
  have pm:=List.perm_cons_erase hx
  have:=rW (l:=l) (m:=m.erase x) nd.2 fun y hy=>(List.mem_erase_of_ne (show y≠x from fun z=>nd.1 (z ▸ hy))).mpr (sub y (List.mem_cons_of_mem _ hy))
  have q:=pm.length_eq
  rw [List.length_cons] at q ⊢
  omega
theorem xE {l:List Int} (nd:l.Nodup) (h:∀ k∈l,0<=k/\k < 63):l.length < 64:=by
 have:=rW nd (m:=Dc) fun k hk=>FE.mpr (h k hk)
 unfold Dc at this
 rw [List.length_map,List.length_range] at this
 omega
theorem Ck.keys {m:List (Int×Int)} (c:Ck m):∀ k∈m.map (·.1),0<=k/\k < 63:=fun k hk=>by
 obtain ⟨p,hp,e⟩:=List.mem_map.mp hk
 rw [← e]
 exact c.rg p hp
theorem Ck.len {m:List (Int×Int)} (c:Ck m):m.length < 64:=by
 have:=xE c.nd c.keys
 rw [List.length_map] at this
 exact this
theorem Ck.nil:Ck []:=⟨List.nodup_nil,(fun p hp=>nomatch hp),(fun p hp=>nomatch hp)⟩
theorem Ck.ct {m:List (Int×Int)} (c:Ck m) (k:Int):0<=ct m k:=by
 unfold L2.ct
 cases e:lA m k with
 | none=>exact Int.le_refl _
 | some v=>exact c.nn _ (kM e)
theorem yy {m:List (Int×Int)} {k:Int} (h:k∉m.map (·.1)):ct m k=0:=by
 unfold ct
 rw [DO h]
 rfl
theorem Ir {m:List (Int×Int)} {k:Int} (h:k∈m.map (·.1)):lA m k=some (ct m k):=by
 obtain ⟨v,e⟩:=yI h
 unfold ct
 rw [e]
 rfl
theorem AR {m:List (Int×Int)} (nd:(m.map (·.1)).Nodup) {p:Int×Int} (h:p∈m):ct m p.1=p.2:=by
 unfold ct
 rw [wY (k:=p.1) (v:=p.2) nd h]
 rfl
theorem Ck.put {m:List (Int×Int)} (c:Ck m) {k v:Int} (h0:0<=k) (h1:k < 63) (hv:0<=v):Ck (fJ m k v) :=
 ⟨AY m k v c.nd,fun p hp=>by
  rcases nM m k v p hp with z | z
  ·rw [z]; exact hv
  ·exact c.nn p z,fun p hp=>by
  rcases nM m k v p hp with z | z
  ·rw [z]; exact ⟨h0,h1⟩
  ·exact c.rg p z⟩
def Eg (m n:List (Int×Int)):Bool:=(List.range 63).all fun (h:Nat)=>decide (ct n h<=ct m h)
theorem t7 {m n:List (Int×Int)} (cm:Ck m) (cn:Ck n):Eg m n=true↔∀ k,ct n k<=ct m k:=by
 unfold Eg
 rw [List.all_eq_true]
 constructor
 ·intro h k
  by_cases hk:0<=k/\k < 63
  ·have:=of_decide_eq_true (h k.toNat (List.mem_range.mpr (by omega)))
   rw [show ((k.toNat:Nat):Int)=k by omega] at this
   exact this
  ·rw [yy (fun z=>hk (cn.keys k z))]
   exact cm.ct k
 ·intro h n _
  exact decide_eq_true (h n)
def iF (ps:List (Int×Int)):List (Int×Int):=ps.filter fun p=>decide (0 < p.2)
theorem DZ {ps:List (Int×Int)} {p:Int×Int} (h:0 < p.2):iF (ps ++ [p])=iF ps ++ [p]:=by
 unfold iF
 rw [List.filter_append,List.filter_cons,decide_eq_true h]
 rfl
theorem Ga {ps:List (Int×Int)} {p:Int×Int} (h:¬ 0 < p.2):iF (ps ++ [p])=iF ps:=by
 unfold iF
 rw [List.filter_append,List.filter_cons,decide_eq_false h]
 exact List.append_nil _
theorem EW {ps:List (Int×Int)} (h:(ps.map (·.1)).Nodup):((iF ps).map (·.1)).Nodup:=by
 unfold iF
 exact h.sublist ((List.filter_sublist).map _)
theorem CV (ps:List (Int×Int)):(iF ps).length<=ps.length:=List.length_filter_le _ _
theorem two {m n:List (Int×Int)} {k:Int}:(∃ x∈[m,n],k∈x.map (·.1))↔k∈m.map (·.1)∨k∈n.map (·.1):=by simp
theorem DF (m:List (Int×Int)) (h:Int):((cD (dI m) (Sum.inl h:cU)).getD (.int 0))=V.int (ct m h):=by
 rw [rQ]
 unfold ct
 cases lA m h <;> rfl
def pU (p:Int×Int):PyData:=.tuple [.int p.1,.int p.2]
theorem kW.dps {K:PySem.W.Frag} {H:Hp}:∀ {xs:List V} {ps:List (Int×Int)},kW H xs ps->vn K H xs (ps.map pU)
 | _,_,.nil=>.nil
 | _,_,.cons r t=>by
  obtain ⟨a,rfl,h⟩:=r
  exact .cons (.tup (aZ.of h) (.cons (.int _) (.cons (.int _) .nil))) (kW.dps t)
theorem ju:∀ ps:List (Int×Int),PyData.canLayAll0 (ps.map pU)=true
 | []=>rfl
 | p :: ps=>by rw [List.map_cons,PyData.canLayAll0.eq_2,ju ps]; rfl
theorem uN:∀ ps:List (Int×Int),PyData.depthAll (ps.map pU)<=1
 | []=>by rw [List.map_nil,PyData.depthAll.eq_1]; omega
 | p :: ps=>by
  have e:PyData.depthAll ((p :: ps).map pU)=max (pU p).depth (PyData.depthAll (ps.map pU)):=rfl
  rw [e]
  have:=uN ps
  have:(pU p).depth=1:=rfl
  omega
theorem yU {H:Hp} {Q:VK} {a b:Addr} {xs zs:List V} (h1:H a=some (.lst xs)) (h2:H b=some (.lst zs)) (hl:xs.length + zs.length<=1000) (h:∀ p H',H p=none->aE H H'->H' p=some (.lst (xs ++ zs))->Q (.ref p) H'):Hy (.ref a) (.ref b) H Q:=⟨a,b,xs,zs,rfl,rfl,h1,h2,Nat.le_of_lt (aD hl),fun p hp=>h p _ hp (aN hp) au⟩
end L2
namespace L2
open PySem PySem.Spec PyProof.Rows
def dG (m:List (Int×V)):List (cU×V):=m.map fun p=>(Sum.inl p.1,p.2)
theorem BN (m:List (Int×V)):(dG m).length=m.length:=List.length_map ..
def vv:List (Int×V)->Int->Option V
 | [],_=>none
 | p :: m,k=>if p.1=k then some p.2 else vv m k
theorem jD:∀ (m:List (Int×V)) (k:Int),cD (dG m) (Sum.inl k:cU)=vv m k
 | [],_=>rfl
 | p :: m,k=>by
  show cD ((Sum.inl p.1,p.2) :: dG m) (Sum.inl k)=_
  unfold vv
  by_cases e:p.1=k
  ·rw [if_pos e,de (by rw [e])]
  ·rw [if_neg e,c8 (fun z=>e (Sum.inl.inj z)),jD m k]
def dS:List (Int×V)->Int->V->List (Int×V)
 | [],k,v=>[(k,v)]
 | p :: m,k,v=>if p.1=k then (p.1,v) :: m else p :: dS m k v
theorem zq:∀ (m:List (Int×V)) (k:Int) (v:V) (j:Int),vv (dS m k v) j=if j=k then some v else vv m j
 | [],k,v,j=>by
  show (if k=j then some v else none)=_
  by_cases e:j=k
  ·rw [if_pos e,if_pos e.symm]
  ·rw [if_neg e,if_neg (fun z=>e z.symm)]
   rfl
 | p :: m,k,v,j=>by
  show vv (if p.1=k then (p.1,v) :: m else p :: dS m k v) j=if j=k then some v else (if p.1=j then some p.2 else vv m j)
  by_cases e:p.1=k
  ·rw [if_pos e]
   show (if p.1=j then some v else vv m j)=_
   by_cases e2:j=k
   ·rw [if_pos e2,if_pos (e.trans e2.symm)]
   ·rw [if_neg e2,if_neg (fun z=>e2 (z.symm.trans e)),if_neg (fun z=>e2 (z.symm.trans e))]
  ·rw [if_neg e]
   show (if p.1=j then some p.2 else vv (dS m k v) j)=_
   rw [zq m k v j]
   by_cases e2:j=k
   ·rw [if_pos e2,if_neg (fun z=>e (z.trans e2)),if_pos e2]
   ·rw [if_neg e2,if_neg e2]
theorem nP:∀ (m:List (Int×V)) (k:Int) (v:V),(dS m k v).length<=m.length + 1
 | [],_,_=>Nat.le_refl _
 | p :: m,k,v=>by
  show (if p.1=k then (p.1,v) :: m else p :: dS m k v).length<=m.length + 1 + 1
  split
  ·exact Nat.le_succ _
  ·exact Nat.succ_le_succ (nP m k v)
theorem tH:∀ (m:List (Int×V)) (k:Int) (v:V) (x:Int),x∈(dS m k v).map (·.1)↔x=k∨x∈m.map (·.1)
 | [],k,v,x=>by simp [dS]
 | p :: m,k,v,x=>by
  show x∈(if p.1=k then (p.1,v) :: m else p :: dS m k v).map (·.1)↔_
  by_cases e:p.1=k
  ·rw [if_pos e]
   simp only [List.map_cons,List.mem_cons]
   constructor
   ·exact fun h=>.inr h
   ·rintro (h | h)
    ·exact .inl (h.trans e.symm)
    ·exact h
  ·rw [if_neg e]
   simp only [List.map_cons,List.mem_cons]
   have:=tH m k v x
   constructor
   ·rintro (h | h)
    ·exact .inr (.inl h)
    ·rcases this.mp h with h | h
     ·exact .inl h
     ·exact .inr (.inr h)
   ·rintro (h | h | h)
    ·exact .inr (this.mpr (.inl h))
    ·exact .inl h
    ·exact .inr (this.mpr (.inr h))
theorem qp:∀ (m:List (Int×V)) (k:Int) (v:V),(m.map (·.1)).Nodup->((dS m k v).map (·.1)).Nodup
 | [],k,v,_=>by simp [dS]
 | p :: m,k,v,h=>by
  show ((if p.1=k then (p.1,v) :: m else p :: dS m k v).map (·.1)).Nodup
  rw [List.map_cons,List.nodup_cons] at h
  by_cases e:p.1=k
  ·rw [if_pos e,List.map_cons,List.nodup_cons]
   exact h
  ·rw [if_neg e,List.map_cons,List.nodup_cons]
   refine ⟨fun z=>?_,qp m k v h.2⟩
   rcases (tH m k v p.1).mp z with z | z
   ·exact e z
   ·exact h.1 z
theorem Bk (k:Int):∀ m:List (Int×V),((dG m).any fun kv=>decide (kv.1=(Sum.inl k:cU)))=m.any fun p=>decide (p.1=k)
 | []=>rfl
 | p :: m=>by
  show (decide ((Sum.inl p.1:cU)=Sum.inl k) || (dG m).any _)=(decide (p.1=k) || m.any _)
  rw [Bk k m]
  congr 1
  rw [decide_eq_decide]
  exact ⟨fun h=>Sum.inl.inj h,fun h=>congrArg _ h⟩
theorem wL:∀ (m:List (Int×V)) (k:Int) (v:V),(m.any fun p=>decide (p.1=k))=false->dS m k v=m ++ [(k,v)]
 | [],_,_,_=>rfl
 | p :: m,k,v,h=>by
  rw [List.any_cons,Bool.or_eq_false_iff] at h
  show (if p.1=k then (p.1,v) :: m else p :: dS m k v)=_
  rw [if_neg (of_decide_eq_false h.1),wL m k v h.2]
  rfl
theorem vB:∀ (m:List (Int×V)) (k:Int) (v:V),(m.map (·.1)).Nodup->(m.any fun p=>decide (p.1=k))=true->dS m k v=m.map fun p=>if p.1=k then (p.1,v) else p
 | [],_,_,_,h=>by cases h
 | p :: m,k,v,nd,h=>by
  rw [List.map_cons,List.nodup_cons] at nd
  show (if p.1=k then (p.1,v) :: m else p :: dS m k v)=(if p.1=k then (p.1,v) else p) :: m.map _
  by_cases e:p.1=k
  ·rw [if_pos e,if_pos e]
   congr 1
   have:m.map (fun p=>if p.1=k then (p.1,v) else p)=m.map id:=List.map_congr_left fun q hq=>by
    rw [if_neg (fun z=>nd.1 (by rw [e,← z]; exact List.mem_map_of_mem hq))]
    rfl
   rw [this,List.map_id]
  ·rw [if_neg e,if_neg e,vB m k v nd.2 (by
    rw [List.any_cons,decide_eq_false e,Bool.false_or] at h
    exact h)]
theorem Cm (m:List (Int×V)) (k:Int) (v:V) (nd:(m.map (·.1)).Nodup):eL (dG m) (Sum.inl k:cU) (v)=dG (dS m k v):=by
 unfold eL
 rw [Bk]
 cases e:m.any fun p=>decide (p.1=k) with
 | false =>
  rw [wL m k v e]
  unfold dG
  rw [List.map_append]
  rfl
 | true =>
  rw [vB m k v nd e]
  unfold dG
  rw [List.map_map,if_pos rfl,List.map_map]
  apply List.map_congr_left
  intro p _
  show (if (Sum.inl p.1:cU)=Sum.inl k then ((Sum.inl p.1:cU),v) else (Sum.inl p.1,p.2))=((Sum.inl (if p.1=k then (p.1,v) else p).1:cU),(if p.1=k then (p.1,v) else p).2)
  by_cases z:p.1=k
  ·rw [if_pos (congrArg _ z),if_pos z]
  ·rw [if_neg (fun q=>z (Sum.inl.inj q)),if_neg z]
section
variable {X:Cx}
theorem vD:∀ (ns:List Int) (n:Nat),n<=ns.length->preSum (fun i=>ns.getD i 0) n=(ns.take n).sum:=by
 intro ns n
 induction n with
 | zero=>intro _; rfl
 | succ n ih =>
  intro h
  show preSum _ n + ns.getD n 0=_
  rw [ih (by omega),List.take_succ,List.sum_append]
  have:n < ns.length:=h
  rw [List.getD_eq_getElem?_getD,List.getElem?_eq_getElem this]
  simp
theorem zV (hc:X.calm=true):fg X (.builtin "sum") (fun xs H Q=>∃ (p:Addr) (ns:List Int),xs=[.ref p]/\bb X.K H p (ns.map V.int)/\Q (.int ns.sum) H):=by
 intro pins s σ H xs us Q I r h
 obtain ⟨p,ns,rfl,hq,q⟩:=h
 obtain ⟨u,rfl,rx⟩:=kS r
 cases rx
 obtain ⟨its,rv,pl,hz⟩:=I.list hq
 have hl:its.toArray.size=ns.length:=by rw [List.size_toArray,← rv.length,List.length_map]
 have hp:p < s.heap.objs.size:=let ⟨_,z,_⟩:=pl.isList; Heap.lt_size z
 refine call_sum_walkG (wpAny_pyIter_list pl.isList ?_)
 refine ⟨s.heap.objs.size,[s.heap.objs.size,p],[s.heap.objs.size],its.toArray.size,_,_,fun i=>ns.getD i 0,rfl,Walks.list (A:=X.A.in1) (I.ok.hd hc) _ p (Nat.ne_of_lt hp) its.toArray,
  ⟨⟨_,Heap.get?_push_size _ rfl,rfl,rfl⟩,pl.isList.push _⟩,fun b hb=>?_,fun i v hP=>?_,fun h' tk t' kp=>?_⟩
 ·rw [Heap.size_push]
  rcases List.mem_cons.mp hb with z | z
  ·rw [z]; exact Nat.lt_succ_self _
  ·rw [List.mem_singleton.mp z]; exact Nat.lt_succ_of_lt hp
 ·have hv:its[i]?=some v:=by simpa using hP
  have hb:i < ns.length:=by
   have:=(List.getElem?_eq_some_iff.mp hv).1
   rw [← hl,List.size_toArray]
   exact this
  obtain ⟨u,hu,ru⟩:=rv.get (i:=i) (x:=V.int ns[i]) (by rw [List.getElem?_map,List.getElem?_eq_getElem hb]; rfl)
  rw [hv] at hu
  cases hu
  obtain ⟨t,rfl⟩:=ru
  refine ⟨t,?_⟩
  show Value.int ns[i] t=Value.int (ns.getD i 0) t
  rw [List.getD_eq_getElem?_getD,List.getElem?_eq_getElem hb,Option.getD_some]
 ·refine ⟨.int ns.sum,H,I.kept (t':=tk) fun b o e=>kp b o ?_ (Heap.get?_push_of_some _ e),⟨t',?_⟩,q⟩
  ·intro z
   have z':b=s.heap.objs.size:=by simpa using z
   exact absurd (Heap.lt_size e) (by rw [z']; exact Nat.lt_irrefl _)
  ·rw [hl,vD ns ns.length (Nat.le_refl _),List.take_length]
end
section
variable {D:mI} {σ:St} {H:Hp} {Q:VK}
theorem ES {d:Addr} {kvs:List (cU×V)} {P:Addr->Prop} (hd:Rd H d (.dK kvs)) (h:P d):∃ a,V.ref d=.ref a/\Ht H a/\P a:=⟨d,rfl,.inl ⟨_,hd⟩,h⟩
theorem Ib {d:Addr} {m:List (Int×V)} {k:Int} {P:Option V->Prop} (hd:Rd H d (.dK (dG m))) (h:P (vv m k)):∃ o,mJ H d (.int k) o/\P o:=⟨_,.inl ⟨_,Sum.inl k,hd,rfl,(jD m k).symm⟩,h⟩
theorem Fy {d:Addr} {m:List (Int×V)} {k:Int} {P:Option V->Prop} (hd:Rd H d (.dK (dG m))) (h:P (vv m k)):∃ a o,V.ref d=.ref a/\mJ H a (.int k) o/\P o:=⟨d,_,rfl,.inl ⟨_,Sum.inl k,hd,rfl,(jD m k).symm⟩,h⟩
end
end L2
namespace L2
open PySem PySem.Spec PyProof.Rows
theorem Al {n h:Int} (h0:0<=n) (h1:0<=h):(!decide (V.int (Builtin.bitAnd n (2 ^ h.toNat))=V.int 0))=n.toNat.testBit h.toNat:=by
 have e1:(0:Int)<=2 ^ h.toNat:=jH _
 have e2:((2:Int) ^ h.toNat).toNat=2 ^ h.toNat:=by
  have:((2:Int) ^ h.toNat)=((2 ^ h.toNat:Nat):Int):=by push_cast; rfl
  rw [this,Int.toNat_natCast]
 rw [PyProof.Rows.bitAnd_pp h0 e1,e2]
 cases q:n.toNat.testBit h.toNat with
 | false =>
  rw [(GB.yM _ _).mpr q]
  rfl
 | true =>
  have z:¬ (n.toNat &&& 2 ^ h.toNat=0):=fun z=>by rw [(GB.yM _ _).mp z] at q; cases q
  have z':¬ V.int ((n.toNat &&& 2 ^ h.toNat:Nat):Int)=V.int 0:=fun e=>z (by injection e with e; omega)
  rw [decide_eq_false z']
  rfl
end L2
namespace L2
open PySem PySem.Spec PyProof.Rows
section
variable {X:Cx}
end
theorem Hq {r:V->Option Int->Option Int->Option Int->Hp->VK->Prop} {te:TE} {tl th tk:TO} {σ:St} {H:Hp} {Q:VK} (h:te σ H fun x H1=>tl σ H1 fun l H2=>th σ H2 fun u H3=>tk σ H3 fun k H4=>r x l u k H4 Q):HD r te tl th tk σ H Q:=h
section
variable {X:Cx}
def DP:V->List V->Hp->VK->Prop:=fun x vs H Q=>∃ l xs i y,x=.ref l/\vs=[.int i,y]/\H l=some (.lst xs)/\0<=i/\i<=1000/\xs.length < 1000/\Q .non (upd H l (.lst (xs.take (min i.toNat xs.length) ++ [y] ++ xs.drop (min i.toNat xs.length))))
theorem oA:IP X "list.insert" DP:=by
 intro pins s σ H x vs v us Q I rx rv h
 obtain ⟨l,xs,i,y,rfl,rfl,hH,h0,h1,hz,q⟩:=h
 cases rx
 obtain ⟨u0,u,rfl,r0,ru⟩:=yX rv
 obtain ⟨t0,rfl⟩:=r0
 obtain ⟨z,its,n,r,hl,e⟩:=I.lstM hH
 have fits:¬ (!Builtin.List.listFitsIndex i)=true:=by
  unfold Builtin.List.listFitsIndex
  simp
  omega
 refine call_meets F.slot_list_insert ⟨_,e,rfl⟩ F.entry_list_insert (F.args_list_insert_3 _ _ _) (PySem.AutoSeq1.list_insert_list_int_val_1 l its.toArray n i t0 u fits (by rw [List.size_toArray]; omega)) ⟨e,?_⟩
 have hlen:=r.length
 have ek:(if i < 0 then (i + (its.toArray.size:Nat)).toNat else min i.toNat its.toArray.size)=min i.toNat xs.length:=by rw [if_neg (by omega),List.size_toArray,hlen]
 refine ⟨.non,_,I.lset (its':=its.take (min i.toNat xs.length) ++ [u] ++ its.drop (min i.toNat xs.length)) hH e ?_ (((r.take _).append (.cons ru .nil)).append (r.drop _)) ?_,rfl,q⟩
 ·simp only [ek]
  simp
  exact List.take_of_length_le (by rw [List.length_drop]; omega)
 ·simp only [List.length_append,List.length_take,List.length_drop,List.length_singleton]
  have:=sizeLine_eq
  omega
end
end L2
namespace L2
open PySem PySem.Spec PyProof.Rows
section
variable {X:Cx}
theorem Hw {K:PySem.W.Frag} {H:Hp} {a:Addr} {kvs:List (cU×V)} {P:Prop} (hd:H a=some (.dK kvs)) (h:P):Hj K "dict" (.ref a) H/\P:=⟨.inr (.inr (.inl ⟨rfl,.inl ⟨kvs,hd⟩⟩)),h⟩
end
end L2
namespace L2
open PySem PySem.Spec PyProof.Rows
section
variable {X:Cx}
def D9:V->List V->Hp->VK->Prop:=fun x vs H Q=>∃ d m i y,x=.ref d/\vs=[.int i,y]/\H d=some (.dK (dG m))/\m.length < 1000/\(∀ v,vv m i=some v->Q v H)/\(vv m i=none->Q y (upd H d (.dK (eL (dG m) (Sum.inl i) y))))
theorem rV:Js X "dict.setdefault" D9:=by
 intro pins s σ H x xs v us Q I rx rv h
 obtain ⟨d,m,i,y,rfl,rfl,hd,hl,q1,q2⟩:=h
 cases rx
 obtain ⟨u1,u2,rfl,r1,r2⟩:=rv.two
 obtain ⟨t,rfl⟩:=r1
 obtain ⟨z,hS,vs,rel,dd⟩:=Em I.hok hd
 obtain ⟨h1,h2⟩:=AV (T:="dict") I (x:=.ref d) rfl (.inr (.inr (.inl ⟨rfl,.inl ⟨_,hd⟩⟩)))
 have l1:vs.length=m.length:=by rw [← KV.length rel,BN]
 have hv:=rel.val (Sum.inl i:cU)
 rw [jD] at hv
 have hk:=kO X.prog X.w i t
 refine call_meetsIn PySem.F.slot_dict_setdefault h1 PySem.F.entry_dict_setdefault (PySem.F.args_dict_setdefault_3 _ _ _) (kt_meets_setdefault (bB X.prog X.w) d hk hS u2) ⟨vs,dd,by rw [l1]; exact Nat.le_of_lt (aD (by omega)),fun v e=>?_,fun e h' g1 sb=>?_⟩
 ·cases w:vv m i with
  | none =>
   rw [w] at hv
   rw [fZ.none_of hv] at e
   cases e
  | some v0 =>
   rw [w] at hv
   obtain ⟨u,hu,ru⟩:=fZ.some_of hv
   rw [hu] at e
   cases e
   exact ⟨v0,H,I.tok _,ru,q1 v0 w⟩
 ·have w:vv m i=none:=by
   cases w:vv m i with
   | none=>rfl
   | some v0 =>
    rw [w] at hv
    obtain ⟨u,hu,ru⟩:=fZ.some_of hv
    rw [hu] at e
    cases e
  obtain ⟨o,es,ep,ho,rr⟩:=id g1
  have lp:(eL (dG m) (Sum.inl i) y).length<=1000:=by
   have:=gH (dG m) (Sum.inl i:cU) y
   rw [BN] at this
   omega
  exact ⟨y,_,I.write (t':=s.toks + 1) (x:=d) (e:=d) (o:=.dK (eL (dG m) (Sum.inl i) y)) (by rw [hd]; trivial) (.inl rfl) (fun b ob n e=>(sb.2 b n).trans e) ⟨o,ho⟩ (yC (Nat.le_of_lt (aD lp)) hS (KV.put rel (Sum.inl i:cU) r2) g1),r2,q2 w⟩
end
theorem Bf {H:Hp} {Q:VK} {d:Addr} {m:List (Int×V)} {i:Int} {y:V} (hd:H d=some (.dK (dG m))) (nd:(m.map (·.1)).Nodup) (hl:m.length < 1000) (h:∀ v H',(vv m i=some v/\H'=H)∨(vv m i=none/\v=y/\H'=upd H d (.dK (dG (dS m i y))))->Q v H'):D9 (.ref d) [.int i,y] H Q :=
 ⟨d,m,i,y,rfl,rfl,hd,hl,fun v e=>h v H (.inl ⟨e,rfl⟩),fun e=>h y _ (.inr ⟨e,rfl,by rw [Cm m i y nd]⟩)⟩
end L2
namespace GX
open PySem
section
variable {prog:Program} {w:World} {A:Around} {E:Value->Shared->Prop} {s:Shared} {K:Type} [DecidableEq K] {knd:KeyKind prog w K}
end
end GX
namespace L2
open PySem PySem.Spec PyProof.Rows
section
variable {X:Cx}
end
theorem EJ {to ti:TE} {t:Dh} {v:V} {σ:St} {H:Hp} {Q:St->Hp->Prop} (h:to σ H fun o H1=>ti σ H1 fun i H2=>t o i v H2 fun H3=>Q σ H3):Ho to ti t v σ H Q:=h
theorem kN {p:Addr} {xs:List V} {k:Int} {j:Nat} {v:V} {H:Hp} {Q:Hp->Prop} (hp:H p=some (.lst xs)) (hk:yA xs.length k=some j) (h:∀ H',mL p H H'->H' p=some (.lst (xs.set j v))->Q H'):Ei (.ref p) (.int k) v H Q :=
 ⟨p,xs,k,j,rfl,rfl,hp,hk,h _ .upd au⟩
end L2
namespace GX
open PySem PyProof.Rows
end GX
namespace L2
open PySem PySem.Spec PyProof.Rows
section
variable {X:Cx}
end
end L2
namespace HT
open PySem PyProof.Rows
section
open PySem.SeqAt
open PySem.AutoSeq1 (wpAny_loadPart')
open PySem.MeetsSeq PySem.MeetsSeq2 PySem.MeetsSeq3
end
section
variable {prog:Program} {w:World} {A:Around} {E:Value->Shared->Prop} {s:Shared}
end
end HT
namespace L2
open PySem PySem.Spec PyProof.Rows
section
variable {X:Cx}
end
section
variable {me hd ba ye vo re ag v:V}
end
end L2
namespace GX
open PySem PyProof.Rows
section
variable {prog:Program} {w:World} {A:Around} {R:Result->Shared->Prop} {I d:Addr} {fp wr:List Addr} {n:Nat} {P:Nat->Value->Prop} {St:Nat->Heap->Prop} {K:Type} [DecidableEq K] {knd:KeyKind prog w K}
end
section
variable {prog:Program} {w:World} {A:Around} {E:Value->Shared->Prop} {s:Shared} {K:Type} [DecidableEq K] {knd:KeyKind prog w K}
end
end GX
namespace L2
open PySem PySem.Spec PyProof.Rows
section
variable {X:Cx}
end
end L2
namespace L2
open PySem PySem.Spec PyProof.Rows
section
variable {X:Cx} {pins:List (Addr×Obj)} {σ:St} {H:Hp} {s:Shared}
end
section
variable {X:Cx} {pins:List (Addr×Obj)} {σ:St} {l f:Addr} {xs:List V} {its:List Value} {ks:List (List Int)} {k:Nat} {fd:FuncData} {ps:List Str} {sp:Sp}
end
section
variable {X:Cx}
end
end L2
namespace L2
open PySem PySem.Spec PyProof.Rows
section
variable {prog:Program} {w:World} {A:Around} {E:Value->Shared->Prop} {s:Shared}
end
end L2
namespace L2
open PySem PySem.Spec PyProof.Rows
section
variable {n:Nat} (hn:0 < n)
include hn
end
section
variable {prog:Program} {w:World} {A:Around} {E:Value->Shared->Prop} {s:Shared}
end
section
variable {X:Cx}
end
end L2
namespace L2
open PySem PySem.Spec PyProof.Rows
section
variable {X:Cx} {pins:List (Addr×Obj)} {σ:St} {H H0:Hp} {s:Shared} {h':Heap}
end
section
variable {X:Cx} {pins:List (Addr×Obj)} {σ:St} {H:Hp} {s:Shared} {D f:Addr} {xs:List V} {its:List Value} {ks:List (List Int)} {k:Nat} {fd:FuncData} {ps:List Str} {sp:Sp}
end
end L2
namespace L2
open PySem PySem.Spec PyProof.Rows
section
variable {X:Cx}
end
end L2
namespace L2
open PySem PySem.Spec PyProof.Rows
section
variable {X:Cx}
end
end L2
namespace L2
open PySem PySem.Spec PyProof.Rows
section
variable {X:Cx}
end
end L2
namespace L2
open PySem PySem.Spec PyProof.Rows
section
variable {X:Cx} {K:PySem.W.Frag}
theorem vd {o e:Expr} {to:TE} {t:TA} {apos cpos:Pos} (hK:X.K=K) (h:PE X (.Call (.Attribute o "pop" apos) [e] [] cpos) (GU X.K "list" yu to t)):PE X (.Call (.Attribute o "pop" apos) [e] [] cpos) (GU K "list" yu to t):=by subst hK; exact h
end
end L2
namespace GX
open PySem PySem.Spec PyProof.Rows
section
variable {prog:Program} {w:World} {A:Around} {s:Shared} {E:Value->Shared->Prop} {it l:Addr}
end
end GX
namespace GX
open PySem PySem.Spec PyProof.Rows
section
variable {prog:Program} {w:World} {A:Around} {s:Shared} {E:Value->Shared->Prop} {it v d:Addr} {es:Array DictEntry} {i ep:Nat}
end
end GX
namespace GX
open PySem PySem.Spec PyProof.Rows
section
variable {prog:Program} {w:World} {K:Type} [DecidableEq K] {knd:HeapKind prog w K} {d a:Addr} {xs:List (K×Addr×Value)} {k:K} {j:Nat} {p:Addr×Value}
end
end GX
namespace L2
open PySem PySem.Spec PyProof.Rows
section
variable {X:Cx} {tg:Expr}
end
end L2
namespace L2
open PySem PySem.Spec PyProof.Rows
section
variable {X:Cx}
end
section
variable {X:Cx}
end
end L2
namespace L2
open PySem PySem.Spec PyProof.Rows
section
variable {X:Cx}
end
end L2
namespace L2
open PySem PySem.Spec PyProof.Rows
section
variable (ky:Nat->Int)
variable {ky} {n:Nat} (hn:0 < n)
end
section
variable {prog:Program} {w:World} {A:Around} {E:Value->Shared->Prop} {s:Shared}
end
section
variable {X:Cx} {pins:List (Addr×Obj)} {σ:St} {H:Hp} {s:Shared} {D f:Addr} {xs:List V} {its:List Value} {ks:List (List Int)} {k:Nat} {fd:FuncData} {ps:List Str} {sp:Sp}
end
section
variable {X:Cx}
end
end L2
namespace L2
open PySem PySem.Spec PyProof.Rows
section
variable {X:Cx}
end
end L2
namespace L2
open PySem PySem.Spec PyProof.Rows
section
variable {P:Program} {w:World} {H H':Hp} {h h':Heap} {cs fs:List Addr}
end
section
variable {CX:yi} {P:Program} {w:World} {K:PySem.W.Frag} {mg:Str->Option Value} {base:Heap} {N ps:List Str} {qual:Str} {scope:Scope} {f:Addr} {cd:Value} {cl:List (Str×Addr)} {A:Around} {outer:List Env} {s:Shared} {H:Hp} {E:XK} {us:List Value} {vs vals:List V}
end
end L2
namespace L2
open PySem PySem.Spec PyProof.Rows
section
variable {X:Cx}
end
end L2
namespace L2
open PySem PySem.Spec PyProof.Rows
section
variable {X:Cx}
end
end L2
namespace L2
open PySem PySem.Spec PyProof.Rows
end L2
namespace L2
open PySem PySem.Spec PyProof.Rows
section
variable {P:Program} {w:World} {K:PySem.W.Frag} {mg:Str->Option Value} {base:Heap}
end
end L2
namespace L2
open PySem PySem.Spec PyProof.Rows
section
variable {X:Cx}
end
section
variable {P:Program} {w:World} {K:PySem.W.Frag} {mg:Str->Option Value} {base:Heap}
end
section
variable {X:Cx}
end
section
variable {me hd ba ye vo re ag:V}
end
end L2
namespace L2
open PySem PySem.Spec PyProof.Rows
section
variable {X:Cx} {k:Nat} {m:Str} {pos apos:Pos} {e o:Expr} {es:List Expr} {ta:TE} {t:TA} {ix:List Nat} {cl:List (Str×Addr)}
end
section
variable {σ:St} {H:Hp} {Q:VK} {ix:List Nat} {cl:List (Str×Addr)}
end
section
variable {X:Cx} {pins:List (Addr×Obj)} {σ:St} {H:Hp} {s:Shared}
end
end L2
namespace L2
open PySem PySem.Spec PyProof.Rows
section
variable {CX:yi} {P:Program} {w:World} {K:PySem.W.Frag} {mg:Str->Option Value} {base:Heap} {N ps:List Str} {qual:Str} {scope:Scope} {f:Addr} {cd:Value} {cl:List (Str×Addr)} {A:Around} {outer:List Env} {s:Shared} {H:Hp} {E:XK} {us:List Value} {vs vals:List V}
end
section
variable {P:Program} {w:World} {K:PySem.W.Frag} {mg:Str->Option Value} {base:Heap}
end
section
variable {X:Cx} {K:PySem.W.Frag}
end
end L2
namespace L2
open PySem PySem.Spec PyProof.Rows
section
variable {P:Program} {w:World} {K:PySem.W.Frag} {mg:Str->Option Value} {base:Heap} {N:List Str} {qual:Str} {scope:Scope} {f:Addr} {cd:Value} {A:Around} {outer:List Env} {s:Shared} {H:Hp} {E:XK}
end
end L2
namespace L2
open PySem PySem.Spec PyProof.Rows
section
variable {X:Cx} {pins:List (Addr×Obj)} {σ:St} {H H':Hp} {s s':Shared} {B h2:Heap} {ea C:Addr} {a0:Value}
end
section
variable {X:Cx} {pins:List (Addr×Obj)} {σ:St} {H:Hp} {s:Shared}
end
section
variable {M:Model} {A:Around} {E:Value->Shared->Prop}
end
end L2
namespace L2
open PySem PySem.Spec PyProof.Rows
section
variable {X:Cx} {pins pins':List (Addr×Obj)} {σ:St} {H:Hp} {s s':Shared} {EE:St->XK}
end
end L2
namespace L2
open PySem PySem.Spec PyProof.Rows PySem.W
section
variable {prog:Program} {w:World} {A:Around} {E:Value->Shared->Prop} {K:PySem.W.Frag} {x C:Addr}
end
end L2
namespace L2
open PySem PySem.Spec PyProof.Rows
section
variable {P:Program} {w:World} {K:PySem.W.Frag} {mg:Str->Option Value} {base:Heap}
end
section
variable {X:Cx} {k:Nat} {f:Addr} {fd:FuncData} {ps:List Str} {sp:Sp} {x:Str} {e:Expr} {es:List Expr} {t:TA} {p pos:Pos}
end
section
variable {D:mI} {σ:St} {H:Hp} {Q:VK}
end
end L2
namespace L2
open PySem PySem.Spec PyProof.Rows
section
variable {X:Cx} {tg:Expr}
end
end L2
namespace L2
open PySem PySem.Spec PyProof.Rows PySem.W
section
variable {prog:Program} {w:World} {A:Around} {E:Value->Shared->Prop} {K:PySem.W.Frag} {x C:Addr} {name:Str} {v:Value} {s:Shared}
end
section
variable {prog:Program} {w:World} {A:Around} {E:Value->Shared->Prop} {K:PySem.W.Frag} {x C:Addr} {name:Str} {v:Value} {s:Shared} {vs:Array Value} {sl:Array (Option Value)}
end
section
variable {X:Cx} {pins:List (Addr×Obj)} {σ:St} {H:Hp} {s:Shared} {e C dx:Addr} {f:Str} {y:V} {u:Value}
end
section
variable {prog:Program} {w:World} {A:Around} {K:PySem.W.Frag} {C fI:Addr} {h:Heap} {g:Array GenState} {d:Drawn} {t:Nat} {os:OsState} {B newId initId:String} {bmB:List Value}
end
section
variable {X:Cx} {k:Nat} {f C:Addr} {fd:FuncData} {ps:List Str} {sp:Sp} {B newId initId:String} {bmB:List Value}
end
section
variable {prog:Program} {w:World} {A:Around} {E:Value->Shared->Prop} {s:Shared} {env:Env}
end
section
variable {P:Program} {w:World} {K:PySem.W.Frag} {mg:Str->Option Value} {base:Heap} {N:List Str} {qual:Str} {scope:Scope} {f:Addr} {cd:Value} {A:Around} {outer:List Env} {s:Shared} {H:Hp} {E:XK}
end
end L2
namespace L2
open PySem PySem.Spec PyProof.Rows
section
variable {P:Program} {w:World} {K:PySem.W.Frag} {mg:Str->Option Value} {base:Heap} {x qual:Str} {st:Stmt} {f:Addr} {fd:FuncData} {ds ds':List Value}
end
section
variable {X:Cx} {k:Nat} {f C:Addr} {fd:FuncData} {ps:List Str} {sp:Sp} {m:Str} {e o:Expr} {es:List Expr} {ta:TE} {t:TA} {p pos apos:Pos}
end
section
variable {D:mI} {σ:St} {H:Hp} {Q:VK}
end
end L2
namespace L2
open PySem PySem.Spec PyProof.Rows
section
variable {me nu ha ro ma dn tk kp od tb ab v:V}
end
end L2
namespace GX
open PySem PySem.Spec PyProof.Rows
end GX
namespace GX
open PySem PySem.Spec PyProof.Rows
section
variable {prog:Program} {w:World} {A:Around} {s:Shared} {E:Value->Shared->Prop} {it v d:Addr} {es:Array DictEntry} {i ep:Nat} {ok ov:Value}
end
end GX
namespace L2
open PySem PySem.Spec PyProof.Rows
section
variable {X:Cx}
end
end L2
namespace L2
open PySem PySem.Spec PyProof.Rows
section
variable {prog:Program} {w:World} {A:Around} {E:Value->Shared->Prop} {s:Shared}
end
theorem aV.turnLays {X:Cx} {pins:List (Addr×Obj)} {σ:St} {H:Hp} {s:Shared} {h':Heap} {ch:List Addr} {a:Addr} {o:HO} (I:aV X pins σ H s) (k:∀ b o,b∉ch->s.heap.get? b=some o->h'.get? b=some o) (hf:∀ b∈ch,pS X pins H b) (ha:s.heap.objs.size<=a)
  (new:cL X.prog X.w (upd H a o) h' a o):aV X pins σ (upd H a o) { s with heap:=h' }:=by
 have hn:H a=none:=I.hok.fresh ha
 have nea:∀ b ob,s.heap.get? b=some ob->b≠a:=fun b ob e z=>by
  have:=Heap.lt_size e
  rw [z] at this
  exact absurd (Nat.lt_of_lt_of_le this ha) (Nat.lt_irrefl _)
 have nch:∀ b u,H b=some u->b∉ch:=fun b u e z=>by rw [(hf b z).1] at e; cases e
 have nl:X.env.locals∉ch:=fun z=>(hf _ z).2.1 rfl
 refine I.step (g':=s.gens) (d':=s.drawn) (t':=s.toks) (ch:=ch) (fun b hb=>?_) (fun b o _ _ hc e _=>k b o hc e) (fun b o _ _ hc e _=>⟨o.slots,k b o hc e⟩) (fun b ob _ e n=>by rw [aG (nea b ob e)]; exact n)
  (fun b o hc e=>⟨o,k b o hc e⟩) (fun b xs e=>by rw [aG (aI e hn)]; exact e) (fun b o u e=>by rw [aG (aI e hn)]; exact e) (fun b ps e=>⟨#[],by rw [aG (aI e hn),e]; simp⟩) (fun m hm=>?_) (fun b u e=>?_) I.bare
 ·obtain ⟨f0,f1,f2,f3,f4,f5⟩:=hf b hb
  exact ⟨f3,f1,f4,f5⟩
 ·obtain ⟨ob,es,ep,ho,r⟩:=hm
  exact ⟨ob,es,ep,k _ ob nl ho,r⟩
 ·by_cases hb:b=a
  ·subst hb
   rw [au] at e
   cases e
   exact new
  ·rw [aG hb] at e
   refine (I.hok b u e).stay (fun c v hc q=>k c v ?_ q) (fun c q=>by rw [aG (aI q hn)]; exact q) fun c xs q=>by rw [aG (aI q hn)]; exact q
   rcases hc with z | z
   ·rw [z]; exact nch b u e
   ·exact nch c _ z
section
variable {X:Cx} {elts:List Expr} {x1:Nat} {tp:Pos}
end
end L2
namespace L2
open PySem PySem.Spec PyProof.Rows
section
variable {X:Cx}
end
end L2
namespace L2
open PySem PySem.Spec PyProof.Rows
section
variable {prog:Program} {w:World} {A:Around} {E:Value->Shared->Prop} {s:Shared}
end
section
variable {X:Cx}
end
end L2
namespace GX
open PySem PyProof.Rows
end GX
namespace GX
open PySem PyProof.Rows
section
variable {prog:Program} {w:World} {K:Type} [DecidableEq K] {knd:KeyKind prog w K} {A:Around} {E:Value->Shared->Prop} {s:Shared}
end
end GX
namespace GX
open PySem PyProof.Rows
section
variable {prog:Program} {w:World} {K:Type} [DecidableEq K] {knd:KeyKind prog w K} {A:Around} {E:Value->Shared->Prop} {s:Shared}
end
end GX
namespace L2
open PySem PySem.Spec PyProof.Rows
section
variable {X:Cx}
end
end L2
namespace GX
open PySem PySem.Spec PyProof.Rows
section
variable {prog:Program} {w:World} {K:Type} [DecidableEq K] {knd:HeapKind prog w K} {d a:Addr} {xs:List (K×Addr×Value)} {k:K} {dflt:Value}
theorem Ip (hS:(d == sysModules)=false) (hz:xs.length<=sizeLine) :
  MeetsIn prog w (Builtin.«dict.setdefault» ⟨[.ref d,.ref a,dflt],[]⟩) (fun A R s=>knd.room A.in1/\knd.is s.heap k a/\s.heap.DictOfH knd d xs/\(∀ v tk,(atKey xs k).map (·.2)=some v->R (.ok (.ret v)) { s with toks:=tk }) /\
   (atKey xs k=none->∀ g tk,g.DictOfH knd d (storedH xs k a dflt)->Heap.SameBut d s.heap g->R (.ok (.ret dflt)) { s with heap:=g,toks:=tk })) :=
 .of_wp fun A R s ⟨hu,hk,dd,q1,q2⟩=>by
  obtain ⟨o,es,ep,ho,hc,hd,he,his,hn⟩:=id dd
  unfold Builtin.«dict.setdefault»
  refine wpAny_bind ?_
  unfold Builtin.Dict.keyAndDefault
  refine wpAny_bind (wpAny_notOrdered_dict ⟨o,ho,hc.1⟩ ?_)
  show wpAny _ _ (pure (d,Value.ref a,some dflt)) _ _ s
  refine wpAny_pure ?_
  show wpAny _ _ (if (d == sysModules)=true then _ else (dictSetDefault d (.ref a) dflt >>= _)) _ _ s
  rw [if_neg (by rw [hS]; exact Bool.false_ne_true)]
  refine wpAny_bind ?_
  unfold dictSetDefault
  refine wpAny_holding (wpAny_bind (knd.pyHash hu hk ?_))
  refine wpAny_bind (wpAny_dictFind_heap (s:={ s with toks:=s.toks + knd.draws k }) hu hk ho hd he his hn ?_ ?_)
  ·intro no
   have n0:=atKey_none_of_get no
   refine wpAny_bind (wpAny_rule (wpAny_bind ?_))
   refine wpAny_updateDictKeys (hz:=by have e:=size_of_entries he; omega) (s:={ s with toks:=s.toks + knd.draws k }) ho hd (wpAny_pure (wpAny_pure ⟨_,rfl,?_⟩))
   refine q2 n0 _ _ ⟨_,_,ep + 1,Heap.get?_update_self _ ho (Obj.isFreed_of_dict (Obj.data_mapDictKeys hd _)),hc.mapDictKeys _,Obj.data_mapDictKeys hd _,?_,?_,?_⟩ (Heap.SameBut.update ..)
   ·rw [storedH_new n0]
    simp [he,entryOfKey]
   ·rw [storedH_new n0]
    intro x hx
    rcases List.mem_append.mp hx with z | z
    ·exact knd.keeps (his x z) ho hd (Heap.SameBut.update ..)
    ·cases List.mem_singleton.mp z
     exact knd.keeps hk ho hd (Heap.SameBut.update ..)
   ·rw [storedH_new n0,List.map_append,List.nodup_append]
    refine ⟨hn,by simp,fun x hx y hy e=>?_⟩
    cases List.mem_singleton.mp hy
    have e:x=k:=e
    exact not_mem_keys_of_get no (by rw [← e]; exact hx)
  ·intro j p hj
   refine wpAny_bind (wpAny_dictEntries (s:={ s with toks:=s.toks + knd.draws k }) ho hd ?_)
   rw [entry_at he j,hj]
   refine wpAny_bind (wpAny_rule (wpAny_pure (wpAny_pure ⟨_,rfl,?_⟩)))
   exact q1 _ _ (by rw [atKey_of_get hn hj]; rfl)
theorem z8 {A:Around} {s:Shared} {E:Value->Shared->Prop} {Q:Value->Shared->Prop} (hu:knd.room A.in1) (hk:knd.is s.heap k a) (dd:s.heap.DictOfH knd d xs) (hS:(d == sysModules)=false) (hz:xs.length<=sizeLine)
  (q1:∀ v tk,(atKey xs k).map (·.2)=some v->Q v { s with toks:=tk }) (q2:atKey xs k=none->∀ g tk,g.DictOfH knd d (storedH xs k a dflt)->Heap.SameBut d s.heap g->Q dflt { s with heap:=g,toks:=tk }) :
  wpAny (model prog w) A (call (.builtin "dict.setdefault") [.ref d,.ref a,dflt]) Q E s:=by
 obtain ⟨o,es,ep,ho,hc,_⟩:=id dd
 exact call_meetsIn F.slot_dict_setdefault ⟨o,ho,hc.1⟩ F.entry_dict_setdefault (F.args_dict_setdefault_3 _ _ _) (Ip hS hz) ⟨hu,hk,dd,fun v tk e=>q1 v tk e,fun n g tk dg sb=>q2 n g tk dg sb⟩
end
end GX
namespace L2
open PySem PySem.Spec PyProof.Rows
def He:V->List V->Hp->VK->Prop:=fun x vs H Q=>∃ (d t:Addr) (kvs:List (List cU×V)) (k:List cU) (y:V),x=.ref d/\vs=[.ref t,y]/\H d=some (.dT kvs)/\H t=some (.tup (k.map kV))/\kvs.length < 1000/\(∀ v,cD kvs k=some v->Q v H)/\(cD kvs k=none->Q y (upd H d (.dT (eL kvs k y))))
section
variable {X:Cx}
theorem BG (hu:X.A.units + 1 < cLine):Js X "dict.setdefault" He:=by
 intro pins s σ H x xs v us Q I rx rv h
 obtain ⟨d,t,kvs,k,y,rfl,rfl,hd,ht,hl,q1,q2⟩:=h
 cases rx
 obtain ⟨u1,u2,rfl,r1,r2⟩:=rv.two
 cases r1
 obtain ⟨z,hS,es,kt,dd⟩:=D7 I.hok hd
 have hv:=kt.val k
 refine GX.z8 (A:=X.A) (knd:=tupleKind (bB X.prog X.w)) (tupleKind_room_in1 hu) (oz I.hok ht) dd hS (by rw [← Paired.length kt]; exact z) (fun v tk e=>?_) fun n g tk dd' sb=>?_
 ·cases w:cD kvs k with
  | none =>
   rw [w] at hv
   rw [fZ.none_of hv] at e
   cases e
  | some v0 =>
   rw [w] at hv
   obtain ⟨u,hu,ru⟩:=fZ.some_of hv
   rw [hu] at e
   cases e
   exact ⟨v0,H,I.tok _,ru,q1 v0 w⟩
 ·have w:cD kvs k=none:=by
   cases w:cD kvs k with
   | none=>rfl
   | some v0 =>
    rw [w] at hv
    obtain ⟨u,hu,ru⟩:=fZ.some_of hv
    rw [n] at hu
    cases hu
  have lp:(eL kvs k y).length<=1000:=by
   have:=gH kvs k y
   omega
  have up:∀ c ys,H c=some (.tup ys)->upd H d (.dT (eL kvs k y)) c=some (.tup ys):=fun c ys ec=>by
   rw [aG (bK ec hd (fun z=>nomatch z))]
   exact ec
  obtain ⟨o,fs,ep,ho,h2,h3,h4,_,h5⟩:=dd'
  exact ⟨y,_,uT (ob:=.dT (eL kvs k y)) I (by rw [hd]; exact True.intro) sb ⟨o,ho⟩ ⟨Nat.le_of_lt (aD lp),hS,_,(kt.put k ht r2).keeps up,o,fs,ep,ho,h2,h3,h4,h5⟩,r2,q2 w⟩
end
def GW (K:PySem.W.Frag) (a:Addr):It :=
 ⟨fun i H=>∃ xs x,bb K H a xs/\xs[i]?=some x,fun i H v H'=>∃ x t,(∀ xs,bb K H a xs->xs[i]?=some x)/\H t=none/\v=.ref t/\H'=upd H t (.tup [.int i,x]),fun i H=>∃ xs,bb K H a xs/\xs.length<=i⟩
theorem zv {P:Program} {w:World} {K:PySem.W.Frag} {elts:List Expr} {x1:Nat} {tp:Pos} {a e it:Addr} (ne:e≠it) :
  yr P w K (.Tuple elts x1 tp) (GW K a) [e,it] e (fun i h=>(∃ old,IsEnum h e it i old)/\h.IsListIter it a i) where
 mem:=by simp
 obj:=fun i h st c hc=>by
  obtain ⟨⟨old,he⟩,o,e1,c1,d1⟩:=st
  simp only [List.mem_cons,List.not_mem_nil,or_false] at hc
  rcases hc with rfl | rfl
  ·exact ⟨_,he,fun v z=>by have z':Data.fields _=Data.cell v:=z; cases z'⟩
  ·exact ⟨o,e1,fun v z=>by rw [d1] at z; cases z⟩
 keep:=fun i h h' st k=>by
  obtain ⟨⟨old,he⟩,h1⟩:=st
  exact ⟨⟨old,k _ (by simp) _ he⟩,h1.at fun o q=>k _ (by simp) o q⟩
 item:=by
  intro X hP hw hK hc i pins s σ H E I hf st hg
  subst hP hw hK
  obtain ⟨⟨old,he⟩,h1⟩:=st
  obtain ⟨xs,x,qa,hx⟩:=hg
  obtain ⟨its,rv,pl,hz⟩:=I.list qa
  obtain ⟨u,hu,ru⟩:=rv.get hx
  refine wpAny_pyNext_enum_item he h1 pl.isList (x:=u) (by simpa using hu) ne fun h' c1 c2 c3 _ kp=>?_
  have sne:∀ c o,s.heap.get? c=some o->s.heap.objs.size≠c:=fun c o q z=>by
   have:=Heap.lt_size q
   rw [← z] at this
   exact Nat.lt_irrefl _ this
  obtain ⟨o1,e1,_⟩:=id h1
  have I1:aV X pins σ (upd H s.heap.objs.size (.tup [.int i,x])) { s with heap:=h' } :=
   I.turnLays (ch:=[e,it]) (fun b o nb q=>kp b o (fun z=>nb (by simp [z])) (fun z=>nb (by simp [z])) q) hf (Nat.le_refl _) ⟨by show 2<=sizeLine; decide,[.int i s.toks,u],.cons ⟨_,rfl⟩ (.cons ru .nil),_,c3,rfl,0,rfl,rfl,rfl⟩
  have fn:∀ c∈[e,it],(upd H s.heap.objs.size (.tup [.int i,x])) c=none:=fun c hc=>by
   rw [aG]
   ·exact (hf c hc).1
   ·simp only [List.mem_cons,List.not_mem_nil,or_false] at hc
    rcases hc with rfl | rfl
    ·exact (sne _ _ he).symm
    ·exact (sne _ _ e1).symm
  refine ⟨_,rfl,wpAny_letOwnedTupleGo_enum c1 fun h2 d1 sb=>?_⟩
  obtain ⟨f0,f1,f2,f3,f4,f5⟩:=hf e (by simp)
  have I2:aV X pins σ (upd H s.heap.objs.size (.tup [.int i,x])) { s with heap:=h2,toks:=s.toks + 1 }:=I1.turned (t':=s.toks + 1) (fun b o hb q=>(sb.2 b hb).trans q) (fn e (by simp)) f1 f3 f4 f5
  refine ⟨.ref s.heap.objs.size,_,I2,rfl,⟨x,_,fun ys h=>by rw [I.list_inj h qa]; exact hx,I.hok.fresh (Nat.le_refl _),rfl,rfl⟩,⟨⟨u,?_⟩,c2.at fun o q=>(sb.2 _ (Ne.symm ne)).trans q⟩,fn⟩
  simpa using d1
 done:=by
  intro X hP hw hK hc i pins s σ H E I hf st hg
  subst hP hw hK
  obtain ⟨⟨old,he⟩,h1⟩:=st
  obtain ⟨xs,qa,hl⟩:=hg
  obtain ⟨its,rv,pl,hz⟩:=I.list qa
  have ln:=rv.length
  obtain ⟨f0,f1,f2,f3,f4,f5⟩:=hf it (by simp)
  exact wpAny_pyNext_enum_end (I.ok.hd hc) he h1 pl.isList (by simp; omega) fun h' eb=>⟨rfl,I.turned (t':=s.toks) (fun b o hb q=>eb b o hb q) f0 f1 f3 f4 f5⟩
 self:=fun _ _ _ _ _ st h=>by
  obtain ⟨⟨old,he⟩,_⟩:=st
  exact wpAny_pyIter_enum he h
section
variable {X:Cx} {elts:List Expr} {x1:Nat} {tp:Pos}
def Ef (K:PySem.W.Frag) (ta:TA):TI:=fun σ H R=>ta σ H fun vs H1=>∃ a xs,vs=[.ref a]/\bb K H1 a xs/\R (GW K a) H1
theorem DH {a:Expr} {ta:TA} {p pos:Pos} (hg:Gl X "enumerate") (hm:X.mg "enumerate"=none) (ha:PA X [a] ta) (hs:starEach [a] X.env=[(false,eval a X.env)]:=by rfl) :
  PI X (.Tuple elts x1 tp) (.Call (.Name "enumerate" p) [a] [] pos) (Ef X.K ta):=by
 intro pins s σ H R I h
 refine Call_ (rR I hg hm boot_enumerate (PyProof.Rows.callWith_type1 (cE (ha pos pins s σ H _ I h) fun us s1 ⟨vs,H1,I1,r1,q1⟩=>?_) hs (by rfl)))
 obtain ⟨l,xs,rfl,ql,R1⟩:=q1
 obtain ⟨u,rfl,ru⟩:=kS r1
 cases ru
 obtain ⟨its,rv,pl,hz⟩:=I1.list ql
 refine call_enumerate_list pl.isList fun h' c1 c2 c3 k=>wpAny_pyIter_enum c1 ?_
 refine ⟨_,_,_,_,H1,rfl,I1.kept (t':=s1.toks) k,zv (e:=s1.heap.objs.size + 1) (it:=s1.heap.objs.size) (Nat.succ_ne_self _),⟨⟨_,c1⟩,c2⟩,fun c hc=>?_,R1⟩
 have hc':s1.heap.objs.size<=c:=by
  simp only [List.mem_cons,List.not_mem_nil,or_false] at hc
  rcases hc with rfl | rfl
  ·exact Nat.le_succ _
  ·exact Nat.le_refl _
 exact I1.fpOk hc' (I1.hok.fresh hc')
end
theorem BS {K:PySem.W.Frag} {a:Addr} {xs:List V} {g:TG} {tb:TS} {D:mI} {σ:St} {H:Hp} (Pv:Nat->St->Hp->Prop) (h0:Pv 0 σ H) (hl:∀ i σ H,i<=xs.length->Pv i σ H->bb K H a xs)
  (hs:∀ i x t σ H,xs[i]?=some x->H t=none->Pv i σ H->g (.ref t) σ (upd H t (.tup [.int i,x])) fun σ2 H2=>tb { D with nx:=Pv (i + 1),ct:=Pv (i + 1),bk:=D.nx } σ2 H2) (hd:∀ σ H,Pv xs.length σ H->D.nx σ H) :
  ∃ W:Nat->Nat->St->Hp->Prop,(∃ m,W 0 m σ H)/\∀ i m σ H,W i m σ H->((GW K a).stop i H/\D.nx σ H)∨((GW K a).go i H/\∃ N:St->Hp->Prop,(∀ σ' H',N σ' H'->∃ m',m' < m/\W (i + 1) m' σ' H')/\∀ x H',(GW K a).yld i H x H'->g x σ H' fun σ2 H2=>tb { D with nx:=N,ct:=N,bk:=D.nx } σ2 H2):=by
 refine ⟨fun i m σ H=>m=xs.length - i/\i<=xs.length/\Pv i σ H,⟨xs.length,rfl,Nat.zero_le _,h0⟩,fun i m σ H hW=>?_⟩
 obtain ⟨rfl,hi,p⟩:=hW
 have q:=hl i σ H hi p
 rcases Nat.lt_or_ge i xs.length with k | k
 ·refine .inr ⟨⟨xs,xs[i],q,List.getElem?_eq_getElem k⟩,Pv (i + 1),fun σ' H' p'=>⟨xs.length - (i + 1),by omega,rfl,k,p'⟩,fun v H' y=>?_⟩
  obtain ⟨x,t,h1,ht,rfl,rfl⟩:=y
  exact hs i x t σ H (h1 xs q) ht p
 ·have e:i=xs.length:=by omega
  subst e
  exact .inl ⟨⟨xs,q,k⟩,hd σ H p⟩
def mi (X:Cx) (f:Addr) (sp:Sp):Prop:=∃ k fd ps,aT X.prog X.w X.K X.mg X.base cy k f fd ps sp/\eM k X.A/\PySem.W.keepIn X.K (.ref f)=true/\Binds X.K fd ps []
def E5 (te:TE) (tbl:List (Addr×Sp)) (t:TA):TE:=fun σ H Q=>te σ H fun v H0=>∃ f sp,v=.ref f/\(f,sp)∈tbl/\t σ H0 fun vs H1=>sp vs H1 Q E0
theorem mi.of {X:Cx} {k:Nat} {f:Addr} {fd:FuncData} {ps:List Str} {sp:Sp} {x:Str} (F:aT X.prog X.w X.K X.mg X.base cy k f fd ps sp) (c:dP X.K X.mg x f fd ps) (hr:eM k X.A):mi X f sp:=⟨k,fd,ps,F,hr,c.kp,c.bd⟩
theorem CY {X:Cx} {x:Str} {e:Expr} {es:List Expr} {te:TE} {t:TA} {p pos:Pos} (tbl:List (Addr×Sp)) (hF:∀ f sp,(f,sp)∈tbl->mi X f sp) (hf:PE X (.Name x p) te) (ha:PA X (e :: es) t)
  (he:starEach (e :: es) X.env=(false,eval e X.env) :: starEach es X.env:=by rfl) (hpl:(backTo pos (starEach es X.env)).any (·.1)=false:=by rfl) :
  PE X (.Call (.Name x p) (e :: es) [] pos) (E5 te tbl t):=by
 intro pins s σ H Q I h
 refine wpAny_Call_Name_kw (cE (hf pins s σ H _ I h) fun u s0 ⟨v,H0,I0,r0,q0⟩=>?_)
 obtain ⟨f,sp,rfl,hm,q⟩:=q0
 cases r0
 obtain ⟨k,fd,ps,F,hr,hk,hb⟩:=hF f sp hm
 refine PySem.W.callWith_K (h₀:=X.base) I0.ok.mod.kin hk (cE (ha pos pins s0 σ H0 _ I0 q) fun us s1 ⟨vs,H1,I1,r,q⟩=>⟨I1.kIn,?_⟩) he hpl
 exact r9 F hr hb .nil sr I1 r (by rw [List.append_nil]; exact q)
end L2
namespace L2
open PySem PySem.Spec PyProof.Rows
def Er (a b c d:V):List (Str×V):=[("told_lists",a),("told_calls",b),("met_ones",c),("gone_counts",d)]
structure fN (K:PySem.W.Frag) (C:Addr):Prop where
 cl:xv K C
 n1:dA K C "told_lists"
 n2:dA K C "told_calls"
 n3:dA K C "met_ones"
 n4:dA K C "gone_counts"
def pY (h r n e c o:V):List (Str×V):=[("hand",h),("record",r),("number",n),("newest",e),("counts",c),("ones",o)]
structure gS (K:PySem.W.Frag) (C:Addr):Prop where
 cl:xv K C
 n1:dA K C "hand"
 n2:dA K C "record"
 n3:dA K C "number"
 n4:dA K C "newest"
 n5:dA K C "counts"
 n6:dA K C "ones"
section
variable {a b c d h r n e o v:V}
theorem Cj:eO "gone_counts" d (eO "met_ones" c (eO "told_calls" b (eO "told_lists" a [])))=Er a b c d:=by kernel_rfl
theorem Az:eO "ones" o (eO "counts" c (eO "newest" e (eO "number" n (eO "record" r (eO "hand" h [])))))=pY h r n e c o:=by kernel_rfl
theorem qN:(Er a b c d).lookup ("told_lists":Str)=some a:=by kernel_rfl
theorem rF:(Er a b c d).lookup ("told_calls":Str)=some b:=by kernel_rfl
theorem uE:(Er a b c d).lookup ("met_ones":Str)=some c:=by kernel_rfl
theorem pM:(Er a b c d).lookup ("gone_counts":Str)=some d:=by kernel_rfl
theorem yb:(pY h r n e c o).lookup ("hand":Str)=some h:=by kernel_rfl
theorem ud:(pY h r n e c o).lookup ("record":Str)=some r:=by kernel_rfl
theorem uI:(pY h r n e c o).lookup ("number":Str)=some n:=by kernel_rfl
theorem mX:eO "number" v (pY h r n e c o)=pY h r v e c o:=by kernel_rfl
theorem uJ:(pY h r n e c o).lookup ("newest":Str)=some e:=by kernel_rfl
theorem uC:eO "newest" v (pY h r n e c o)=pY h r n v c o:=by kernel_rfl
theorem vq:(pY h r n e c o).lookup ("counts":Str)=some c:=by kernel_rfl
theorem vh:eO "counts" v (pY h r n e c o)=pY h r n e v o:=by kernel_rfl
theorem yF:(pY h r n e c o).lookup ("ones":Str)=some o:=by kernel_rfl
theorem rh:eO "ones" v (pY h r n e c o)=pY h r n e c v:=by kernel_rfl
theorem sM:(pY h r n e c o).lookup ("goes_on":Str)=none:=by kernel_rfl
theorem pI:(pY h r n e c o).lookup ("takes_one":Str)=none:=by kernel_rfl
theorem kQ:(pY h r n e c o).lookup ("ones_on_record":Str)=none:=by kernel_rfl
theorem sR:(pY h r n e c o).lookup ("go_over":Str)=none:=by kernel_rfl
theorem lV:(pY h r n e c o).lookup ("go_over_list":Str)=none:=by kernel_rfl
theorem mj:(pY h r n e c o).lookup ("go_over_take":Str)=none:=by kernel_rfl
theorem AH:(pY h r n e c o).length < 1000:=by show 6 < 1000; decide
end
end L2
namespace L2
open PySem PySem.Spec PyProof.Rows
def Gz:Option cU->Value->Bool
 | none,.none=>true
 | none,_=>false
 | some k,v=>iA k v
theorem fo {v:Value} (h:Gz none v=true):v=.none:=by
 cases v <;> first | rfl | (simp [Gz] at h)
theorem oH {k:cU}:iA k .none=false:=by
 cases z:iA k .none with
 | false=>rfl
 | true=>rcases bT z with ⟨i,t,_,e⟩ | ⟨x,t,_,e⟩ <;> cases e
def EC (prog:Program) (w:World):KeyKind prog w (Option cU) where
 is:=Gz
 hash:=fun o=>match o with
  | none=>reduceHash 0xFCA86420
  | some k=>(bB prog w).hash k
 inj:=fun v a b ha hb=>by
  cases a with
  | none =>
   cases b with
   | none=>rfl
   | some b=>rw [fo ha] at hb; rw [show Gz (some b) .none=iA b .none from rfl,oH] at hb; cases hb
  | some a =>
   cases b with
   | none=>rw [fo hb] at ha; rw [show Gz (some a) .none=iA a .none from rfl,oH] at ha; cases ha
   | some b=>exact congrArg some ((bB prog w).inj v a b ha hb)
 byValue:=fun k v h=>by
  cases k with
  | none=>rw [fo h]; rfl
  | some k=>exact (bB prog w).byValue k v h
 pyHash:=fun {A E s k v Q} hv h=>by
  cases k with
  | none =>
   rw [fo hv]
   show wpAny _ _ (pyHashByItsType .none) _ _ _
   exact PySem.W.pyHash_slot (T:="NoneType") rfl F.slot_NoneType_hash F.entry_NoneType_hash (F.args_NoneType_hash_1 _) (beq_builtin_none _) (.inl rfl) (wpAny_bind (wpAny_pure (wpAny_bind (wpAny_mkInt (wpAny_pure ⟨_,_,rfl,h⟩)))))
  | some k=>exact (bB prog w).pyHash hv h
 eqBool:=fun {A E s a b u v Q} hu hv h=>by
  cases a with
  | none =>
   rw [fo hu]
   cases b with
   | none=>rw [fo hv]; exact SeqAt.EqAt.same _ _ _ _ _ h
   | some b =>
    rcases bT (show iA b v=true from hv) with ⟨i,t,rfl,rfl⟩ | ⟨x,t,rfl,rfl⟩
    ·exact SeqAt.EqAt.none_int i t _ _ _ _ h
    ·exact SeqAt.EqAt.none_str x t _ _ _ _ h
  | some a =>
   cases b with
   | none =>
    rw [fo hv]
    rcases bT (show iA a u=true from hu) with ⟨i,t,rfl,rfl⟩ | ⟨x,t,rfl,rfl⟩
    ·exact SeqAt.EqAt.int_none i t _ _ _ _ h
    ·exact SeqAt.EqAt.str_none x t _ _ _ _ h
   | some b=>exact (bB prog w).eqBool hu hv (by rw [show decide (a=b)=decide (some a=some b) by simp]; exact h)
 «strs»:=fun k x t v h=>by
  cases k with
  | none=>have:=fo h; cases this
  | some k=>exact (bB prog w).strs k x t v h
def BJ (td ty tx:TE):TE:=fun σ H Q=>td σ H fun x H1=>∃ a,x=.ref a/\Ht H1 a/\ty σ H1 fun y H2=>tx σ H2 fun z H3=>(y=.non/\(∃ kvs,Rd H3 a (.dK kvs))/\Q z H3)∨∃ o,mJ H3 a y o/\Q (o.getD z) H3
theorem DJ {prog:Program} {w:World} {h:Heap} {a:Addr} {f:cU->Option Value} (m:h.MapOf (bB prog w) a f):∃ g,h.MapOf (EC prog w) a g/\g none=none:=by
 obtain ⟨o,es,ep,h1,h2,h3,h4,h5⟩:=m
 refine ⟨findBy Gz es,⟨o,es,ep,h1,h2,h3,fun e he=>?_,fun _=>rfl⟩,?_⟩
 ·obtain ⟨k,k1,k2⟩:=h4 e he
  exact ⟨some k,k1,k2⟩
 ·unfold findBy
  have:es.find? (fun e=>Gz none e.key)=none:=by
   rw [Array.find?_eq_none]
   intro e he z
   obtain ⟨k,k1,k2⟩:=h4 e he
   rw [fo z] at k1
   rw [show (bB prog w).is k .none=iA k .none from rfl,oH] at k1
   cases k1
  rw [this]
  rfl
section
variable {X:Cx} {o e f:Expr} {apos cpos:Pos} {td ty tx:TE}
theorem Bw (hu:X.A.units + 1 < cLine) (ho:PE X o td) (he:PE X e ty) (hf:PE X f tx) (m:M2 X o "get" apos e f cpos):PE X (.Call (.Attribute o "get" apos) [e,f] [] cpos) (BJ td ty tx):=by
 intro pins s σ H Q I h
 refine wpAny_Call_method m.base m.few m.line PySem.F.plainAttrs_dict PySem.F.slot_dict_get PySem.F.type_dict_get (cE (ho pins s σ H _ I h) fun u s1 ⟨x,H1,I1,rx,a,ex,d,q1⟩=>?_)
 subst ex
 obtain rfl:u=Value.ref a:=rx
 obtain ⟨t1,t2,_⟩:=Bb I1 d
 refine ⟨t1,t2,?_⟩
 rw [m.trees]
 refine Calls.callWith_builtin rfl (Calls.evalArgs_plain (Calls.spliced_cons (cE (he pins s1 σ H1 _ I1 q1) fun iv s2 ⟨y,H2,I2,ry,q2⟩ =>
  Calls.spliced_cons (cE (hf pins s2 σ H2 _ I2 q2) fun fv s3 ⟨z,H3,I3,rz,g⟩=>Calls.spliced_nil ?_))))
 rcases g with ⟨rfl,⟨kvs,rd⟩,q3⟩ | ⟨ov,g,q3⟩
 ·cases ry
  obtain ⟨_,hd,vs,rel,dd⟩:=kl I3.hok rd
  obtain ⟨g,mg,g0⟩:=DJ dd.mapOf
  refine call_meetsIn PySem.F.slot_dict_get dd.typeIs PySem.F.entry_dict_get (PySem.F.args_dict_get_3 _ _ _) (meets_dict_get_default (EC X.prog X.w) (k:=none) a rfl hd _) ⟨_,mg,z,H3,I3.tok _,?_,q3⟩
  rw [g0]
  exact rz
 ·exact AN hu I3 g ry rz fun w' s4 I4 rw'=>⟨_,H3,I4,rw',q3⟩
end
end L2
namespace L2
open PySem PySem.Spec PyProof.Rows
section
variable {X:Cx} {pins:List (Addr×Obj)} {σ:St} {H:Hp} {s:Shared}
end
end L2
namespace L2
open PySem PySem.Spec PyProof.Rows
def Ha (m n:List (Int×Int)):Bool:=m.all fun p=>decide (lA n p.1=some p.2)
def fz (m n:List (Int×Int)):Bool:=decide (m.length=n.length) && Ha m n
theorem Dx {A:Around} {s:Shared} {n:List (Int×Int)} {ws:List (cU×Value)} (rn:KV (dI n) ws) (m:List (Int×Int)):∀ {vs:List (cU×Value)},KV (dI m) vs->PySem.W.KeqHits A s ws vs (Ha m n):=by
 induction m with
 | nil=>intro vs r; have r':KV [] vs:=r; cases r'; exact .nil
 | cons p m ih =>
  intro vs r
  have r':KV ((Sum.inl p.1,V.int p.2) :: dI m) vs:=r
  cases r' with
  | @cons _ q _ qs r1 r2 =>
   obtain ⟨k,v⟩:=q
   obtain rfl:(Sum.inl p.1:cU)=k:=r1.1
   obtain ⟨t,rfl⟩:=(show ∃ t,v=Value.int p.2 t from r1.2)
   have z:=rn.val (Sum.inl p.1)
   rw [rQ] at z
   unfold Ha
   rw [List.all_cons]
   cases c:lA n p.1 with
   | none =>
    rw [c] at z
    rw [decide_eq_false (by intro w; cases w),Bool.false_and]
    exact .miss (fZ.none_of z)
   | some b =>
    rw [c] at z
    obtain ⟨y,hy,ry⟩:=fZ.some_of z
    obtain ⟨t',rfl⟩:=(show ∃ t,y=Value.int b t from ry)
    have e:=SeqAt.EqAt.int_int (A:=A) (s:=s) p.2 t b t'
    have h:=PySem.W.KeqHits.hit hy e (ih r2)
    rw [show decide (some b=some p.2)=(p.2 == b) by
     by_cases w:p.2=b
     ·rw [w]; simp
     ·rw [decide_eq_false (fun z=>w (Option.some.inj z).symm)]; simp [w]]
    exact h
def IW:R2:=fun x y H Q=>∃ (a c:Addr) (m n:List (Int×Int)),x=.ref a/\y=.ref c/\Rd H a (.dK (dI m))/\Rd H c (.dK (dI n))/\Q (.bl (!fz m n)) H
section
variable {X:Cx}
theorem AQ (hu:X.A.units < cLine):j3 X (compareOp .NotEq) IW:=by
 intro pins s σ H x y v u Q I rx ry h
 obtain ⟨a,c,m,n,rfl,rfl,ha,hb,q⟩:=h
 cases rx
 cases ry
 obtain ⟨_,s1,vs,r1,d1⟩:=kl I.hok ha
 obtain ⟨_,s2,ws,r2,d2⟩:=kl I.hok hb
 have e1:vs.length=m.length:=by rw [← r1.length,oF]
 have e2:ws.length=n.length:=by rw [← r2.length,oF]
 refine PySem.W.keq_ne s1 s2 d1 d2 hu (r:=Ha m n) (fun _=>Dx r2 m r1) ⟨.bl (!fz m n),H,I,?_,q⟩
 rw [e1,e2]
 rfl
end
theorem jd {m n:List (Int×Int)} (nm:(m.map (·.1)).Nodup) (nn:(n.map (·.1)).Nodup):fz m n=true↔∀ k,lA m k=lA n k:=by
 unfold fz Ha
 rw [Bool.and_eq_true,decide_eq_true_iff,List.all_eq_true]
 constructor
 ·rintro ⟨hl,h⟩ k
  have sub:∀ x∈m.map (·.1),x∈n.map (·.1):=fun x hx=>by
   obtain ⟨p,hp,rfl⟩:=List.mem_map.mp hx
   have:=of_decide_eq_true (h p hp)
   exact List.mem_map.mpr ⟨_,kM this,rfl⟩
  cases z:lA m k with
  | some v=>exact (of_decide_eq_true (h (k,v) (kM z))).symm
  | none =>
   cases y:lA n k with
   | none=>rfl
   | some v =>
    have kn:k∈n.map (·.1):=List.mem_map.mpr ⟨_,kM y,rfl⟩
    have km:k∉m.map (·.1):=fun w=>by
     obtain ⟨v',e⟩:=yI w
     rw [z] at e
     cases e
    have:=rW (l:=k :: m.map (·.1)) (m:=n.map (·.1)) (List.nodup_cons.mpr ⟨km,nm⟩) fun x hx=>by
     rcases List.mem_cons.mp hx with e | e
     ·rw [e]; exact kn
     ·exact sub x e
    rw [List.length_cons,List.length_map,List.length_map] at this
    omega
 ·intro h
  refine ⟨?_,fun p hp=>decide_eq_true ?_⟩
  ·have a1:=rW (l:=m.map (·.1)) (m:=n.map (·.1)) nm fun x hx=>by
    obtain ⟨p,hp,rfl⟩:=List.mem_map.mp hx
    have e:=wY (k:=p.1) (v:=p.2) nm hp
    rw [h] at e
    exact List.mem_map.mpr ⟨_,kM e,rfl⟩
   have a2:=rW (l:=n.map (·.1)) (m:=m.map (·.1)) nn fun x hx=>by
    obtain ⟨p,hp,rfl⟩:=List.mem_map.mp hx
    have e:=wY (k:=p.1) (v:=p.2) nn hp
    rw [← h] at e
    exact List.mem_map.mpr ⟨_,kM e,rfl⟩
   rw [List.length_map,List.length_map] at a1 a2
   omega
  ·rw [← h]
   exact wY nm hp
end L2
namespace L2
open PySem PySem.Spec PyProof.Rows
mutual
inductive Dz (K:PySem.W.Frag) (H:Hp):V->PyData->Prop
 | p {x:V} {d:PyData}:Dp K H x d->Dz K H x d
 | t {a:Addr} {xs:List V} {ds:List PyData}:aZ K H a xs->mE K H xs ds->Dz K H (.ref a) (.tuple ds)
 | l {a:Addr} {xs:List V} {ds:List PyData}:bb K H a xs->mE K H xs ds->Dz K H (.ref a) (.list ds)
inductive mE (K:PySem.W.Frag) (H:Hp):List V->List PyData->Prop
 | nil:mE K H [] []
 | cons {x:V} {xs:List V} {d:PyData} {ds:List PyData}:Dz K H x d->mE K H xs ds->mE K H (x :: xs) (d :: ds)
end
section
variable {X:Cx} {pins:List (Addr×Obj)} {σ:St} {H:Hp} {s:Shared}
mutual
theorem Dz.reads (I:aV X pins σ H s):∀ {x:V} {d:PyData} {u:Value},Dz X.K H x d->RelV x u->∃ as,Reads s.heap u d as
 | _,_,_,.p h,r=>h.reads I r
 | _,_,_,.t h q,r=>by
  cases r
  obtain ⟨its,rv,⟨o,e,c,n,dd⟩,_⟩:=I.tuple h
  obtain ⟨as,z⟩:=mE.reads I q rv
  exact ⟨_,.tuple e c dd (by simpa using z)⟩
 | _,_,_,.l h q,r=>by
  cases r
  obtain ⟨its,rv,⟨o,n,e,c,_,dd⟩,_⟩:=I.list h
  obtain ⟨as,z⟩:=mE.reads I q rv
  exact ⟨_,.list e c dd (by simpa using z)⟩
theorem mE.reads (I:aV X pins σ H s):∀ {xs:List V} {ds:List PyData} {us:List Value},mE X.K H xs ds->Vals xs us->∃ as,ReadsAll s.heap us ds as
 | _,_,_,.nil,r=>by cases r; exact ⟨_,.nil⟩
 | _,_,_,.cons h q,r=>by
  cases r with
  | cons r1 r2 =>
   obtain ⟨as,z⟩:=Dz.reads I h r1
   obtain ⟨bs,z2⟩:=mE.reads I q r2
   exact ⟨_,.cons z z2⟩
end
def zQ (K:PySem.W.Frag):R2:=fun x y H Q=>∃ d e,Dz K H x d/\Dz K H y e/\d.canLay0=true/\e.canLay0=true/\min d.depth e.depth<=60/\Q (.bl (!d.eqv e)) H
theorem ia {K:PySem.W.Frag} (hK:X.K=K) (hu:X.A.units + 64 < cLine):j3 X (compareOp .NotEq) (zQ K):=by
 subst hK
 intro pins s σ H x y v u Q I rx ry h
 obtain ⟨d,e,h1,h2,c1,c2,dp,q⟩:=h
 obtain ⟨as,r1⟩:=h1.reads I rx
 obtain ⟨bs,r2⟩:=h2.reads I ry
 exact SeqAt.compareNe_reads r1 r2 c1 c2 (by omega) ⟨.bl _,H,I,rfl,q⟩
def Df (K:PySem.W.Frag):R2:=fun x y H Q=>∃ d e,Dz K H x d/\Dz K H y e/\d.canLay0=true/\e.canLay0=true/\min d.depth e.depth<=60/\Q (.bl (d.eqv e)) H
theorem uz {K:PySem.W.Frag} (hK:X.K=K) (hu:X.A.units + 64 < cLine):j3 X (compareOp .Eq) (Df K):=by
 subst hK
 intro pins s σ H x y v u Q I rx ry h
 obtain ⟨d,e,h1,h2,c1,c2,dp,q⟩:=h
 obtain ⟨as,r1⟩:=h1.reads I rx
 obtain ⟨bs,r2⟩:=h2.reads I ry
 exact SeqAt.compareEq_reads r1 r2 c1 c2 (by omega) ⟨.bl _,H,I,rfl,q⟩
end
section
variable {K:PySem.W.Frag} {H:Hp}
theorem mE.len:∀ {xs:List V} {ds:List PyData},mE K H xs ds->xs.length=ds.length
 | _,_,.nil=>rfl
 | _,_,.cons _ t=>by rw [List.length_cons,List.length_cons,mE.len t]
mutual
theorem Dz.same {H':Hp} (s:aE H H'):∀ {x:V} {d:PyData},Dz K H x d->Dz K H' x d
 | _,_,.p h=>.p (h.mono (Hf.same s))
 | _,_,.t h q=>.t (q9 s h) (mE.same s q)
 | _,_,.l h q=>.l (s.seq h) (mE.same s q)
theorem mE.same {H':Hp} (s:aE H H'):∀ {xs:List V} {ds:List PyData},mE K H xs ds->mE K H' xs ds
 | _,_,.nil=>.nil
 | _,_,.cons h q=>.cons (Dz.same s h) (mE.same s q)
end
theorem kJ {Q:VK} {a b:Addr} {xs:List V} {ds:List PyData} (ha:bb K H a xs) (hx:mE K H xs ds) (hl:PyData.canLayAll0 ds=true) (hb:bb K H b []) (q:Q (.bl (!xs.isEmpty)) H):zQ K (.ref a) (.ref b) H Q:=by
 refine ⟨.list ds,.list [],.l ha hx,.l hb .nil,by rw [PyData.canLay0.eq_5]; exact hl,rfl,by have:(PyData.list []).depth=1:=rfl; omega,?_⟩
 have e:(PyData.list ds).eqv (.list [])=xs.isEmpty:=by
  have:=hx.len
  cases ds with
  | nil=>rw [List.length_eq_zero_iff.mp this]; rfl
  | cons d ds =>
   cases xs with
   | nil=>simp at this
   | cons x xs=>rfl
 rw [e]
 exact q
end
end L2
namespace HT
open PySem PySem.Spec PyProof.Rows
section
variable {prog:Program} {w:World} {A:Around} {E:Value->Shared->Prop} {s:Shared}
theorem mW {t sl:Addr} {items:Array Value} {vl vu:Value} {lo hi:Option Int} {Q:Value->Shared->Prop} (ht:IsTup s.heap t items) (hs:s.heap.IsSliceOf sl vl vu .none) (pl:IsPart vl lo) (pu:IsPart vu hi)
  (hw:dF items.size 0 lo=0/\dF items.size items.size hi=items.size) (h:Q (.ref t) s):wpAny (model prog w) A (getItem (.ref t) (.ref sl)) Q E s:=by
 obtain ⟨os,hos,hcs,hds⟩:=id hs
 have hTs:s.TypeIs (.ref sl) "slice":=⟨os,hos,hcs⟩
 unfold getItem
 try with_reducible refine wpAny_holding ?_
 first | refine wpAny_bind (wpAny_pure ?_) | skip
 refine wpAny_bind (wpAny_sequenceKey ht.typeIs (by decide) ?_)
 refine wpAny_bind (wpAny_callSpecial?_slot (name:=Str.ofString "__getitem__") ht.typeIs PyProof.Rows.slot_tuple_getitem
  (wpAny_call_entry PyProof.Rows.slot_tuple_getitem ht.typeIs entry_tuple_getitem ?_ (args_tuple_getitem _ _)))
 show wpAny _ _ (Builtin.Tuple.tupleItemsOf (.ref t) >>= _) _ _ s
 refine wpAny_bind (tupleItemsOf_ ht ?_)
 refine wpAny_bind (wpAny_typeOf hTs ?_)
 rw [if_pos (by decide)]
 refine wpAny_bind (jr hs pl pu ?_)
 have hyes:((((dF items.size 0 lo:Nat):Int) == 0 && (1:Int) == 1 && (dF items.size items.size hi - dF items.size 0 lo) == items.size)=true):=by
  rw [hw.1,hw.2]
  simp
 show wpAny _ _ (if (((dF items.size 0 lo:Nat):Int) == 0 && (1:Int) == 1 && (dF items.size items.size hi - dF items.size 0 lo) == items.size)=true then _ else _) _ _ s
 rw [if_pos hyes]
 have hT:=ht.typeIs
 wp_walk
 exact ⟨_,rfl,wpAny_pure h⟩
end
end HT
namespace L2
open PySem PySem.Spec PyProof.Rows
def IQ (K:PySem.W.Frag):V->Option Int->Option Int->Hp->VK->Prop:=fun x lo hi H Q=>∃ a xs,x=.ref a/\aZ K H a xs /\
 ((HT.dF xs.length 0 lo=0/\HT.dF xs.length xs.length hi=xs.length)->Q (.ref a) H)/\(¬ (HT.dF xs.length 0 lo=0/\HT.dF xs.length xs.length hi=xs.length)->∀ p,H p=none->Q (.ref p) (upd H p (.tup (ja xs lo hi))))
section
variable {X:Cx}
theorem um {K:PySem.W.Frag} (hK:X.K=K):GR X (IQ K):=by
 subst hK
 intro pins s σ H x v vl vu lo hi sl Q I rx hs pl pu h
 obtain ⟨a,xs,rfl,hx,q1,q2⟩:=h
 by_cases hw:HT.dF xs.length 0 lo=0/\HT.dF xs.length xs.length hi=xs.length
 ·cases rx
  obtain ⟨its,r,ht,hz⟩:=I.tuple hx
  have hlen:its.toArray.size=xs.length:=by rw [List.size_toArray]; exact r.length.symm
  refine ⟨"tuple",_,PyProof.Rows.slot_tuple_getitem.lookup,ht.typeIs,?_⟩
  exact HT.mW ht hs pl pu (by rw [hlen]; exact hw) ⟨.ref a,H,I,rfl,q1 hw⟩
 ·exact B6 pins s σ H _ v vl vu lo hi sl Q I rx hs pl pu ⟨a,xs,rfl,hx,hw,q2 hw⟩
def G4 (K:PySem.W.Frag):R2:=fun x y H Q=>∃ a b xs ys,x=.ref a/\y=.ref b/\aZ K H a xs/\aZ K H b ys/\xs.length + ys.length<=sizeLine/\(xs=[]->Q (.ref b) H) /\
 (xs≠[]->ys=[]->Q (.ref a) H)/\(xs≠[]->ys≠[]->∀ p,H p=none->Q (.ref p) (upd H p (.tup (xs ++ ys))))
theorem As {K:PySem.W.Frag} (hK:X.K=K):j3 X (binaryOp .Add) (G4 K):=by
 subst hK
 intro pins s σ H x y v u Q I rx ry h
 obtain ⟨a,b,xs,ys,rfl,rfl,ha,hb,hz,q0,q1,q2⟩:=h
 by_cases hx:xs=[]
 ·cases rx
  cases ry
  obtain ⟨its,r1,p1,_⟩:=I.tuple ha
  obtain ⟨its2,r2,p2,_⟩:=I.tuple hb
  have e0:its=[]:=r1.nil_iff.mpr hx
  obtain ⟨⟨cls,dd,data,sl⟩,ho,hc,n,hd⟩:=id p1
  obtain ⟨⟨cls2,dd2,data2,sl2⟩,ho2,hc2,n2,hd2⟩:=id p2
  simp only at hc hd hc2 hd2
  subst hc hd hc2 hd2
  exact concat_meets ⟨_,ho,rfl⟩ ⟨_,ho2,rfl⟩ noFill_tuple_add seq_tuple_add PySem.F.slot_tuple_add PySem.F.entry_tuple_add (PySem.F.args_tuple_add_2 _ _)
   (tuple_addW0 a b its.toArray its2.toArray n n2 dd dd2 sl sl2 (by simp [e0])) ⟨ho,ho2,.ref b,H,I,rfl,q0 hx⟩
 ·exact y9 pins s σ H _ _ v u Q I rx ry ⟨a,b,xs,ys,rfl,rfl,ha,hb,hx,hz,q1 hx,q2 hx⟩
end
end L2
namespace L2
open PySem PySem.Spec PyProof.Rows
theorem BA {x0:Str}:∀ {names:List (Str×NameKind)} (n:Nat) (acc:List (Str×Addr)) (h:Heap),(names.filter fun y=>y.2 == .cell)=[(x0,.cell)]->cellsFrom n names acc=(x0,n) :: acc/\pushCells h names=h.push { cls:=.type "cell",data:=.cell none }
 | [],n,acc,h,e=>by cases e
 | (x,k) :: r,n,acc,h,e=>by
  have nil:∀ {names:List (Str×NameKind)} (n:Nat) (acc:List (Str×Addr)) (h:Heap),(names.filter fun y=>y.2 == .cell)=[]->cellsFrom n names acc=acc/\pushCells h names=h:=by
   intro names
   induction names with
   | nil=>intro n acc h _; exact ⟨rfl,rfl⟩
   | cons p r ih =>
    intro n acc h e
    obtain ⟨x,k⟩:=p
    rw [List.filter_cons] at e
    cases z:k == .cell with
    | true=>rw [if_pos z] at e; cases e
    | false =>
     rw [if_neg (by rw [z]; exact Bool.false_ne_true)] at e
     unfold cellsFrom pushCells
     rw [if_neg (by rw [z]; exact Bool.false_ne_true),if_neg (by rw [z]; exact Bool.false_ne_true)]
     exact ih n acc h e
  rw [List.filter_cons] at e
  unfold cellsFrom pushCells
  cases z:k == .cell with
  | true =>
   rw [if_pos z] at e
   rw [if_pos rfl,if_pos rfl]
   have e1:x=x0:=congrArg Prod.fst (List.cons.inj e).1
   obtain ⟨a,b⟩:=nil (n + 1) ((x,n) :: acc) (h.push { cls:=.type "cell",data:=.cell none }) (List.cons.inj e).2
   rw [a,b,e1]
   exact ⟨rfl,rfl⟩
  | false =>
   rw [if_neg (by rw [z]; exact Bool.false_ne_true)] at e
   rw [if_neg Bool.false_ne_true,if_neg Bool.false_ne_true]
   exact BA n acc h e
theorem DY {M:Model} {A:Around} {E:Value->Shared->Prop} {s:Shared} {scope:Scope} {globals:Addr} {closure:List (Str×Addr)} {qual:Str} {func:Option Addr} {code:Value} {around:Env} {builtins:Addr} {Q:Env->Shared->Prop} {x0:Str}
  (hf:(scope.names.filter fun y=>y.2 == .cell)=[(x0,.cell)])
  (h:Q (newEnv scope s.heap.objs.size globals ((x0,s.heap.objs.size + 1) :: closure) qual func code (some around) builtins) { s with heap:=(s.heap.push { cls:=.type "dict",data:=.dict #[] }).push { cls:=.type "cell",data:=.cell none } }) :
  wpAny M A (newFunctionEnv scope globals closure [] qual func code (some around) builtins) Q E s:=by
 have C:=BA (names:=scope.names) (s.heap.objs.size + 1) closure (s.heap.push { cls:=.type "dict",data:=.dict #[] }) hf
 have sz:(s.heap.push { cls:=.type "dict",data:=.dict #[] }).objs.size=s.heap.objs.size + 1:=by rw [Heap.size_push]
 unfold newFunctionEnv
 apply wpAny_bind
 apply wpAny_alloc
 apply wpAny_bind
 apply wpAny_layCells
 ·intro x kd acc
  by_cases c:(kd == NameKind.cell)=true
  ·simp only [c,if_true,bind_assoc,pure_bind]
  ·simp only [c,if_false,pure_bind,Bool.false_eq_true]
 ·show wpAny M A _ Q E _
  apply wpAny_bind
  apply wpAny_pure
  dsimp only [Option.isSome_some,if_true]
  rw [if_pos rfl,sz,C.1,C.2]
  exact wpAny_pure h
def Dw (N N':List Str) (src:List (Option Nat)) (esc sc:Scope) (x0:Str):Prop :=
 (sc.names.filter fun y=>y.2 == .cell)=[(x0,.cell)]/\sc.names.lookup x0=some .cell/\(∀ y∈sc.names,y.2=.local->sc.names.lookup y.1=some .local) /\
 (∀ y∈sc.names,y.2=.free->esc.names.lookup y.1=some .cell∨esc.names.lookup y.1=some .free) /\
 N'.Nodup/\src.length=N'.length/\∀ p∈N'.zip src,Ek N sc p.1 p.2=true
instance (N N':List Str) (src:List (Option Nat)) (esc sc:Scope) (x0:Str):Decidable (Dw N N' src esc sc x0):=by unfold Dw; infer_instance
def Cx.blkC (X:Cx) (N':List Str) (sc:Scope) (x0:Str) (cl:List (Str×Addr)) (C:Addr) (s2:Shared) (H2:Hp) (fp:List Addr):Cx :=
 { X with N:=N',s₀:=s2,H₀:=H2,env:=compEnvC sc ((x0,C + 1) :: cl) C X.env,outer:=X.stack,ex:=fp,fn:=fun y=>y == x0,pn:=[],xe:=fun _ _=>False }
theorem yn {X:Cx} {elt tg iter:Expr} {ifs:List Expr} {sc:Scope} {pos:Pos} {g:TG} {tt:TT} {te:TE} {N':List Str} {x0:Str} {src:List (Option Nat)} {cl:List (Str×Addr)} {pins:List (Addr×Obj)} {σ:St} {H2:Hp} {s2:Shared} {it:Addr} {fp:List Addr}
  {tn:Nat->Heap->Prop} {J:It} {W:Nat->Nat->St->Hp->Prop} {m0:Nat} {Qe:Hp->Prop} {RR:Value->Addr->Result->Shared->Prop}
  (hc:X.calm=true) (hk:sc.kind=.function) (hB:Dw X.N N' src X.env.scope sc x0) (hsub:∀ x c,cl.lookup x=some c->X.env.cells.lookup x=some c) (hhas:∀ n,(n,NameKind.free)∈sc.names->∃ c,cl.lookup n=some c)
  (hg:∀ cl C s2 H2 fp,N'.Nodup->PG (X.blkC N' sc x0 cl C s2 H2 fp) tg g)
  (ht:∀ cl C s2 H2 fp,ER (X.blkC N' sc x0 cl C s2 H2 fp) ifs tt)
  (he:∀ cl C s2 H2 fp,PE (X.blkC N' sc x0 cl C s2 H2 fp) elt te)
  (I2:aV X pins σ H2 s2) (T:yr X.prog X.w X.K tg J fp it tn) (st2:tn 0 s2.heap) (f2:∀ b∈fp,pS X pins H2 b)
  (w0:W 0 m0 (pb src σ) (upd H2 s2.heap.objs.size (.lst [])))
  (turn:∀ i m σ' H',W i m σ' H'->(J.stop i H'/\Qe H')∨(J.go i H'/\∃ N:St->Hp->Prop,(∀ σ2 H2,N σ2 H2->∃ m',m' < m/\W (i + 1) m' σ2 H2) /\
   ∀ x H'',J.yld i H' x H''->jc g tt te s2.heap.objs.size N x σ' H''))
  (fin:∀ C s4 σ3 H3,s2.heap.objs.size<=C->aV (X.blkC N' sc x0 cl C s2 H2 fp) [] σ3 H3 s4->Qe H3->RR (.ref s2.heap.objs.size) C (.ok .next) s4) :
  wpAny (model X.prog X.w) X.A (newList []) (fun acc s₃=>wpAny (model X.prog X.w) X.A (newFunctionEnv sc X.env.globals cl [] X.env.qual none .none (some X.env)) (fun cenv s₄ =>
   codeAny (model X.prog X.w) X.A (.compStart (.ListComp elt [⟨tg,iter,ifs,0⟩] sc pos) 0 (.ref it) acc { cenv with scope:=relabel sc X.env }) (RR acc cenv.locals) s₄) X.xe s₃) X.xe s2:=by
 obtain ⟨b0,b1,b2,b3,b4,b5,b6⟩:=hB
 refine wpAny_newObj_type (DY b0 ?_)
 dsimp only
 generalize hP:s2.heap.push { cls:=.type "list",dict:=none,data:=.seq ([]:List Value).toArray }=Hl
 have hC:Hl.objs.size=s2.heap.objs.size + 1:=by rw [← hP,Heap.size_push]
 have nDC:s2.heap.objs.size≠Hl.objs.size:=by rw [hC]; exact Nat.ne_of_lt (Nat.lt_succ_self _)
 have below:∀ {b:Addr} {o:Obj},s2.heap.get? b=some o->b≠Hl.objs.size:=fun {b o} z=>by
  have:=Heap.lt_size z
  rw [hC]
  exact Nat.ne_of_lt (Nat.lt_succ_of_lt this)
 have below1:∀ {b:Addr} {o:Obj},s2.heap.get? b=some o->b≠Hl.objs.size + 1:=fun {b o} z=>by
  have h:=Heap.lt_size z
  rw [hC]
  exact Nat.ne_of_lt (Nat.lt_of_lt_of_le h (Nat.le_add_right _ 2))
 obtain ⟨h₁,eh⟩:∃ h₁,h₁=(Hl.push { cls:=.type "dict",data:=.dict #[] }).push { cls:=.type "cell",data:=.cell none }:=⟨_,rfl⟩
 have ns₁:h₁.Ns Hl.objs.size (fun _=>none):=by rw [eh]; exact (Heap.Ns.new Hl (.type "dict")).keeps fun b o e=>Heap.get?_push_of_some _ e
 have cel:h₁.IsCell (Hl.objs.size + 1) none:=by
  rw [eh]
  refine ⟨{ cls:=.type "cell",data:=.cell none },?_,rfl⟩
  have e:=Heap.get?_push_size (Hl.push { cls:=.type "dict",data:=.dict #[] }) (o:={ cls:=.type "cell",data:=.cell none }) rfl
  rwa [Heap.size_push] at e
 have old:∀ b o,s2.heap.get? b=some o->h₁.get? b=some o:=fun b o z=>by rw [eh]; exact Heap.get?_push_of_some _ (Heap.get?_push_of_some _ (hP ▸ Heap.get?_push_of_some _ z))
 have hD1:h₁.get? s2.heap.objs.size=some { cls:=.type "list",data:=.seq ([]:List Value).toArray }:=by rw [eh]; exact Heap.get?_push_of_some _ (Heap.get?_push_of_some _ (hP ▸ Heap.get?_push_size _ rfl))
 rw [← eh]
 have lk0:∀ x c,((x0,Hl.objs.size + 1) :: cl).lookup x=some c->(x=x0/\c=Hl.objs.size + 1)∨(x≠x0/\cl.lookup x=some c):=fun x c z=>by
  rw [List.lookup_cons] at z
  cases e:x == x0 with
  | true=>rw [e] at z; exact .inl ⟨beq_iff_eq.mp e,(Option.some.inj z).symm⟩
  | false=>rw [e] at z; exact .inr ⟨(fun w=>by rw [w,beq_self_eq_true] at e; cases e),z⟩
 have lk1:∀ x c,x≠x0->cl.lookup x=some c->((x0,Hl.objs.size + 1) :: cl).lookup x=some c:=fun x c n z=>by
  rw [List.lookup_cons,show (x == x0)=false from beq_eq_false_iff_ne.mpr n]
  exact z
 have lk2:((x0,Hl.objs.size + 1) :: cl).lookup x0=some (Hl.objs.size + 1):=by rw [List.lookup_cons,beq_self_eq_true]
 have ocl:∀ x c,cl.lookup x=some c->c≠Hl.objs.size + 1:=fun x c z=>by
  obtain ⟨v,o,ho,_⟩:=I2.cell x c (hsub x c z)
  exact below1 ho
 have fC1:H2 (Hl.objs.size + 1)=none:=I2.hok.fresh (by rw [hC]; omega)
 have fD:H2 s2.heap.objs.size=none:=I2.hok.fresh (Nat.le_refl _)
 have fC:H2 Hl.objs.size=none:=I2.hok.fresh (by rw [hC]; exact Nat.le_succ _)
 have ok:(X.blkC N' sc x0 cl Hl.objs.size s2 H2 fp).Ok:=by
  refine ⟨I2.ok.mod,hk,I2.ok.glob,I2.ok.blt,?a,?inj,?has,?cab,I2.ok.hd,I2.ok.frames,.inl rfl,?exf,I2.bs,Nat.le_trans I2.ok.bsz I2.sz,?noex,?exfs,I2.stack,I2.stkFree⟩
  case a =>
   show s2.heap.objs.size<=Hl.objs.size
   rw [hC]; exact Nat.le_succ _
  case inj =>
   intro x y c h1 h2
   rcases lk0 x c h1 with ⟨e1,e2⟩ | ⟨n1,z1⟩
   ·rcases lk0 y c h2 with ⟨e3,e4⟩ | ⟨n2,z2⟩
    ·rw [e1,e3]
    ·exact absurd e2 (ocl y c z2)
   ·rcases lk0 y c h2 with ⟨e3,e4⟩ | ⟨n2,z2⟩
    ·exact absurd e4 (ocl x c z1)
    ·exact I2.ok.inj x y c (hsub x c z1) (hsub y c z2)
  case has =>
   intro x hx
   have hx':(sc.names.map fun (n,k)=>if (k == NameKind.free && X.env.scope.kind == .function && X.env.kindOf n == some .cell) then (n,NameKind.cell) else (n,k)).lookup x=some .cell ∨
     (sc.names.map fun (n,k)=>if (k == NameKind.free && X.env.scope.kind == .function && X.env.kindOf n == some .cell) then (n,NameKind.cell) else (n,k)).lookup x=some .free:=hx
   by_cases e0:x=x0
   ·rw [e0]; exact ⟨_,lk2⟩
   rw [GX.ff] at hx'
   cases e:sc.names.lookup x with
   | none =>
    rw [e] at hx'
    simp at hx'
   | some k =>
    rw [e] at hx'
    by_cases hf:k=.free
    ·subst hf
     obtain ⟨c,hc'⟩:=hhas x (PySem.mem_of_lookup e)
     exact ⟨c,lk1 x c e0 hc'⟩
    ·have hb:(k == NameKind.free)=false:=by simpa using hf
     have e2:((some k).map fun k=>if (k == NameKind.free && X.env.scope.kind == .function && X.env.kindOf x == some .cell) then NameKind.cell else k)=some k:=by
      show some (if (k == NameKind.free && X.env.scope.kind == .function && X.env.kindOf x == some .cell)=true then NameKind.cell else k)=some k
      rw [hb,Bool.false_and,Bool.false_and]
      rfl
     rw [e2] at hx'
     rcases hx' with z | z
     ·have kc:k=.cell:=Option.some.inj z
      rw [kc] at e
      have:(x,NameKind.cell)∈sc.names.filter fun y=>y.2 == .cell:=List.mem_filter.mpr ⟨PySem.mem_of_lookup e,rfl⟩
      rw [b0] at this
      exact absurd (congrArg Prod.fst (List.mem_singleton.mp this)) e0
     ·exact absurd (Option.some.inj z) hf
  case cab =>
   intro x c z z'
   rcases lk0 x c z' with ⟨_,e2⟩ | ⟨n1,_⟩
   ·rw [e2]
    show s2.heap.objs.size<=Hl.objs.size + 1
    rw [hC]; omega
   ·exact absurd (beq_iff_eq.mp z) n1
  case exf =>
   intro b hb
   obtain ⟨o,z,_⟩:=T.obj 0 _ st2 b hb
   refine ⟨below z,fun x c w=>?_⟩
   rcases lk0 x c w with ⟨_,e2⟩ | ⟨_,z1⟩
   ·rw [e2]; exact Ne.symm (below1 z)
   ·exact (f2 b hb).2.2.2.2.1 x c (hsub x c z1)
  case noex =>
   intro b o z hb
   rcases (f2 b hb).2.2.2.1 with f3 | f3
   ·exact I2.ok.noex b o z f3
   ·have l1:=Heap.lt_size z
    have l2:=I2.ok.bsz
    exact absurd (Nat.lt_of_lt_of_le l1 (Nat.le_trans l2 f3)) (Nat.lt_irrefl _)
  case exfs =>
   intro b hb z
   rcases List.mem_cons.mp (I2.stkSub b z) with z | z
   ·exact (f2 b hb).2.1 z
   ·exact (f2 b hb).2.2.1 z
 have IY:aV (X.blkC N' sc x0 cl Hl.objs.size s2 H2 fp) [] (pb src σ) (upd H2 s2.heap.objs.size (.lst [])) { s2 with heap:=h₁,toks:=s2.toks + ([]:List (Str×Value)).length }:=by
  refine ⟨ok,rfl,I2.bare,Un.laid old (Nat.le_refl _) fD,⟨_,ns₁,fun i x v e1 e2 _=>?_⟩,fun x c z=>?_,?_,fun x c z=>?_,fun p hp=>?_,I2.hok.laid old (Nat.le_refl _) ⟨Nat.zero_le _,[],0,.nil,hD1⟩,?_⟩
  ·have e1':N'[i]?=some x:=e1
   unfold pb at e2
   rw [List.getElem?_map] at e2
   cases es:src[i]? with
   | none=>rw [es] at e2; cases e2
   | some o =>
    rw [es] at e2
    cases o with
    | none=>cases e2
    | some j =>
     have e3:(σ[j]?).bind (fun v=>v)=some v:=Option.some.inj e2
     have e4:σ[j]?=some (some v):=by
      cases q:σ[j]? with
      | none=>rw [q] at e3; cases e3
      | some w=>rw [q] at e3; exact congrArg some e3
     have hz:(x,some j)∈N'.zip src:=List.mem_of_getElem? (i:=i) (by rw [List.getElem?_zip_eq_some]; exact ⟨e1',es⟩)
     have hcap:=b6 _ hz
     have hcap':(decide (X.N[j]?=some x) && decide (sc.names.lookup x=some .free))=true:=hcap
     rw [Bool.and_eq_true] at hcap'
     have c1:X.N[j]?=some x:=of_decide_eq_true hcap'.1
     have c2:sc.names.lookup x=some .free:=of_decide_eq_true hcap'.2
     have hfree:=PySem.mem_of_lookup c2
     have vis:=b3 _ hfree rfl
     obtain ⟨m,hn,hl⟩:=I2.loc
     obtain ⟨u,ru,lk⟩:=hl j x v c1 e4 (.inr vis)
     rcases lk with ⟨k1,_⟩ | ⟨_,c,k2,z⟩
     ·have k1':X.env.scope.names.lookup x=some .local:=k1
      rcases vis with v | v <;> (rw [k1'] at v; cases v)
     ·obtain ⟨c',k3⟩:=hhas x hfree
      have k4:=hsub x c' k3
      rw [k2] at k4
      cases k4
      refine ⟨u,ru,.inr ⟨?_,c,lk1 x c (fun w=>by rw [w,b1] at c2; cases c2) k3,z.keeps old⟩⟩
      show (sc.names.map fun (n,k)=>if (k == NameKind.free && X.env.scope.kind == .function && X.env.kindOf n == some .cell) then (n,NameKind.cell) else (n,k)).lookup x=some .cell ∨
       (sc.names.map fun (n,k)=>if (k == NameKind.free && X.env.scope.kind == .function && X.env.kindOf n == some .cell) then (n,NameKind.cell) else (n,k)).lookup x=some .free
      rw [GX.ff,c2]
      show some (if _ then NameKind.cell else NameKind.free)=_∨some (if _ then NameKind.cell else NameKind.free)=_
      split
      ·exact .inl rfl
      ·exact .inr rfl
  ·rcases lk0 x c z with ⟨_,e2⟩ | ⟨_,z⟩
   ·rw [e2]; exact ⟨none,cel⟩
   obtain ⟨v,q⟩:=I2.cell x c (hsub x c z)
   exact ⟨v,q.keeps old⟩
  ·show upd H2 s2.heap.objs.size (.lst []) Hl.objs.size=none
   rw [aG (Ne.symm nDC)]
   exact fC
  ·rcases lk0 x c z with ⟨_,e2⟩ | ⟨_,z⟩
   ·rw [e2,aG (Nat.ne_of_gt (by rw [hC]; exact Nat.lt_of_lt_of_le (Nat.lt_succ_self _) (Nat.le_succ _)))]; exact fC1
   obtain ⟨v,q⟩:=I2.cell x c (hsub x c z)
   rw [aG (Nat.ne_of_lt q.lt)]
   exact I2.freeC x c (hsub x c z)
  ·exact absurd (show p∈([]:List (Addr×Obj)) from hp) (by simp)
  ·show (src.map _).length=N'.length
   rw [List.length_map]
   exact b5
 have stat:∀ {H':Hp},(∀ b∈fp,H' b=none)->∀ b∈fp,pS (X.blkC N' sc x0 cl Hl.objs.size s2 H2 fp) [] H' b:=fun hn b hb =>
  ⟨hn b hb,(ok.exf b hb).1,ok.exfs b hb,.inl hb,(ok.exf b hb).2,fun p hp=>absurd (show p∈([]:List (Addr×Obj)) from hp) (by simp)⟩
 have loop:codeAny (model X.prog X.w) X.A (.compLoop (.ListComp elt [⟨tg,iter,ifs,0⟩] sc pos) 0 (.ref it) (.ref s2.heap.objs.size) (compEnvC sc ((x0,Hl.objs.size + 1) :: cl) Hl.objs.size X.env))
   (RR (.ref s2.heap.objs.size) Hl.objs.size) { s2 with heap:=h₁,toks:=s2.toks + ([]:List (Str×Value)).length }:=by
  refine GX.o3 (fun n s'=>∃ i σ' H',aV (X.blkC N' sc x0 cl Hl.objs.size s2 H2 fp) [] σ' H' s'/\tn i s'.heap/\(∀ b∈fp,H' b=none)/\W i n σ' H') ?_ m0
   ⟨0,_,_,IY,T.keep 0 _ _ st2 (fun b _ o z=>old b o z),fun b hb=>?_,w0⟩
  ·rintro n s3 ⟨i,σ3,H3,I3,st3,fr3,w3⟩
   rcases turn i n σ3 H3 w3 with ⟨stop,qn⟩ | ⟨go,N,hN,step⟩
   ·refine wpAny_bind (cE (T.done (X.blkC N' sc x0 cl Hl.objs.size s2 H2 fp) rfl rfl rfl hc i [] s3 σ3 H3 (fun _ _=>False) I3 (stat fr3) st3 stop) fun r s4 ⟨hr,I4⟩=>?_)
    subst hr
    exact wpAny_pure <| fin _ s4 σ3 H3 (by rw [hC]; exact Nat.le_succ _) I4 qn
   ·refine wpAny_bind (cE (T.item (X.blkC N' sc x0 cl Hl.objs.size s2 H2 fp) rfl rfl rfl hc i [] s3 σ3 H3 (fun _ _=>False) I3 (stat fr3) st3 go) fun r s4 ⟨u,hr,h4⟩=>?_)
    subst hr
    refine wpAny_bind (cE h4 fun _ s5 ⟨x,H5,I5,r5,y5,st5,fr5⟩=>?_)
    have I5':=I5.pinned (stat fr5) (T.obj _ _ st5)
    have again:∀ {σ7:St} {H7:Hp} {s7:Shared},aV (X.blkC N' sc x0 cl Hl.objs.size s2 H2 fp) ([] ++ om fp s5.heap) σ7 H7 s7->N σ7 H7 ->
      ∃ m,m < n/\∃ i σ' H',aV (X.blkC N' sc x0 cl Hl.objs.size s2 H2 fp) [] σ' H' s7/\tn i s7.heap/\(∀ b∈fp,H' b=none)/\W i m σ' H':=fun {σ7 H7 s7} I7 n7=>by
     obtain ⟨m',hm,w7⟩:=hN σ7 H7 n7
     refine ⟨m',hm,i + 1,σ7,H7,I7.unpinned,T.keep _ _ _ st5 fun b hb o z=>(I7.pin (b,o) (List.mem_append_right _ (List.mem_append_right _ (fH hb z)))).1,fun b hb=>?_,w7⟩
     obtain ⟨o,z,_⟩:=T.obj _ _ st5 b hb
     exact (I7.pin (b,o) (List.mem_append_right _ (List.mem_append_right _ (fH hb z)))).2.1
    refine wpAny_bind (cE (hg cl Hl.objs.size s2 H2 fp b4 _ s5 σ3 H5 x u _ I5' r5 (step x H5 y5)) fun _ s6 ⟨σ6,H6,I6,q6⟩=>?_)
    refine wpAny_bind (cE (ht cl Hl.objs.size s2 H2 fp _ s6 σ6 H6 _ I6 q6) fun ok s7 ⟨H7,I7,q7⟩=>?_)
    cases ok with
    | true =>
     rw [if_pos rfl] at q7 ⊢
     refine wpAny_bind (cE (he cl Hl.objs.size s2 H2 fp _ s7 σ6 H7 _ I7 q7) fun yv s8 ⟨y,H8,I8,r8,ys,hD,hz,n8⟩=>?_)
     exact wpAny_bind <| cE (cu (X:=X.blkC N' sc x0 cl Hl.objs.size s2 H2 fp) _ s8 σ6 H8 (.ref s2.heap.objs.size) [y] (.ref s2.heap.objs.size) [yv] (fun _ H'=>N σ6 H') I8 rfl (.cons r8 .nil) ⟨_,ys,y,rfl,rfl,hD,hz,n8⟩)
      fun _ s9 ⟨_,H9,I9,_,n9⟩=>wpAny_pure (again I9 n9)
    | false =>
     rw [if_neg Bool.false_ne_true] at q7 ⊢
     exact wpAny_pure (again I7 q7)
  ·obtain ⟨o,z,_⟩:=T.obj 0 _ st2 b hb
   rw [aG (Nat.ne_of_lt (Heap.lt_size z))]
   exact (f2 b hb).1
 exact codeAny_compStart_list loop (T.self X.A 0 _ _ _ (T.keep 0 _ _ st2 (fun b _ o z=>old b o z)) loop)
theorem Bx {X:Cx} {elt tg iter:Expr} {ifs:List Expr} {sc:Scope} {pos py spos:Pos} {y:Str} {i:Nat} {wi:TI} {g:TG} {tt:TT} {te:TE} (N':List Str) (src:List (Option Nat)) (x0:Str)
  (hN:X.N.Nodup) (hy:X.N[i]?=some y) (hl:GO X.env.scope y) (hc:X.calm=true) (hk:sc.kind=.function) (hB:decide (Dw X.N N' src X.env.scope sc x0)=true) (hi:PI X tg iter wi)
  (hg:∀ cl C s2 H2 fp,N'.Nodup->PG (X.blkC N' sc x0 cl C s2 H2 fp) tg g)
  (ht:∀ cl C s2 H2 fp,ER (X.blkC N' sc x0 cl C s2 H2 fp) ifs tt)
  (he:∀ cl C s2 H2 fp,PE (X.blkC N' sc x0 cl C s2 H2 fp) elt te)
  (hsw:swapsWith (.ListComp elt [⟨tg,iter,ifs,0⟩] sc pos) (some (.Name y py)) spos.line X.env=pure true:=by rfl)
  (hs:∀ x,foldedSetIterable iter X.env x=pure x:=by intro _; rfl) (hf:X.fn y=true∨X.env.scope.names.lookup y=some .local:=by first | exact .inl rfl | exact .inr rfl) :
  PS X (.Assign [.Name y py] (.ListComp elt [⟨tg,iter,ifs,0⟩] sc pos) spos) (zw (yR src wi g tt te) (pf i)):=by
 intro pins s σ H D I h
 have B:=of_decide_eq_true hB
 obtain ⟨cl,hclos,hsub,hhas⟩:=GX.mC (env:=X.env) (sc:=sc) fun y hy hf=>I.ok.has y.1 (B.2.2.2.1 y hy hf)
 rw [exec_Assign_Name_used _ _ _ _ hsw]
 refine wpAny_bind (wpAny_standAt (wpAny_bind ?_))
 show wpAny _ X.A (do let _ ← comprehension (.ListComp elt [⟨tg,iter,ifs,0⟩] sc pos) sc X.env _ (newList []) false (eval iter X.env) (some (assign (.Name y py) X.env))) _ _ s
 refine wpAny_bind (wpAny_mono (wpAny_comprehension_free (use:=some (assign (.Name y py) X.env)) (Q:=fun _ s'=>SP X pins D .next s') rfl hs hclos hk B.2.2.1
  (cE (hi pins s σ H _ I h) fun v s1 h1=>cE h1 fun itv s2 h2=>?_)) (fun _ s' hq=>wpAny_pure (wpAny_pure hq)) fun _ _ e=>e)
 obtain ⟨it,fp,tn,J,H2,e,I2,T,st2,f2,q⟩:=h2
 subst e
 obtain ⟨W,⟨m0,w0⟩,turn⟩:=q s2.heap.objs.size (I2.hok.fresh (Nat.le_refl _))
 refine yn (RR:=fun acc C=>compPost (model X.prog X.w) X.A X.xe (some (assign (.Name y py) X.env)) (fun _ s'=>SP X pins D .next s') acc C) (Qe:=fun H'=>D.nx (σ.set i (some (.ref s2.heap.objs.size))) H') hc hk B hsub hhas hg ht he I2 T st2 f2 w0 turn
  fun C s4 σ3 H3 hC I4 qn=>?_
 have IX:aV X pins σ H3 s4:=I2.call' (ch:=fp) I4.os I4.base I4.hok I4.bare fun b hb=>⟨(f2 b hb).2.2.2.1,(f2 b hb).2.1,(f2 b hb).2.2.2.2.1,(f2 b hb).2.2.2.2.2⟩
 have nC:∀ {b:Addr} {o:Obj},s2.heap.get? b=some o->C≠b:=fun {b o} z=>Nat.ne_of_gt (Nat.lt_of_lt_of_le (Heap.lt_size z) hC)
 have nL:C≠X.env.locals:=Nat.ne_of_gt (Nat.lt_of_lt_of_le I2.lt hC)
 have nK:∀ x c,X.env.cells.lookup x=some c->c≠C:=fun x c z=>by
  obtain ⟨v,o,ho,_⟩:=I2.cell x c z
  exact Ne.symm (nC ho)
 obtain ⟨m,hn,_⟩:=I4.loc
 show wpAny _ X.A (assign (.Name y py) X.env (.ref s2.heap.objs.size)) _ _ s4
 refine wpAny_assign_Name (oq IX hN hy hl (v:=.ref s2.heap.objs.size) rfl (fun s5 I5 h5=>?_) hf)
 obtain ⟨a,sb,ha⟩:=h5
 have na:C≠a:=by
  rcases ha with z | z
  ·rw [z]; exact nL
  ·exact Ne.symm (nK _ _ z)
 refine ⟨m,hn.sameBut sb na,fun h' sb'=>⟨_,H3,?_,qn⟩⟩
 exact I5.turned (it:=C) (t':=s5.toks) (fun b o hb z=>(sb'.2 b hb).trans z) I4.free nL (.inr (Nat.le_trans I2.sz hC)) nK fun p hp=>Ne.symm (nC (I2.pin p hp).1)
theorem zB {X:Cx} {K:PySem.W.Frag} (hK:X.K=K) (hc:X.calm=true):fg X (.builtin "sum") (fun xs H Q=>∃ (p:Addr) (ns:List Int),xs=[.ref p]/\bb K H p (ns.map V.int)/\Q (.int ns.sum) H):=by
 subst hK
 exact zV hc
end L2
namespace L2
open PySem PySem.Spec PyProof.Rows
abbrev nI (K:PySem.W.Frag) (x:Str) (f:Addr):Prop:=PySem.W.nsIn K mainGlobals x=some (some (.ref f))
def qa:List Str->(List Value->Prop)->Prop
 | [],p=>p []
 | _ :: r,p=>∀ v,qa r fun us=>p (v :: us)
theorem Et:∀ {ps:List Str} {p:List Value->Prop},qa ps p->∀ us:List Value,us.length=ps.length->p us
 | [],_,h,[],_=>h
 | _ :: _,_,h,v :: us,e=>Et (h v) us (Nat.succ.inj e)
section
variable {P:Program} {w:World} {K:PySem.W.Frag} {mg:Str->Option Value} {base h:Heap} {x qual:Str} {st:Stmt} {f:Addr} {fd:FuncData} {N ps:List Str} {k:Nat} {sp:Sp}
theorem cM.bq (F:cM K x qual st f fd) (h:∀ (kV doc pm:Value) (an:Option Addr) (cdv ct:Value),qa ps fun us=>bindArgs (PySem.W.fnOf x qual (jz st) (iP st) (aF st) .none kV doc pm an cdv ct) ⟨us,[]⟩=pure (ps.zip us):=by (repeat refine fun _=>?_); rfl):Binds K fd ps []:=F.binds fun a b c d e g us hl=>Et (h a b c d e g) us hl
theorem cM.cal (F:cM K x qual st f fd) (X:K.In h) (G:h.Ns mainGlobals mg) (a:nI K x f) (q:∀ (kV doc pm:Value) (an:Option Addr) (cdv ct:Value),qa ps fun us=>bindArgs (PySem.W.fnOf x qual (jz st) (iP st) (aF st) .none kV doc pm an cdv ct) ⟨us,[]⟩=pure (ps.zip us):=by (repeat refine fun _=>?_); rfl):dP K mg x f fd ps:=⟨PySem.W.mg_of X G a,F.kp,F.bq q⟩
end
end L2
local macro_rules | `(tactic| sizeOf_list_dec) => `(tactic| first | assumption | decide | exact ⟨by decide, by decide⟩ | exact ⟨by decide, by decide, by decide⟩ | exact Nat.le_of_ble_eq_true rfl | exact L2.aD (by omega) | exact L2.pow18p | exact L2.pow60p | omega | fail)
local macro_rules | `(tactic| decreasing_trivial_pre_omega) => `(tactic| first | assumption | (apply L2.bb.of; assumption) | (apply L2.aZ.of; assumption) | (refine Or.inl ?_; assumption) | (refine Or.inl ?_; apply L2.bb.of; assumption) | (refine Or.inr ?_; apply L2.aZ.of; assumption))
local macro_rules | `(tactic| bv_omega) => `(tactic| first | assumption | exact L2.cR (j := 0) rfl | exact L2.cR (j := 1) rfl | exact L2.cR (j := 2) rfl | exact L2.cR (j := 3) rfl | exact L2.cR (j := 4) rfl | exact L2.cR (j := 5) rfl)
local macro_rules | `(tactic| array_get_dec) => `(tactic| array_mem_dec)
local macro_rules | `(tactic| array_get_dec) => `(tactic| with_reducible first
 | refine L2.Gq ?_ | refine L2.FD ?_ | refine L2.x_seqP ?_ | refine L2.GD ?_ | refine L2.x_seqW ?_ | refine L2.GA ?_ | refine L2.FZ ?_ | refine L2.HZ ?_ | refine L2.Jl ?_ | refine L2.JK ?_ | refine L2.Hu ?_ | refine L2.HL ?_ | refine L2.FX ?_
 | refine L2.Fn ?_ | refine L2.HM ?_ | refine L2.FW ?_ | refine L2.Jh ?_ | refine L2.Jq ?_ | refine L2.Gs ?_ | refine L2.Ih ?_ | refine L2.x_b ?_ | refine L2.E4 ?_ | refine L2.D5 ?_
 | refine L2.Hb ?_ | refine L2.Jc ?_ | refine L2.Hi ?_ | refine L2.F5 ?_ | refine L2.HN ?_ | refine L2.GL ?_ | refine L2.HF ?_
 | refine L2.GF ?_ | refine L2.Gr ?_ | refine L2.Je ?_ | refine L2.JL ?_ | refine L2.II ?_ | refine L2.Iq ?_ | refine L2.IJ ?_ | refine L2.HC ?_ | refine L2.x_eqB ?_ | refine L2.x_neB ?_
 | refine L2.Ig ?_ | refine L2.HI ?_ | refine L2.FJ ?_ | refine L2.Jr ?_ | refine L2.Aj ?_ | refine L2.E8 ?_ | refine L2.DS ?_
 | refine L2.FP ?_ | refine L2.Dy ?_ | refine L2.IK ?_ | refine L2.x_dnotin ?_ | refine L2.EK ?_ | refine L2.Hg ?_ | refine L2.DB ?_ | refine L2.E2 ?_ | refine L2.IH ?_ | refine L2.IZ ?_ | refine L2.x_bm0 ?_ | refine L2.FA ?_
 | refine L2.DT ?_ | refine L2.F1 ?_ | refine L2.FF ?_ | refine L2.x_brk ?_ | refine L2.x_cont ?_ | refine L2.Fo ?_ | refine L2.Jw ?_ | refine L2.D8 ?_ | refine L2.GY ?_)
local macro_rules | `(tactic| array_mem_dec) => `(tactic| ((with_reducible apply L2.FI); (focus decreasing_trivial_pre_omega); (focus rfl)))
local macro_rules | `(tactic| array_mem_dec) => `(tactic| ((with_reducible apply L2.IB); (focus exact rfl)))
local macro_rules | `(tactic| array_mem_dec) => `(tactic| ((with_reducible apply L2.JM); (focus sizeOf_list_dec)))
local macro_rules | `(tactic| array_mem_dec) => `(tactic| ((with_reducible apply L2.HB); (focus decreasing_trivial_pre_omega); (focus bv_omega)))
local macro_rules | `(tactic| array_mem_dec) => `(tactic| ((with_reducible apply L2.HV); (focus decreasing_trivial_pre_omega); (focus bv_omega)))
local macro_rules | `(tactic| array_mem_dec) => `(tactic| ((with_reducible apply L2.Hr); (focus decreasing_trivial_pre_omega)))
local macro_rules | `(tactic| array_mem_dec) => `(tactic| ((with_reducible apply L2.x_exisd); (focus decreasing_trivial_pre_omega)))
local macro_rules | `(tactic| array_mem_dec) => `(tactic| ((with_reducible apply L2.Ff); (focus decreasing_trivial_pre_omega)))
local macro_rules | `(tactic| array_mem_dec) => `(tactic| ((with_reducible apply L2.Fv); (focus decreasing_trivial_pre_omega)))
local macro_rules | `(tactic| array_mem_dec) => `(tactic| ((with_reducible apply L2.EZ); (focus decreasing_trivial_pre_omega); (first | rw [L2.zh] | rw [L2.isSomemap] | skip)))
local macro_rules | `(tactic| array_mem_dec) => `(tactic| ((with_reducible apply L2.x_exdin); (focus decreasing_trivial_pre_omega); (first | rw [L2.zh] | rw [L2.isSomemap] | skip)))
local macro_rules | `(tactic| array_mem_dec) => `(tactic| ((with_reducible apply L2.E9); (focus decreasing_trivial_pre_omega); (focus decreasing_trivial_pre_omega)))
local macro_rules | `(tactic| array_mem_dec) => `(tactic| ((with_reducible apply L2.Hm); (focus decreasing_trivial_pre_omega)))
local macro_rules | `(tactic| array_mem_dec) => `(tactic| ((with_reducible apply L2.x_lenL); (focus decreasing_trivial_pre_omega)))
local macro_rules | `(tactic| array_mem_dec) => `(tactic| ((with_reducible apply L2.x_lenT); (focus decreasing_trivial_pre_omega)))
local macro_rules | `(tactic| array_mem_dec) => `(tactic| ((with_reducible apply L2.x_lenD); (focus decreasing_trivial_pre_omega)))
local macro_rules | `(tactic| array_mem_dec) => `(tactic| ((with_reducible apply L2.G0); (focus sizeOf_list_dec)))
local macro_rules | `(tactic| array_mem_dec) => `(tactic| ((with_reducible apply L2.G8); (focus sizeOf_list_dec)))
local macro_rules | `(tactic| array_mem_dec) => `(tactic| ((with_reducible apply L2.qO); (focus assumption); (focus sizeOf_list_dec)))
local macro_rules | `(tactic| array_mem_dec) => `(tactic| ((with_reducible apply L2.Bp); (focus assumption); (focus assumption); (focus sizeOf_list_dec)))
local macro_rules | `(tactic| clean_wf) => `(tactic| repeat' (first | array_get_dec | fail))
local macro_rules | `(tactic| array_mem_dec) => `(tactic| ((with_reducible apply L2.x_rlenL); (focus decreasing_trivial_pre_omega)))
local macro_rules | `(tactic| array_mem_dec) => `(tactic| ((with_reducible apply L2.x_rlenT); (focus decreasing_trivial_pre_omega)))
local macro_rules | `(tactic| array_mem_dec) => `(tactic| ((with_reducible apply L2.BO); (focus decreasing_trivial_pre_omega)))
local macro_rules | `(tactic| array_mem_dec) => `(tactic| ((with_reducible apply L2.Ai); (focus decreasing_trivial_pre_omega)))
local macro_rules | `(tactic| array_mem_dec) => `(tactic| ((with_reducible apply L2.D2); (focus decreasing_trivial_pre_omega)))
local macro_rules | `(tactic| array_mem_dec) => `(tactic| ((with_reducible apply L2.x_rdict); (focus decreasing_trivial_pre_omega)))
local macro_rules | `(tactic| array_mem_dec) => `(tactic| (with_reducible refine L2.Cb ?_))
local macro_rules | `(tactic| array_mem_dec) => `(tactic| ((with_reducible apply L2.CW); (focus decreasing_trivial_pre_omega)))
local macro_rules | `(tactic| array_mem_dec) => `(tactic| ((with_reducible apply L2.x_ixQ); (focus decreasing_trivial_pre_omega); (focus bv_omega)))
local macro_rules | `(tactic| array_mem_dec) => `(tactic| (with_reducible first | refine L2.Jb ?_ | refine L2.IE ?_ | refine L2.FH ?_ | refine L2.x_seqN ?_ | refine L2.Ii ?_ | refine L2.EM ?_ | refine L2.CU ?_ | refine L2.FC ?_ | refine L2.Ja ?_))
local macro_rules | `(tactic| array_mem_dec) => `(tactic| ((with_reducible refine L2.x_mtS1 ?_); (with_reducible refine L2.x_mtS1 ?_); (with_reducible apply L2.yD); (focus assumption); (focus sizeOf_list_dec)))
local macro_rules | `(tactic| array_mem_dec) => `(tactic| ((with_reducible refine L2.x_mtS1 ?_); (with_reducible apply L2.yD); (focus assumption); (focus sizeOf_list_dec)))
local macro_rules | `(tactic| array_mem_dec) => `(tactic| ((with_reducible apply L2.yD); (focus assumption); (focus sizeOf_list_dec)))
local macro_rules | `(tactic| array_mem_dec) => `(tactic| ((with_reducible apply L2.Fb); (focus assumption); (focus sizeOf_list_dec); (focus sizeOf_list_dec); (focus sizeOf_list_dec)))
local macro_rules | `(tactic| array_mem_dec) => `(tactic| ((with_reducible apply L2.HS); (focus assumption); (focus sizeOf_list_dec); (focus sizeOf_list_dec); (focus sizeOf_list_dec)))
local macro_rules | `(tactic| sizeOf_list_dec) => `(tactic| with_reducible first | exact L2.cfl_number | exact L2.cfl_caller | exact L2.cfl_count | exact L2.cfl_word | exact L2.cfl_causes | exact L2.cfl_free | exact L2.cfl_in_turn | exact L2.cfl_asks_place | exact L2.cfl_kind | exact L2.cfl_name | exact L2.cfl_rank | exact L2.cfl_told | exact L2.cfl_shown | fail)
local macro_rules | `(tactic| array_mem_dec) => `(tactic| ((with_reducible apply L2.ES); (focus decreasing_trivial_pre_omega)))
local macro_rules | `(tactic| array_mem_dec) => `(tactic| ((with_reducible apply L2.x_gdg); (focus decreasing_trivial_pre_omega); (focus assumption)))
local macro_rules | `(tactic| array_mem_dec) => `(tactic| ((with_reducible apply L2.Ib); (focus decreasing_trivial_pre_omega)))
local macro_rules | `(tactic| array_mem_dec) => `(tactic| ((with_reducible apply L2.Fy); (focus decreasing_trivial_pre_omega)))
local macro_rules | `(tactic| array_mem_dec) => `(tactic| ((with_reducible apply L2.x_gdput); (focus assumption); (focus assumption); (focus sizeOf_list_dec)))
local macro_rules | `(tactic| sizeOf_list_dec) => `(tactic| with_reducible first | exact L2.kf_learnt | exact L2.kf_learn | exact L2.kf_row_of | exact L2.kf_floor | exact L2.kf_reach | exact L2.kf_sure | fail)
local macro_rules | `(tactic| array_mem_dec) => `(tactic| ((with_reducible apply L2.x_rdictG); (focus decreasing_trivial_pre_omega)))
local macro_rules | `(tactic| array_mem_dec) => `(tactic| (with_reducible first | refine L2.x_ivals ?_ | refine L2.x_ikeys ?_ | refine L2.x_iseq ?_ | refine L2.Hq ?_))
local macro_rules | `(tactic| array_mem_dec) => `(tactic| ((with_reducible apply L2.Hw); (focus assumption)))
local macro_rules | `(tactic| array_mem_dec) => `(tactic| (with_reducible first | refine L2.x_iitems ?_))
local macro_rules | `(tactic| array_mem_dec) => `(tactic| ((with_reducible apply L2.x_neE); (focus decreasing_trivial_pre_omega); (focus decreasing_trivial_pre_omega)))
local macro_rules | `(tactic| sizeOf_list_dec) => `(tactic| with_reducible first | exact L2.kf_listed | exact L2.kf_merge | fail)
local macro_rules | `(tactic| array_mem_dec) => `(tactic| (with_reducible first | refine L2.EJ ?_))
local macro_rules | `(tactic| array_mem_dec) => `(tactic| (with_reducible first | refine L2.x_maxl ?_))
local macro_rules | `(tactic| sizeOf_list_dec) => `(tactic| with_reducible first | exact L2.chf_me | exact L2.chf_hands | exact L2.chf_ballot | exact L2.chf_yes | exact L2.chf_votes | exact L2.chf_reports | exact L2.chf_agreed | exact L2.chf_begin | exact L2.chf_message | exact L2.chf_receive | exact L2.chf_see_ballot | exact L2.chf_see_yes | exact L2.chf_see_votes | exact L2.chf_gathers | exact L2.chf_settled | exact L2.chf_len | fail)
local macro_rules | `(tactic| array_mem_dec) => `(tactic| (with_reducible first | refine L2.x_mink ?_))
local macro_rules | `(tactic| array_mem_dec) => `(tactic| (with_reducible first | refine L2.x_sortk ?_))
local macro_rules | `(tactic| array_mem_dec) => `(tactic| (with_reducible refine L2.x_irev ?_))
local macro_rules | `(tactic| array_mem_dec) => `(tactic| (with_reducible refine L2.x_ivalsT ?_))
local macro_rules | `(tactic| array_mem_dec) => `(tactic| (with_reducible first | refine L2.x_sorto ?_))
local macro_rules | `(tactic| array_mem_dec) => `(tactic| (with_reducible first | refine L2.x_callL ?_ | refine L2.x_callM ?_))
local macro_rules | `(tactic| sizeOf_list_dec) => `(tactic| with_reducible first | exact L2.chf_has_enough | exact L2.chf_made_by | exact L2.chf_propose | fail)
local macro_rules | `(tactic| array_mem_dec) => `(tactic| (with_reducible refine L2.x_methL ?_))
local macro_rules | `(tactic| array_mem_dec) => `(tactic| ((with_reducible apply L2.x_mtL); (focus assumption); (focus sizeOf_list_dec)))
local macro_rules | `(tactic| sizeOf_list_dec) => `(tactic| with_reducible first | exact L2.pfl_me | exact L2.pfl_number | exact L2.pfl_hands | exact L2.pfl_room | exact L2.pfl_made | exact L2.pfl_done | exact L2.pfl_took | exact L2.pfl_keeps | exact L2.pfl_order | exact L2.pfl_taken_by | exact L2.pfl_able_by | exact L2.pfl_check_room | exact L2.pfl_keep | exact L2.pfl_kept_calls | exact L2.pfl_utter | exact L2.pfl_step | exact L2.pfl_take | exact L2.pfl_let_go | exact L2.pfl_piece | exact L2.pfl_listen | exact L2.pfl_keep_new | exact L2.pfl_report | exact L2.pfl_finish | exact L2.pfl_rows | exact L2.pfl_taken | exact L2.pfl_kept | exact L2.pfl_places | exact L2.pfl_len | fail)
local macro_rules | `(tactic| array_mem_dec) => `(tactic| (with_reducible first | refine L2.x_iitemsT ?_ | refine L2.x_ikeysT ?_))
local macro_rules | `(tactic| array_mem_dec) => `(tactic| (with_reducible refine L2.x_izip ?_))
local macro_rules | `(tactic| sizeOf_list_dec) => `(tactic| with_reducible first | exact L2.qN | exact L2.rF | exact L2.uE | exact L2.pM | exact L2.yb | exact L2.ud | exact L2.uI | exact L2.uJ | exact L2.vq | exact L2.yF | exact L2.sM | exact L2.pI | exact L2.kQ | exact L2.sR | exact L2.lV | exact L2.mj | exact L2.chf_rlen | exact L2.AH | fail)
namespace K81
open PySem L2
def i7 (i:Nat):Stmt:=PySem.Challenge.pw_groupcall_k81_whole_judged.main.body.getD i (.Pass ⟨0,0,0,0⟩)
section
variable {P:Program} {w:World} {K:PySem.W.Frag} {mg:Str->Option Value} {base:Heap}
structure j2 where
 n:Int
 c:Int
 k:Int
 kd:Str
 wd:Int
 cs:List (Int×Int)
abbrev sL:=Int×Int×Int
abbrev zF:=Str×Int×List (Int×Int)
def j2.nm (x:j2):sL:=(x.n,x.c,x.k)
def j2.pt (x:j2):zF:=(x.kd,x.wd,x.cs)
def oa (x:j2):Bool:=decide (x.kd="one")
inductive Ev
 | L (n:Int) (s:Int×Int×Int)
 | T (x:j2) (why:Str)
 | O (n:Int)
structure Rc where
 tl:Int->Option (Int×Int×Int)
 tc:sL->Option zF
 mo:Int->Option (List sL)
 gc:Int->Option (List (Int×Int))
structure Wk where
 num:Option Int
 new:Option Int
 cs:List (Int×Int)
 ones:Nat
def jx (n h:Int):Bool:=n.toNat.testBit h.toNat
def iw (w:Wk):Ev->Bool
 | .L _ _=>w.num.isSome
 | _=>false
def kE:Ev->Bool
 | .T x _=>oa x
 | _=>false
def met (w:Wk) (r:Rc):List sL:=match w.num with
 | none=>[]
 | some n=>(r.mo n).getD []
def gY (w:Wk):Ev->Bool
 | .L n _=>(match w.new with
  | none=>false
  | some v=>decide (n<=v)) || (match w.num with
  | none=>false
  | some v=>decide (n≠v + 1))
 | .T x _=>match w.num with
  | none=>true
  | some v=>decide (x.n≠v)
 | .O n=>match w.num with
  | none=>true
  | some v=>decide (n≠v)
def fM (hand:Int) (w:Wk):Ev->Bool
 | .L _ s=>!jx s.1 hand || !jx (if w.num.isSome=true then s.2.1 else s.2.2) hand
 | _=>false
def sW (w:Wk):Ev->Bool
 | .T x _=>decide (x.k≠ct w.cs x.c + 1)
 | _=>false
def qW (w:Wk):Ev->Bool
 | .T x _=>decide (x.kd≠"own") && !Eg w.cs (iF x.cs)
 | _=>false
def qM (r:Rc):Ev->Bool
 | .L n s=>match r.tl n with
  | none=>false
  | some t=>decide (t≠s)
 | _=>false
def qP (r:Rc):Ev->Bool
 | .T x _=>match r.tc x.nm with
  | none=>false
  | some t=>decide (t≠x.pt)
 | _=>false
def jy (w:Wk) (r:Rc) (e:Ev):Bool :=
 if iw w e=true then decide (w.ones≠(met w r).length)
 else match e with
  | .T x _=>if oa x=true then (if w.ones < (met w r).length then decide ((met w r)[w.ones]?≠some x.nm) else match w.num with
   | none=>false
   | some n=>(r.gc n).isSome) else false
  | _=>false
def i5 {α β:Type} [DecidableEq α] (f:α->Option β) (a:α) (b:β):α->Option β:=fun x=>if x=a then some b else f x
def dw {α β:Type} [DecidableEq α] (f:α->Option β) (a:α) (b:β):α->Option β:=fun x=>if x=a then some ((f a).getD b) else f x
def qX (w:Wk) (r:Rc):Ev->Rc
 | .L n s=>{ r with tl:=dw r.tl n s,gc:=match w.num with
  | none=>r.gc
  | some m=>dw r.gc m w.cs }
 | .T x _=>{ r with tc:=dw r.tc x.nm x.pt,mo:=if oa x=true/\w.ones=(met w r).length then (match w.num with
  | none=>r.mo
  | some n=>i5 r.mo n (met w r ++ [x.nm])) else r.mo }
 | .O _=>r
def GQ (w:Wk):Ev->Wk
 | .L n _=>⟨some n,some n,[],0⟩
 | .T x _=>⟨w.num,w.new,fJ w.cs x.c x.k,if oa x=true then w.ones + 1 else w.ones⟩
 | .O _=>⟨none,w.new,w.cs,w.ones⟩
theorem zZ {α β:Type} [DecidableEq α] {f:α->Option β} {a x:α} {b y:β} (h:dw f a b x=some y):f x=some y∨(x=a/\y=b):=by
 unfold dw at h
 by_cases e:x=a
 ·rw [if_pos e] at h
  cases z:f a with
  | none=>rw [z] at h; exact Or.inr ⟨e,(Option.some.inj h).symm⟩
  | some v=>rw [z] at h; rw [e,z]; exact Or.inl h
 ·rw [if_neg e] at h; exact Or.inl h
def mD (w:Wk) (r:Rc) (e:Ev):Bool:=iw w e && match w.num with
 | none=>false
 | some n=>match r.gc n with
  | none=>false
  | some m=>!fz m w.cs
def bJ (hand:Int) (w:Wk) (r:Rc) (e:Ev):Option Str :=
 if gY w e=true then some "number" else if fM hand w e=true then some "hands" else if sW w e=true then some "row" else if qW w e=true then some "causes" else if qM r e=true then some "lists" else if qP r e=true then some "calls" else if jy w r e=true then some "one" else if mD w r e=true then some "together" else none
structure Sd where
 n:Int
 tk:List j2
 go:Bool
def bp (l:List j2):List sL:=(l.filter oa).map j2.nm
def a9 (l:List j2):List (Int×Int):=l.foldl (fun m x=>fJ m x.c x.k) []
theorem mH (l:List j2) (x:j2):bp (l ++ [x])=if oa x=true then bp l ++ [x.nm] else bp l:=by
 unfold bp
 rw [List.filter_append]
 by_cases h:oa x=true
 ·rw [if_pos h,List.filter_cons,if_pos h,List.map_append]; rfl
 ·rw [if_neg h,List.filter_cons,if_neg h,List.filter_nil,List.append_nil]
theorem pC (l:List j2) (x:j2):a9 (l ++ [x])=fJ (a9 l) x.c x.k:=by
 unfold a9
 rw [List.foldl_append]
 rfl
structure Sn where
 l:List Sd
 c:Option Sd
 b:Bool
def Sn.all (s:Sn):List Sd:=s.l ++ s.c.toList
def DK:Sn:=⟨[],none,false⟩
def iX (s:Sn):Ev->Sn
 | .L n _=>⟨s.l ++ (s.c.map fun c=>⟨c.n,c.tk,c.go || s.b⟩).toList,some ⟨n,[],false⟩,true⟩
 | .T x _=>⟨s.l,s.c.map fun c=>⟨c.n,c.tk ++ [x],c.go⟩,s.b⟩
 | .O _=>⟨s.l,s.c,false⟩
def sn (es:List Ev):Sn:=es.foldl iX DK
theorem za (es:List Ev) (e:Ev):sn (es ++ [e])=iX (sn es) e:=by unfold sn; rw [List.foldl_append]; rfl
def ke (n:Int) (t:Int×Int×Int):Ev->Bool
 | .L m u=>decide (m=n) && decide (u≠t)
 | _=>false
def kB (x:j2):Ev->Bool
 | .T y _=>decide (y.nm=x.nm) && decide (y.pt≠x.pt)
 | _=>false
def pO (s:Sn) (n:Int):Bool:=(s.all.any fun d=>decide (n<=d.n)) || (s.b && match s.c with
 | none=>false
 | some c=>decide (c.n + 1≠n))
def rC (c d:Sd):Bool:=decide (d.n=c.n) && decide ((bp c.tk).length < (bp d.tk).length)
def r6 (c d:Sd):Bool:=decide (d.n=c.n) && (d.go && !fz (a9 d.tk) (a9 c.tk))
def ph (hand:Int) (AE:List Ev) (SD:List Sd) (s:Sn) (n:Int) (t:Int×Int×Int):Option Str :=
 if pO s n=true then some "number"
 else if (!jx t.1 hand || !jx (if s.b=true then t.2.1 else t.2.2) hand)=true then some "hands"
 else if AE.any (ke n t)=true then some "lists"
 else if s.b=true then (match s.c with
  | none=>none
  | some c=>if SD.any (rC c)=true then some "one" else if SD.any (r6 c)=true then some "together" else none)
 else none
def oW (x:j2) (j:Nat) (d:Sd):Bool:=decide (d.n=x.n) && (if j < (bp d.tk).length then decide ((bp d.tk)[j]?≠some x.nm) else d.go)
def lH (AE:List Ev) (SD:List Sd) (s:Sn) (x:j2):Option Str :=
 match s.c with
 | none=>some "number"
 | some c=>if (!s.b || decide (c.n≠x.n))=true then some "number"
  else if decide (ct (a9 c.tk) x.c + 1≠x.k)=true then some "row"
  else if (x.cs.any fun p=>decide (ct (a9 c.tk) p.1 < p.2))=true then some "causes"
  else if AE.any (kB x)=true then some "calls"
  else if oa x=true then (if SD.any (oW x (bp c.tk).length)=true then some "one" else none)
  else none
def rP (s:Sn) (n:Int):Option Str:=match s.c with
 | none=>some "number"
 | some c=>if (s.b && decide (c.n=n))=true then none else some "number"
def tI (hand:Int) (AE:List Ev) (SD:List Sd) (s:Sn):Ev->Option Str
 | .L n t=>ph hand AE SD s n t
 | .T x _=>lH AE SD s x
 | .O n=>rP s n
structure iG (r:Rc) (SD:List Sd) (AE:List Ev):Prop where
 tl:∀ n t,r.tl n=some t↔Ev.L n t∈AE
 tc:∀ nm p,r.tc nm=some p↔∃ x y,Ev.T x y∈AE/\x.nm=nm/\x.pt=p
 m1:∀ d∈SD,bp d.tk <+: (r.mo d.n).getD []
 m2:∀ n,(r.mo n).getD []=[]∨∃ d∈SD,d.n=n/\bp d.tk=(r.mo n).getD []
 g1:∀ d∈SD,d.go=true->∃ m,r.gc d.n=some m/\fz m (a9 d.tk)=true/\bp d.tk=(r.mo d.n).getD []
 g2:∀ n m,r.gc n=some m->∃ d∈SD,d.n=n/\d.go=true/\m=a9 d.tk
structure mx (w:Wk) (s:Sn):Prop where
 num:w.num=if s.b=true then s.c.map (·.n) else none
 new:w.new=s.c.map (·.n)
 bc:s.b=true->∃ c,s.c=some c
 inc:∀ d∈s.l,∃ c,s.c=some c/\d.n < c.n
 cs:∀ c,s.b=true->s.c=some c->w.cs=a9 c.tk/\w.ones=(bp c.tk).length
 ng:∀ c,s.b=true->s.c=some c->c.go=false
structure Wf (x:j2):Prop where
 ow:x.kd="own"->x.cs=[]
 ps:∀ p∈x.cs,1<=p.2
 ck:Ck x.cs
 c:0<=x.c/\x.c < 63
 k:1<=x.k
 kd:(PyData.str x.kd).canLay0=true
def mK:Ev->Prop
 | .L _ t=>0<=t.1/\0<=t.2.1/\0<=t.2.2
 | .T x y=>Wf x/\(PyData.str y).canLay0=true
 | .O _=>True
theorem nZ {l:List j2} (h:∀ x∈l,Wf x):Ck (a9 l):=by
 unfold a9
 have key:∀ (l:List j2) (m:List (Int×Int)),(∀ x∈l,Wf x)->Ck m->Ck (l.foldl (fun m x=>fJ m x.c x.k) m):=by
  intro l
  induction l with
  | nil=>intro m _ c; exact c
  | cons x l ih =>
   intro m h c
   have w:=h x List.mem_cons_self
   exact ih _ (fun y hy=>h y (List.mem_cons_of_mem _ hy)) (c.put w.c.1 w.c.2 (by have:=w.k; omega))
 exact key l [] h Ck.nil
theorem Wf.pos {x:j2} (w:Wf x):iF x.cs=x.cs:=by
 unfold iF
 exact List.filter_eq_self.mpr fun p hp=>decide_eq_true (by have:=w.ps p hp; omega)
theorem CL {w:Wk} {x:j2} {y:Str} (h:Wf x) (c:Ck w.cs):qW w (.T x y)=x.cs.any fun p=>decide (ct w.cs p.1 < p.2):=by
 show (decide (x.kd≠"own") && !Eg w.cs (iF x.cs))=_
 rw [h.pos]
 by_cases o:x.kd="own"
 ·rw [h.ow o,decide_eq_false (fun z=>z o)]; rfl
 ·rw [decide_eq_true o,Bool.true_and,Bool.eq_iff_iff,Bool.not_eq_true',List.any_eq_true]
  constructor
  ·intro z
   refine Classical.byContradiction fun no=>?_
   have:Eg w.cs x.cs=true:=(t7 c h.ck).mpr fun k=>by
    by_cases m:k∈x.cs.map (·.1)
    ·obtain ⟨p,hp,rfl⟩:=List.mem_map.mp m
     rw [AR h.ck.nd hp]
     refine Int.not_lt.mp fun lt=>no ⟨p,hp,decide_eq_true lt⟩
    ·rw [yy m]; exact c.ct k
   rw [this] at z
   cases z
  ·rintro ⟨p,hp,lt⟩
   have lt:=of_decide_eq_true lt
   cases z:Eg w.cs x.cs with
   | false=>rfl
   | true =>
    have:=(t7 c h.ck).mp z p.1
    rw [AR h.ck.nd hp] at this
    omega
end
end K81
namespace K81
open PySem L2
section
variable {P:Program} {w:World} {K:PySem.W.Frag} {mg:Str->Option Value} {base:Heap}
theorem Ba {w:Wk} {s:Sn} (W:mx w s) (h:s.c=none):s.all=[]/\s.b=false:=by
 constructor
 ·unfold Sn.all
  rw [h]
  cases e:s.l with
  | nil=>rfl
  | cons d l =>
   obtain ⟨c,hc,_⟩:=W.inc d (by rw [e]; exact List.mem_cons_self)
   rw [h] at hc
   cases hc
 ·cases e:s.b with
  | false=>rfl
  | true =>
   obtain ⟨c,hc⟩:=W.bc e
   rw [h] at hc
   cases hc
theorem An {w:Wk} {s:Sn} (W:mx w s) (n:Int) (t:Int×Int×Int):gY w (.L n t)=pO s n:=by
 unfold pO
 show ((match w.new with
  | none=>false
  | some v=>decide (n<=v)) || (match w.num with
  | none=>false
  | some v=>decide (n≠v + 1)))=_
 rw [W.new,W.num]
 cases e:s.c with
 | none =>
  obtain ⟨a,b⟩:=Ba W e
  rw [a,b]
  rfl
 | some c =>
  have ea:(s.all.any fun d=>decide (n<=d.n))=decide (n<=c.n):=by
   rw [Bool.eq_iff_iff,List.any_eq_true,decide_eq_true_iff]
   constructor
   ·rintro ⟨d,hd,h⟩
    have h:=of_decide_eq_true h
    unfold Sn.all at hd
    rw [e] at hd
    rcases List.mem_append.mp hd with z | z
    ·obtain ⟨c',hc',lt⟩:=W.inc d z
     rw [e] at hc'
     cases hc'
     omega
    ·have:d=c:=by simpa using z
     rw [← this]; exact h
   ·intro h
    exact ⟨c,by unfold Sn.all; rw [e]; simp,decide_eq_true h⟩
  rw [ea]
  cases b:s.b with
  | false=>simp
  | true =>
   simp only [Option.map_some,if_true,Bool.true_and]
   congr 1
   rw [decide_eq_decide]
   constructor <;> (intro h; omega)
theorem GG {r:Rc} {SD:List Sd} {AE:List Ev} (R:iG r SD AE) (n:Int) (t:Int×Int×Int):qM r (.L n t)=AE.any (ke n t):=by
 show (match r.tl n with
  | none=>false
  | some u=>decide (u≠t))=_
 rw [Bool.eq_iff_iff,List.any_eq_true]
 cases z:r.tl n with
 | none =>
  refine ⟨fun h=>(Bool.false_ne_true h).elim,?_⟩
  rintro ⟨e,he,h⟩
  cases e with
  | L m u =>
   have h:(decide (m=n) && decide (u≠t))=true:=h
   rw [Bool.and_eq_true] at h
   have em:=of_decide_eq_true h.1
   subst em
   have:=(R.tl m u).mpr he
   rw [z] at this
   cases this
  | T x y=>exact (Bool.false_ne_true h).elim
  | O m=>exact (Bool.false_ne_true h).elim
 | some u =>
  constructor
  ·intro h
   refine ⟨.L n u,(R.tl n u).mp z,?_⟩
   show (decide (n=n) && decide (u≠t))=true
   rw [decide_eq_true rfl,Bool.true_and]
   exact h
  ·rintro ⟨e,he,h⟩
   cases e with
   | L m u' =>
    have h:(decide (m=n) && decide (u'≠t))=true:=h
    rw [Bool.and_eq_true] at h
    have em:=of_decide_eq_true h.1
    subst em
    have:=(R.tl m u').mpr he
    rw [z] at this
    cases this
    exact h.2
   | T x y=>exact (Bool.false_ne_true h).elim
   | O m=>exact (Bool.false_ne_true h).elim
theorem FU {r:Rc} {SD:List Sd} {AE:List Ev} (R:iG r SD AE) (x:j2) (y:Str):qP r (.T x y)=AE.any (kB x):=by
 show (match r.tc x.nm with
  | none=>false
  | some u=>decide (u≠x.pt))=_
 rw [Bool.eq_iff_iff,List.any_eq_true]
 have key:∀ x' y',Ev.T x' y'∈AE->r.tc x'.nm=some x'.pt:=fun x' y' h=>(R.tc _ _).mpr ⟨x',y',h,rfl,rfl⟩
 cases z:r.tc x.nm with
 | none =>
  refine ⟨fun h=>(Bool.false_ne_true h).elim,?_⟩
  rintro ⟨e,he,h⟩
  cases e with
  | T x' y' =>
   have h:(decide (x'.nm=x.nm) && decide (x'.pt≠x.pt))=true:=h
   rw [Bool.and_eq_true] at h
   have em:=of_decide_eq_true h.1
   have:=key x' y' he
   rw [em,z] at this
   cases this
  | L m u=>exact (Bool.false_ne_true h).elim
  | O m=>exact (Bool.false_ne_true h).elim
 | some u =>
  constructor
  ·intro h
   obtain ⟨x',y',h1,h2,h3⟩:=(R.tc x.nm u).mp z
   refine ⟨.T x' y',h1,?_⟩
   show (decide (x'.nm=x.nm) && decide (x'.pt≠x.pt))=true
   rw [decide_eq_true h2,Bool.true_and,h3]
   exact h
  ·rintro ⟨e,he,h⟩
   cases e with
   | T x' y' =>
    have h:(decide (x'.nm=x.nm) && decide (x'.pt≠x.pt))=true:=h
    rw [Bool.and_eq_true] at h
    have em:=of_decide_eq_true h.1
    have:=key x' y' he
    rw [em,z] at this
    cases this
    exact h.2
   | L m u=>exact (Bool.false_ne_true h).elim
   | O m=>exact (Bool.false_ne_true h).elim
theorem DQ {w:Wk} {r:Rc} {s:Sn} {c:Sd} {SD:List Sd} {AE:List Ev} (R:iG r SD AE) (W:mx w s) (b:s.b=true) (hc:s.c=some c) (hm:c∈SD) (n:Int) (t:Int×Int×Int):jy w r (.L n t)=SD.any (rC c):=by
 have wn:w.num=some c.n:=by rw [W.num,if_pos b,hc]; rfl
 have go:iw w (.L n t)=true:=by show w.num.isSome=true; rw [wn]; rfl
 obtain ⟨_,wo⟩:=W.cs c b hc
 have me:met w r=(r.mo c.n).getD []:=by unfold met; rw [wn]
 unfold jy
 rw [if_pos go,wo,me,Bool.eq_iff_iff,decide_eq_true_iff,List.any_eq_true]
 have p:=(R.m1 c hm).length_le
 constructor
 ·intro h
  rcases R.m2 c.n with z | ⟨d,hd,e1,e2⟩
  ·rw [z,List.length_nil] at p h
   omega
  ·refine ⟨d,hd,?_⟩
   unfold rC
   rw [decide_eq_true e1,e2,Bool.true_and,decide_eq_true_iff]
   omega
 ·rintro ⟨d,hd,h⟩
  unfold rC at h
  rw [Bool.and_eq_true] at h
  have e1:=of_decide_eq_true h.1
  have e2:=of_decide_eq_true h.2
  have:=(R.m1 d hd).length_le
  rw [e1] at this
  omega
theorem Fc {w:Wk} {r:Rc} {s:Sn} {c:Sd} {SD:List Sd} {AE:List Ev} (R:iG r SD AE) (W:mx w s) (b:s.b=true) (hc:s.c=some c) (hm:c∈SD) (wf:∀ d∈SD,∀ x∈d.tk,Wf x) (n:Int) (t:Int×Int×Int):mD w r (.L n t)=SD.any (r6 c):=by
 have wn:w.num=some c.n:=by rw [W.num,if_pos b,hc]; rfl
 have go:iw w (.L n t)=true:=by show w.num.isSome=true; rw [wn]; rfl
 obtain ⟨wc,_⟩:=W.cs c b hc
 have nd:∀ d∈SD,((a9 d.tk).map (·.1)).Nodup:=fun d hd=>(nZ (wf d hd)).nd
 unfold mD
 rw [go,wn,Bool.true_and,Bool.eq_iff_iff,List.any_eq_true]
 show (match r.gc c.n with
  | none=>false
  | some m=>!fz m w.cs)=true↔_
 cases z:r.gc c.n with
 | none =>
  refine ⟨fun h=>(Bool.false_ne_true h).elim,?_⟩
  rintro ⟨d,hd,h⟩
  unfold r6 at h
  rw [Bool.and_eq_true,Bool.and_eq_true] at h
  have e1:=of_decide_eq_true h.1
  obtain ⟨m,e,_⟩:=R.g1 d hd h.2.1
  rw [e1,z] at e
  cases e
 | some m =>
  obtain ⟨d0,hd0,e01,e02,e03⟩:=R.g2 _ _ z
  constructor
  ·intro h
   refine ⟨d0,hd0,?_⟩
   unfold r6
   rw [decide_eq_true e01,e02,Bool.true_and,Bool.true_and,← wc,← e03]
   exact h
  ·rintro ⟨d,hd,h⟩
   unfold r6 at h
   rw [Bool.and_eq_true,Bool.and_eq_true] at h
   have e1:=of_decide_eq_true h.1
   obtain ⟨m',e,sm,_⟩:=R.g1 d hd h.2.1
   rw [e1,z] at e
   cases e
   have h3:=h.2.2
   rw [Bool.not_eq_true'] at h3 ⊢
   cases y:fz m w.cs with
   | false=>rfl
   | true =>
    rw [wc] at y
    have a1:=(jd (by rw [e03]; exact nd d0 hd0) (nd d hd)).mp sm
    have a2:=(jd (by rw [e03]; exact nd d0 hd0) (nd c hm)).mp y
    rw [(jd (nd d hd) (nd c hm)).mpr fun k=>(a1 k).symm.trans (a2 k)] at h3
    cases h3
theorem Gd {α:Type} {a b:List α} (h:a <+: b) {i:Nat} (l:i < a.length):a[i]?=b[i]?:=by
 obtain ⟨t,rfl⟩:=h
 rw [List.getElem?_append_left l]
theorem Dk {w:Wk} {r:Rc} {s:Sn} {c:Sd} {SD:List Sd} {AE:List Ev} (R:iG r SD AE) (W:mx w s) (b:s.b=true) (hc:s.c=some c) {x:j2} (en:c.n=x.n) (ix:oa x=true) (y:Str):jy w r (.T x y)=SD.any (oW x (bp c.tk).length):=by
 have wn:w.num=some x.n:=by rw [W.num,if_pos b,hc,← en]; rfl
 obtain ⟨_,wo⟩:=W.cs c b hc
 have me:met w r=(r.mo x.n).getD []:=by unfold met; rw [wn]
 unfold jy
 rw [if_neg (by show ¬ (false=true); exact Bool.false_ne_true)]
 show (if oa x=true then (if w.ones < (met w r).length then decide ((met w r)[w.ones]?≠some x.nm) else match w.num with
   | none=>false
   | some n=>(r.gc n).isSome) else false)=_
 rw [if_pos ix,wo,me,wn]
 generalize (bp c.tk).length=j
 rw [Bool.eq_iff_iff,List.any_eq_true]
 by_cases lt:j < ((r.mo x.n).getD []).length
 ·rw [if_pos lt,decide_eq_true_iff]
  constructor
  ·intro h
   rcases R.m2 x.n with z | ⟨d,hd,e1,e2⟩
   ·rw [z] at lt; exact absurd lt (Nat.not_lt_zero _)
   ·refine ⟨d,hd,?_⟩
    unfold oW
    rw [decide_eq_true e1,e2,if_pos lt,Bool.true_and,decide_eq_true_iff]
    exact h
  ·rintro ⟨d,hd,h⟩
   unfold oW at h
   rw [Bool.and_eq_true] at h
   have e1:=of_decide_eq_true h.1
   have h2:=h.2
   have p:=R.m1 d hd
   rw [e1] at p
   split at h2
   ·rename_i l
    rw [Gd p l] at h2
    exact of_decide_eq_true h2
   ·rename_i l
    obtain ⟨m,_,_,e⟩:=R.g1 d hd h2
    rw [e,e1] at l
    exact absurd lt l
 ·rw [if_neg lt]
  show (r.gc x.n).isSome=true↔_
  constructor
  ·intro h
   obtain ⟨m,hm⟩:=Option.isSome_iff_exists.mp h
   obtain ⟨d,hd,e1,e2,_⟩:=R.g2 _ _ hm
   have p:=(R.m1 d hd).length_le
   rw [e1] at p
   refine ⟨d,hd,?_⟩
   unfold oW
   rw [decide_eq_true e1,if_neg (by omega),e2]
   rfl
  ·rintro ⟨d,hd,h⟩
   unfold oW at h
   rw [Bool.and_eq_true] at h
   have e1:=of_decide_eq_true h.1
   have h2:=h.2
   have p:=(R.m1 d hd).length_le
   rw [e1] at p
   rw [if_neg (by omega)] at h2
   obtain ⟨m,e,_⟩:=R.g1 d hd h2
   rw [e1] at e
   rw [e]
   rfl
end
end K81
namespace K81
open PySem L2
section
variable {P:Program} {w:World} {K:PySem.W.Frag} {mg:Str->Option Value} {base:Heap}
theorem DU {hand:Int} {w:Wk} {r:Rc} {s:Sn} {SD:List Sd} {AE:List Ev} (R:iG r SD AE) (W:mx w s) (sub:∀ d∈s.all,d∈SD) (wf:∀ d∈SD,∀ x∈d.tk,Wf x) {e:Ev} (we:mK e):bJ hand w r e=tI hand AE SD s e:=by
 have mem:∀ c,s.c=some c->c∈SD:=fun c h=>sub c (by unfold Sn.all; rw [h]; simp)
 cases e with
 | L n t =>
  show bJ hand w r (.L n t)=ph hand AE SD s n t
  unfold bJ ph
  rw [An W,GG R]
  by_cases h1:pO s n=true
  ·rw [if_pos h1,if_pos h1]
  rw [if_neg h1,if_neg h1]
  have isb:w.num.isSome=s.b:=by
   rw [W.num]
   cases b:s.b with
   | false=>rfl
   | true=>obtain ⟨c,hc⟩:=W.bc b; rw [hc]; rfl
  have eh:fM hand w (.L n t)=(!jx t.1 hand || !jx (if s.b=true then t.2.1 else t.2.2) hand):=by
   show (!jx t.1 hand || !jx (if w.num.isSome=true then t.2.1 else t.2.2) hand)=_
   rw [isb]
  rw [eh]
  by_cases h2:(!jx t.1 hand || !jx (if s.b=true then t.2.1 else t.2.2) hand)=true
  ·rw [if_pos h2,if_pos h2]
  rw [if_neg h2,if_neg h2]
  rw [if_neg (show ¬ (sW w (.L n t)=true) from Bool.false_ne_true),if_neg (show ¬ (qW w (.L n t)=true) from Bool.false_ne_true)]
  by_cases h3:AE.any (ke n t)=true
  ·rw [if_pos h3,if_pos h3]
  rw [if_neg h3,if_neg h3]
  rw [if_neg (show ¬ (qP r (.L n t)=true) from Bool.false_ne_true)]
  cases b:s.b with
  | false =>
   have go:iw w (.L n t)=false:=by show w.num.isSome=false; rw [isb,b]
   rw [if_neg Bool.false_ne_true]
   rw [if_neg (by unfold jy; rw [go,if_neg Bool.false_ne_true]; exact Bool.false_ne_true),if_neg (by unfold mD; rw [go]; exact Bool.false_ne_true)]
  | true =>
   obtain ⟨c,hc⟩:=W.bc b
   rw [if_pos rfl,hc,DQ R W b hc (mem c hc),Fc R W b hc (mem c hc) wf]
 | T x y =>
  obtain ⟨wx,_⟩:Wf x/\_:=we
  show bJ hand w r (.T x y)=lH AE SD s x
  unfold bJ lH
  have nb:gY w (.T x y)=match w.num with
   | none=>true
   | some v=>decide (x.n≠v):=rfl
  cases hc:s.c with
  | none =>
   have:w.num=none:=by rw [W.num,hc]; split <;> rfl
   rw [nb,this]
   rfl
  | some c =>
   cases b:s.b with
   | false =>
    have:w.num=none:=by rw [W.num,b]; rfl
    rw [nb,this]
    rfl
   | true =>
    have wn:w.num=some c.n:=by rw [W.num,if_pos b,hc]; rfl
    obtain ⟨wc,wo⟩:=W.cs c b hc
    have ck:Ck w.cs:=by rw [wc]; exact nZ (wf c (mem c hc))
    rw [nb,wn]
    show (if decide (x.n≠c.n)=true then _ else _)=(if (!true || decide (c.n≠x.n))=true then _ else _)
    by_cases en:c.n=x.n
    ·have d1:decide (x.n≠c.n)=false:=decide_eq_false (fun z=>z en.symm)
     have d2:(!true || decide (c.n≠x.n))=false:=by rw [show decide (c.n≠x.n)=false from decide_eq_false (fun z=>z en)]; rfl
     rw [d1,d2,if_neg Bool.false_ne_true,if_neg Bool.false_ne_true]
     rw [if_neg (show ¬ (fM hand w (.T x y)=true) from Bool.false_ne_true)]
     have er:sW w (.T x y)=decide (ct (a9 c.tk) x.c + 1≠x.k):=by
      show decide (x.k≠ct w.cs x.c + 1)=_
      rw [wc,decide_eq_decide]
      constructor <;> (intro h z; exact h z.symm)
     rw [er]
     by_cases h1:decide (ct (a9 c.tk) x.c + 1≠x.k)=true
     ·rw [if_pos h1,if_pos h1]
     rw [if_neg h1,if_neg h1,CL wx ck,wc]
     by_cases h2:(x.cs.any fun p=>decide (ct (a9 c.tk) p.1 < p.2))=true
     ·rw [if_pos h2,if_pos h2]
     rw [if_neg h2,if_neg h2,if_neg (show ¬ (qM r (.T x y)=true) from Bool.false_ne_true),FU R]
     by_cases h3:AE.any (kB x)=true
     ·rw [if_pos h3,if_pos h3]
     rw [if_neg h3,if_neg h3,if_neg (show ¬ (mD w r (.T x y)=true) from Bool.false_ne_true)]
     by_cases ix:oa x=true
     ·rw [Dk R W b hc en ix,if_pos ix]
     ·rw [if_neg ix,if_neg]
      unfold jy
      rw [if_neg (show ¬ (iw w (.T x y)=true) from Bool.false_ne_true)]
      show ¬ ((if oa x=true then _ else false)=true)
      rw [if_neg ix]
      exact Bool.false_ne_true
    ·have d1:decide (x.n≠c.n)=true:=decide_eq_true (show x.n≠c.n from fun z=>en z.symm)
     have d2:(!true || decide (c.n≠x.n))=true:=by rw [show decide (c.n≠x.n)=true from decide_eq_true en]; rfl
     rw [d1,d2,if_pos rfl,if_pos rfl]
 | O n =>
  show bJ hand w r (.O n)=rP s n
  unfold bJ rP
  have nb:gY w (.O n)=match w.num with
   | none=>true
   | some v=>decide (n≠v):=rfl
  rw [if_neg (show ¬ (fM hand w (.O n)=true) from Bool.false_ne_true),if_neg (show ¬ (sW w (.O n)=true) from Bool.false_ne_true),if_neg (show ¬ (qW w (.O n)=true) from Bool.false_ne_true),if_neg (show ¬ (qM r (.O n)=true) from Bool.false_ne_true),if_neg (show ¬ (qP r (.O n)=true) from Bool.false_ne_true),if_neg (show ¬ (jy w r (.O n)=true) by unfold jy; rw [if_neg (show ¬ (iw w (.O n)=true) from Bool.false_ne_true)]; exact Bool.false_ne_true),if_neg (show ¬ (mD w r (.O n)=true) from Bool.false_ne_true),nb]
  cases hc:s.c with
  | none =>
   have:w.num=none:=by rw [W.num,hc]; split <;> rfl
   rw [this]
   rfl
  | some c =>
   cases b:s.b with
   | false =>
    have:w.num=none:=by rw [W.num,b]; rfl
    rw [this]
    rfl
   | true =>
    have wn:w.num=some c.n:=by rw [W.num,if_pos b,hc]; rfl
    rw [wn]
    show (if decide (n≠c.n)=true then _ else _)=(if (true && decide (c.n=n))=true then _ else _)
    by_cases en:c.n=n
    ·have d1:decide (n≠c.n)=false:=decide_eq_false (fun z=>z en.symm)
     have d2:(true && decide (c.n=n))=true:=by rw [decide_eq_true en]; rfl
     rw [d1,d2,if_neg Bool.false_ne_true,if_pos rfl]
    ·have d1:decide (n≠c.n)=true:=decide_eq_true (show n≠c.n from fun z=>en z.symm)
     have d2:(true && decide (c.n=n))=false:=by rw [decide_eq_false en]; rfl
     rw [d1,d2,if_pos rfl,if_neg Bool.false_ne_true]
theorem iK {hand:Int} {w:Wk} {r:Rc} {e:Ev} (h:bJ hand w r e=none):gY w e=false/\fM hand w e=false/\sW w e=false/\qW w e=false/\qM r e=false/\qP r e=false/\jy w r e=false/\mD w r e=false:=by
 unfold bJ at h
 have key:∀ {p:Bool} {s:Str} {o:Option Str},(if p=true then some s else o)=none->p=false/\o=none:=fun {p s o} z=>by
  cases p with
  | true=>cases z
  | false=>exact ⟨rfl,z⟩
 obtain ⟨h1,h⟩:=key h
 obtain ⟨h2,h⟩:=key h
 obtain ⟨h3,h⟩:=key h
 obtain ⟨h4,h⟩:=key h
 obtain ⟨h5,h⟩:=key h
 obtain ⟨h6,h⟩:=key h
 obtain ⟨h7,h⟩:=key h
 obtain ⟨h8,_⟩:=key h
 exact ⟨h1,h2,h3,h4,h5,h6,h7,h8⟩
end
end K81
namespace K81
open PySem L2
section
variable {P:Program} {w:World} {K:PySem.W.Frag} {mg:Str->Option Value} {base:Heap}
theorem uH {α β:Type} [DecidableEq α] {f:α->Option β} {a x:α} {b:β} (e:x≠a):dw f a b x=f x:=by unfold dw; rw [if_neg e]
theorem qw {α β:Type} [DecidableEq α] {f:α->Option β} {a:α} {b:β}:dw f a b a=some ((f a).getD b):=by unfold dw; rw [if_pos rfl]
theorem iG.L {hand:Int} {w:Wk} {r:Rc} {s:Sn} {D:List Sd} {AE:List Ev} (R:iG r (D ++ s.all) AE) (W:mx w s) (wf:∀ d∈D ++ s.all,∀ x∈d.tk,Wf x) {n:Int} {t:Int×Int×Int} (h:bJ hand w r (.L n t)=none):iG (qX w r (.L n t)) (D ++ (iX s (.L n t)).all) (AE ++ [.L n t]):=by
 obtain ⟨_,_,_,_,b5,_,b7,b8⟩:=iK h
 have tl:∀ m u,(dw r.tl n t) m=some u↔Ev.L m u∈AE ++ [.L n t]:=fun m u=>by
  rw [List.mem_append,List.mem_singleton]
  by_cases e:m=n
  ·subst e
   rw [qw]
   have b5:(match r.tl m with
    | none=>false
    | some v=>decide (v≠t))=false:=b5
   cases z:r.tl m with
   | none =>
    constructor
    ·intro y; cases y; exact .inr rfl
    ·rintro (y | y)
     ·rw [← R.tl,z] at y; cases y
     ·cases y; rfl
   | some v =>
    rw [z] at b5
    have b5:decide (v≠t)=false:=b5
    have ev:v=t:=Classical.byContradiction fun c=>by rw [show decide (v≠t)=true from decide_eq_true c] at b5; cases b5
    rw [ev] at z
    constructor
    ·intro y; cases y; exact .inr (by rw [← ev]; rfl)
    ·rintro (y | y)
     ·rw [← R.tl,z] at y; cases y; rw [ev]; rfl
     ·cases y; rw [ev]; rfl
  ·rw [uH e,R.tl]
   constructor
   ·exact .inl
   ·rintro (y | y)
    ·exact y
    ·cases y; exact absurd rfl e
 have tc:∀ nm p,r.tc nm=some p↔∃ x y,Ev.T x y∈AE ++ [.L n t]/\x.nm=nm/\x.pt=p:=fun nm p=>by
  rw [R.tc]
  constructor
  ·rintro ⟨x,y,a,b⟩; exact ⟨x,y,List.mem_append_left _ a,b⟩
  ·rintro ⟨x,y,a,b⟩
   rcases List.mem_append.mp a with z | z
   ·exact ⟨x,y,z,b⟩
   ·cases List.mem_singleton.mp z
 -- the stands behind,with the last one's going on
 have nw:∀ d,d∈D ++ (iX s (.L n t)).all↔d∈D∨d∈s.l∨(∃ c,s.c=some c/\d=⟨c.n,c.tk,c.go || s.b⟩)∨d=⟨n,[],false⟩:=fun d=>by
  show d∈D ++ ((s.l ++ (s.c.map fun c=>⟨c.n,c.tk,c.go || s.b⟩).toList) ++ (some (⟨n,[],false⟩:Sd)).toList)↔_
  rw [List.mem_append,List.mem_append,List.mem_append]
  cases hc:s.c with
  | none=>simp
  | some c=>simp [or_assoc]
 have od:∀ d,d∈D ++ s.all↔d∈D∨d∈s.l∨s.c=some d:=fun d=>by
  unfold Sn.all
  rw [List.mem_append,List.mem_append]
  cases hc:s.c with
  | none=>simp
  | some c=>simp [eq_comm]
 have cor:∀ d,d∈D ++ (iX s (.L n t)).all->d=⟨n,[],false⟩∨∃ d0∈D ++ s.all,d0.n=d.n/\d0.tk=d.tk/\(d.go=true->d0.go=true∨(s.b=true/\s.c=some d0)):=fun d hd=>by
  rcases (nw d).mp hd with z | z | ⟨c,hc,rfl⟩ | z
  ·exact .inr ⟨d,(od d).mpr (.inl z),rfl,rfl,.inl⟩
  ·exact .inr ⟨d,(od d).mpr (.inr (.inl z)),rfl,rfl,.inl⟩
  ·refine .inr ⟨c,(od c).mpr (.inr (.inr hc)),rfl,rfl,fun g=>?_⟩
   have g:(c.go || s.b)=true:=g
   rw [Bool.or_eq_true] at g
   exact g.imp id fun b=>⟨b,hc⟩
  ·exact .inl z
 have roc:∀ d0,d0∈D ++ s.all->∃ d∈D ++ (iX s (.L n t)).all,d.n=d0.n/\d.tk=d0.tk/\(d0.go=true->d.go=true):=fun d0 hd=>by
  rcases (od d0).mp hd with z | z | z
  ·exact ⟨d0,(nw d0).mpr (.inl z),rfl,rfl,id⟩
  ·exact ⟨d0,(nw d0).mpr (.inr (.inl z)),rfl,rfl,id⟩
  ·exact ⟨⟨d0.n,d0.tk,d0.go || s.b⟩,(nw _).mpr (.inr (.inr (.inl ⟨d0,z,rfl⟩))),rfl,rfl,fun g=>by show (d0.go || s.b)=true; rw [g]; rfl⟩
 have m1:∀ d∈D ++ (iX s (.L n t)).all,bp d.tk <+: (r.mo d.n).getD []:=fun d hd=>by
  rcases cor d hd with z | ⟨d0,h0,e1,e2,_⟩
  ·rw [z]; exact List.nil_prefix
  ·rw [← e1,← e2]; exact R.m1 d0 h0
 have m2:∀ n',(r.mo n').getD []=[]∨∃ d∈D ++ (iX s (.L n t)).all,d.n=n'/\bp d.tk=(r.mo n').getD []:=fun n'=>by
  rcases R.m2 n' with z | ⟨d,hd,e1,e2⟩
  ·exact .inl z
  ·obtain ⟨d',h',a,b,_⟩:=roc d hd
   exact .inr ⟨d',h',a.trans e1,by rw [b]; exact e2⟩
 cases b:s.b with
 | false =>
  have wn:w.num=none:=by rw [W.num,b]; rfl
  have eg:qX w r (.L n t)={ r with tl:=dw r.tl n t,gc:=r.gc }:=by
   show ({ r with tl:=dw r.tl n t,gc:=match w.num with
    | none=>r.gc
    | some m=>dw r.gc m w.cs }:Rc)=_
   rw [wn]
  rw [eg]
  refine ⟨tl,tc,m1,m2,fun d hd g=>?_,fun n' m e=>?_⟩
  ·rcases cor d hd with z | ⟨d0,h0,e1,e2,e3⟩
   ·rw [z] at g; cases g
   ·rcases e3 g with g | g
    ·obtain ⟨m,a,c⟩:=R.g1 d0 h0 g
     rw [e1,e2] at c
     rw [e1] at a
     exact ⟨m,a,c⟩
    ·rw [b] at g; cases g.1
  ·obtain ⟨d,hd,a,g,c⟩:=R.g2 n' m e
   obtain ⟨d',h',x,y,z⟩:=roc d hd
   exact ⟨d',h',x.trans a,z g,by rw [y]; exact c⟩
 | true =>
  obtain ⟨c,hc⟩:=W.bc b
  have wn:w.num=some c.n:=by rw [W.num,if_pos b,hc]; rfl
  have hm:c∈D ++ s.all:=(od c).mpr (.inr (.inr hc))
  obtain ⟨wc,wo⟩:=W.cs c b hc
  have go:iw w (.L n t)=true:=by show w.num.isSome=true; rw [wn]; rfl
  have oc:bp c.tk=(r.mo c.n).getD []:=by
   unfold jy at b7
   rw [if_pos go] at b7
   have me:met w r=(r.mo c.n).getD []:=by unfold met; rw [wn]
   have:w.ones=(met w r).length:=Classical.byContradiction fun z=>by rw [show decide (w.ones≠(met w r).length)=true from decide_eq_true z] at b7; cases b7
   rw [wo,me] at this
   exact (R.m1 c hm).eq_of_length this
  have ck:((a9 c.tk).map (·.1)).Nodup:=(nZ (wf c hm)).nd
  have same0:fz (a9 c.tk) (a9 c.tk)=true:=(jd ck ck).mpr fun _=>rfl
  have eg:qX w r (.L n t)={ r with tl:=dw r.tl n t,gc:=dw r.gc c.n w.cs }:=by
   show ({ r with tl:=dw r.tl n t,gc:=match w.num with
    | none=>r.gc
    | some m=>dw r.gc m w.cs }:Rc)=_
   rw [wn]
  rw [eg]
  refine ⟨tl,tc,m1,m2,fun d hd g=>?_,fun n' m e=>?_⟩
  ·rcases cor d hd with z | ⟨d0,h0,e1,e2,e3⟩
   ·rw [z] at g; cases g
   ·rcases e3 g with g | g
    ·obtain ⟨m,a,c'⟩:=R.g1 d0 h0 g
     rw [e1,e2] at c'
     rw [e1] at a
     refine ⟨m,?_,c'⟩
     show dw r.gc c.n w.cs d.n=some m
     by_cases ee:d.n=c.n
     ·rw [ee] at a ⊢; rw [qw,a]; rfl
     ·rw [uH ee]; exact a
    ·obtain rfl:c=d0:=Option.some.inj (hc.symm.trans g.2)
     rw [← e1,← e2]
     show ∃ m,dw r.gc c.n w.cs c.n=some m/\_
     rw [qw,wc]
     cases z:r.gc c.n with
     | none=>exact ⟨_,rfl,same0,oc⟩
     | some m =>
      refine ⟨m,rfl,?_,oc⟩
      unfold mD at b8
      rw [go,Bool.true_and,wn] at b8
      have b8:(match r.gc c.n with
       | none=>false
       | some m=>!fz m w.cs)=false:=b8
      rw [z] at b8
      have b8:(!fz m w.cs)=false:=b8
      rw [wc] at b8
      simpa using b8
  ·have e:dw r.gc c.n w.cs n'=some m:=e
   rcases zZ e with e | ⟨e1,e2⟩
   ·obtain ⟨d,hd,a,g,c'⟩:=R.g2 n' m e
    obtain ⟨d',h',x,y,z⟩:=roc d hd
    exact ⟨d',h',x.trans a,z g,by rw [y]; exact c'⟩
   ·refine ⟨⟨c.n,c.tk,c.go || s.b⟩,(nw _).mpr (.inr (.inr (.inl ⟨c,hc,rfl⟩))),e1.symm,?_,by rw [e2,wc]⟩
    show (c.go || s.b)=true
    rw [b,Bool.or_true]
end
end K81
namespace K81
open PySem L2
section
variable {P:Program} {w:World} {K:PySem.W.Frag} {mg:Str->Option Value} {base:Heap}
theorem Ea {w:Wk} {s:Sn} (W:mx w s) {x:j2} {y:Str} (h:gY w (.T x y)=false):s.b=true/\∃ c,s.c=some c/\c.n=x.n/\w.num=some x.n:=by
 have nb:(match w.num with
   | none=>true
   | some v=>decide (x.n≠v))=false:=h
 cases b:s.b with
 | false=>rw [show w.num=none by rw [W.num,b]; rfl] at nb; cases nb
 | true =>
  obtain ⟨c,hc⟩:=W.bc b
  have wn:w.num=some c.n:=by rw [W.num,if_pos b,hc]; rfl
  rw [wn] at nb
  have nb:decide (x.n≠c.n)=false:=nb
  have e:x.n=c.n:=Classical.byContradiction fun z=>by rw [show decide (x.n≠c.n)=true from decide_eq_true z] at nb; cases nb
  exact ⟨rfl,c,hc,e.symm,by rw [wn,e]⟩
theorem iG.T {hand:Int} {w:Wk} {r:Rc} {s:Sn} {D:List Sd} {AE:List Ev} (R:iG r (D ++ s.all) AE) (W:mx w s) {x:j2} {y:Str} (h:bJ hand w r (.T x y)=none):iG (qX w r (.T x y)) (D ++ (iX s (.T x y)).all) (AE ++ [.T x y]):=by
 obtain ⟨b1,_,_,_,_,b6,b7,_⟩:=iK h
 obtain ⟨b,c,hc,en,wn⟩:=Ea W b1
 obtain ⟨wc,wo⟩:=W.cs c b hc
 have ng:=W.ng c b hc
 have me:met w r=(r.mo x.n).getD []:=by unfold met; rw [wn]
 have od:∀ d,d∈D ++ s.all↔(d∈D∨d∈s.l)∨d=c:=fun d=>by
  unfold Sn.all
  rw [List.mem_append,List.mem_append,hc,or_assoc]
  simp
 have nw:∀ d,d∈D ++ (iX s (.T x y)).all↔(d∈D∨d∈s.l)∨d=⟨c.n,c.tk ++ [x],c.go⟩:=fun d=>by
  show d∈D ++ (s.l ++ (s.c.map fun c=>(⟨c.n,c.tk ++ [x],c.go⟩:Sd)).toList)↔_
  rw [List.mem_append,List.mem_append,hc,or_assoc]
  simp
 have hm:c∈D ++ s.all:=(od c).mpr (.inr rfl)
 have cn:((⟨c.n,c.tk ++ [x],c.go⟩:Sd))∈D ++ (iX s (.T x y)).all:=(nw _).mpr (.inr rfl)
 have tl:∀ m u,r.tl m=some u↔Ev.L m u∈AE ++ [.T x y]:=fun m u=>by
  rw [R.tl,List.mem_append,List.mem_singleton]
  exact ⟨.inl,fun z=>z.elim id fun z=>by cases z⟩
 have tc:∀ nm p,dw r.tc x.nm x.pt nm=some p↔∃ x' y',Ev.T x' y'∈AE ++ [.T x y]/\x'.nm=nm/\x'.pt=p:=fun nm p=>by
  have old:(∃ x' y',Ev.T x' y'∈AE ++ [.T x y]/\x'.nm=nm/\x'.pt=p)↔r.tc nm=some p∨(x.nm=nm/\x.pt=p):=by
   rw [R.tc]
   constructor
   ·rintro ⟨x',y',a,q⟩
    rcases List.mem_append.mp a with z | z
    ·exact .inl ⟨x',y',z,q⟩
    ·cases List.mem_singleton.mp z; exact .inr q
   ·rintro (⟨x',y',a,q⟩ | q)
    ·exact ⟨x',y',List.mem_append_left _ a,q⟩
    ·exact ⟨x,y,List.mem_append_right _ (List.mem_singleton.mpr rfl),q⟩
  rw [old]
  by_cases e:nm=x.nm
  ·subst e
   rw [qw]
   have b6:(match r.tc x.nm with
    | none=>false
    | some v=>decide (v≠x.pt))=false:=b6
   cases z:r.tc x.nm with
   | none =>
    constructor
    ·intro q; exact .inr ⟨rfl,Option.some.inj q⟩
    ·rintro (q | q)
     ·cases q
     ·rw [← q.2]; rfl
   | some v =>
    rw [z] at b6
    have b6:decide (v≠x.pt)=false:=b6
    have ev:v=x.pt:=Classical.byContradiction fun c=>by rw [show decide (v≠x.pt)=true from decide_eq_true c] at b6; cases b6
    constructor
    ·intro q; exact .inl q
    ·rintro (q | q)
     ·exact q
     ·rw [← q.2,← ev]; rfl
  ·rw [uH e]
   exact ⟨.inl,fun z=>z.elim id fun z=>absurd z.1.symm e⟩
 have b7:(if oa x=true then (if w.ones < (met w r).length then decide ((met w r)[w.ones]?≠some x.nm) else match w.num with
   | none=>false
   | some n=>(r.gc n).isSome) else false)=false:=b7
 rw [wn,wo,me] at b7
 have pc:=R.m1 c hm
 rw [en] at pc
 generalize hM:(r.mo x.n).getD []=M at *
 have eg:qX w r (.T x y)={ r with tc:=dw r.tc x.nm x.pt,mo:=if oa x=true/\(bp c.tk).length=M.length then i5 r.mo x.n (M ++ [x.nm]) else r.mo }:=by
  show ({ r with tc:=dw r.tc x.nm x.pt,mo:=if oa x=true/\w.ones=(met w r).length then (match w.num with
   | none=>r.mo
   | some n=>i5 r.mo n (met w r ++ [x.nm])) else r.mo }:Rc)=_
  rw [wn,wo,me]
 rw [eg]
 have on:bp (c.tk ++ [x])=if oa x=true then bp c.tk ++ [x.nm] else bp c.tk:=mH _ _
 by_cases up:oa x=true/\(bp c.tk).length=M.length
 ·rw [if_pos up]
  rw [if_pos up.1] at on b7
  have oc:bp c.tk=M:=pc.eq_of_length up.2
  rw [if_neg (by rw [up.2]; exact Nat.lt_irrefl _)] at b7
  have b7:(r.gc x.n).isSome=false:=b7
  have ngc:r.gc x.n=none:=by
   cases z:r.gc x.n with
   | none=>rfl
   | some m=>rw [show (r.gc x.n).isSome=true by rw [z]; rfl] at b7; cases b7
  have mo':∀ n',(i5 r.mo x.n (M ++ [x.nm]) n').getD []=if n'=x.n then M ++ [x.nm] else (r.mo n').getD []:=fun n'=>by
   unfold i5
   split <;> rfl
  refine ⟨tl,tc,fun d hd=>?_,fun n'=>?_,fun d hd g=>?_,fun n' m e=>?_⟩
  ·show bp d.tk <+: (i5 r.mo x.n (M ++ [x.nm]) d.n).getD []
   rw [mo']
   rcases (nw d).mp hd with z | z
   ·have p:=R.m1 d ((od d).mpr (.inl z))
    split
    ·rename_i e
     rw [e,hM] at p
     exact p.trans (List.prefix_append _ _)
    ·exact p
   ·rw [z]
    show bp (c.tk ++ [x]) <+: if c.n=x.n then _ else _
    rw [if_pos en,on,oc]
    exact List.prefix_refl _
  ·show (i5 r.mo x.n (M ++ [x.nm]) n').getD []=[]∨∃ d:Sd,d∈D ++ (iX s (.T x y)).all/\d.n=n'/\bp d.tk=(i5 r.mo x.n (M ++ [x.nm]) n').getD []
   rw [mo']
   by_cases e:n'=x.n
   ·refine .inr ⟨_,cn,en.trans e.symm,?_⟩
    rw [if_pos e]
    show bp (c.tk ++ [x])=_
    rw [on,oc]
   ·rw [if_neg e]
    rcases R.m2 n' with z | ⟨d,hd,a,q⟩
    ·exact .inl z
    ·rcases (od d).mp hd with z | z
     ·exact .inr ⟨d,(nw d).mpr (.inl z),a,q⟩
     ·rw [z,en] at a; exact absurd a.symm e
  ·show ∃ m,r.gc d.n=some m/\fz m (a9 d.tk)=true/\bp d.tk=(i5 r.mo x.n (M ++ [x.nm]) d.n).getD []
   rcases (nw d).mp hd with z | z
   ·obtain ⟨m,a,q1,q2⟩:=R.g1 d ((od d).mpr (.inl z)) g
    rw [mo']
    by_cases e:d.n=x.n
    ·rw [e,ngc] at a; cases a
    ·rw [if_neg e]; exact ⟨m,a,q1,q2⟩
   ·rw [z] at g
    rw [show c.go=true from g] at ng
    cases ng
  ·obtain ⟨d,hd,a,g,q⟩:=R.g2 n' m e
   rcases (od d).mp hd with z | z
   ·exact ⟨d,(nw d).mpr (.inl z),a,g,q⟩
   ·rw [z,ng] at g; cases g
 ·rw [if_neg up]
  have pc':bp (c.tk ++ [x]) <+: M:=by
   rw [on]
   by_cases ix:oa x=true
   ·rw [if_pos ix] at b7 ⊢
    have ne:(bp c.tk).length≠M.length:=fun z=>up ⟨ix,z⟩
    have le:=pc.length_le
    have lt:(bp c.tk).length < M.length:=by omega
    rw [if_pos lt] at b7
    have at':M[(bp c.tk).length]?=some x.nm:=Classical.byContradiction fun z=>by rw [show decide (M[(bp c.tk).length]?≠some x.nm)=true from decide_eq_true z] at b7; cases b7
    obtain ⟨t,rfl⟩:=pc
    rw [List.getElem?_append_right (Nat.le_refl _),Nat.sub_self] at at'
    cases t with
    | nil=>cases at'
    | cons q t =>
     cases at'
     exact ⟨t,by rw [List.append_assoc]; rfl⟩
   ·rw [if_neg ix]; exact pc
  refine ⟨tl,tc,fun d hd=>?_,fun n'=>?_,fun d hd g=>?_,fun n' m e=>?_⟩
  ·rcases (nw d).mp hd with z | z
   ·exact R.m1 d ((od d).mpr (.inl z))
   ·rw [z]
    show bp (c.tk ++ [x]) <+: (r.mo c.n).getD []
    rw [en,hM]
    exact pc'
  ·show (r.mo n').getD []=[]∨∃ d:Sd,d∈D ++ (iX s (.T x y)).all/\d.n=n'/\bp d.tk=(r.mo n').getD []
   rcases R.m2 n' with z | ⟨d,hd,a,q⟩
   ·exact .inl z
   ·rcases (od d).mp hd with z | z
    ·exact .inr ⟨d,(nw d).mpr (.inl z),a,q⟩
    ·refine .inr ⟨_,cn,by rw [← a,z],?_⟩
     show bp (c.tk ++ [x])=_
     rw [z] at a q
     rw [← a,en,hM] at q ⊢
     by_cases ix:oa x=true
     ·exact absurd ⟨ix,by rw [q]⟩ up
     ·rw [on,if_neg ix]; exact q
  ·rcases (nw d).mp hd with z | z
   ·exact R.g1 d ((od d).mpr (.inl z)) g
   ·rw [z] at g
    rw [show c.go=true from g] at ng
    cases ng
  ·obtain ⟨d,hd,a,g,q⟩:=R.g2 n' m e
   rcases (od d).mp hd with z | z
   ·exact ⟨d,(nw d).mpr (.inl z),a,g,q⟩
   ·rw [z,ng] at g; cases g
theorem iG.O {w:Wk} {r:Rc} {s:Sn} {D:List Sd} {AE:List Ev} (R:iG r (D ++ s.all) AE) (n:Int):iG (qX w r (.O n)) (D ++ (iX s (.O n)).all) (AE ++ [.O n]):=by
 refine ⟨fun m u=>?_,fun nm p=>?_,R.m1,R.m2,R.g1,R.g2⟩
 ·show r.tl m=some u↔_
  rw [R.tl,List.mem_append,List.mem_singleton]
  exact ⟨.inl,fun z=>z.elim id fun z=>by cases z⟩
 ·show r.tc nm=some p↔_
  rw [R.tc]
  constructor
  ·rintro ⟨x,y,a,q⟩; exact ⟨x,y,List.mem_append_left _ a,q⟩
  ·rintro ⟨x,y,a,q⟩
   rcases List.mem_append.mp a with z | z
   ·exact ⟨x,y,z,q⟩
   ·cases List.mem_singleton.mp z
theorem mx.step {hand:Int} {w:Wk} {r:Rc} {s:Sn} (W:mx w s) {e:Ev} (h:bJ hand w r e=none):mx (GQ w e) (iX s e):=by
 have b1:=(iK h).1
 cases e with
 | L n t =>
  refine ⟨rfl,rfl,fun _=>⟨_,rfl⟩,fun d hd=>⟨_,rfl,?_⟩,fun c _ hc=>?_,fun c _ hc=>?_⟩
  ·rw [An W] at b1
   unfold pO at b1
   rw [Bool.or_eq_false_iff] at b1
   have key:∀ d∈s.all,d.n < n:=fun d hd=>by
    refine Int.not_le.mp fun le=>?_
    rw [List.any_eq_true.mpr ⟨d,hd,decide_eq_true le⟩] at b1
    cases b1.1
   have hd:d∈s.l ++ (s.c.map fun c=>(⟨c.n,c.tk,c.go || s.b⟩:Sd)).toList:=hd
   show d.n < n
   rcases List.mem_append.mp hd with z | z
   ·exact key d (by unfold Sn.all; exact List.mem_append_left _ z)
   ·cases hc:s.c with
    | none=>rw [hc] at z; cases z
    | some c =>
     rw [hc] at z
     have:d=⟨c.n,c.tk,c.go || s.b⟩:=by simpa using z
     rw [this]
     exact key c (by unfold Sn.all; rw [hc]; simp)
  ·cases hc
   exact ⟨rfl,rfl⟩
  ·cases hc; rfl
 | T x y =>
  obtain ⟨b,c,hc,en,wn⟩:=Ea W b1
  have es:(iX s (.T x y))=⟨s.l,some ⟨c.n,c.tk ++ [x],c.go⟩,s.b⟩:=by
   show (⟨s.l,s.c.map fun c=>⟨c.n,c.tk ++ [x],c.go⟩,s.b⟩:Sn)=_
   rw [hc]; rfl
  rw [es]
  obtain ⟨wc,wo⟩:=W.cs c b hc
  refine ⟨?_,?_,fun _=>⟨_,rfl⟩,fun d hd=>⟨_,rfl,?_⟩,fun c' _ hc'=>?_,fun c' _ hc'=>?_⟩
  ·show w.num=if s.b=true then some c.n else none
   rw [W.num,hc]; rfl
  ·show w.new=some c.n
   rw [W.new,hc]; rfl
  ·obtain ⟨c',h1,h2⟩:=W.inc d hd
   rw [hc] at h1
   cases h1
   exact h2
  ·cases hc'
   show fJ w.cs x.c x.k=a9 (c.tk ++ [x])/\(if oa x=true then w.ones + 1 else w.ones)=(bp (c.tk ++ [x])).length
   rw [pC,wc,mH,wo]
   refine ⟨rfl,?_⟩
   split
   ·rw [List.length_append]; rfl
   ·rfl
  ·cases hc'
   exact W.ng c b hc
 | O n=>exact ⟨rfl,W.new,(fun z=>by cases z),W.inc,(fun c z=>by cases z),(fun c z=>by cases z)⟩
end
end K81
namespace K81
open PySem L2
section
variable {P:Program} {w:World} {K:PySem.W.Frag} {mg:Str->Option Value} {base:Heap}
abbrev cC:=Int×List Ev
def dQ (hand:Int):Wk->Rc->List Ev->Nat->Option (Str×Nat)×Rc
 | _,r,[],_=>(none,r)
 | w,r,e :: es,i=>match bJ hand w r e with
  | some s=>(some (s,i),r)
  | none=>dQ hand (GQ w e) (qX w r e) es (i + 1)
def w0:Wk:=⟨none,none,[],0⟩
def r0:Rc:=⟨fun _=>none,fun _=>none,fun _=>none,fun _=>none⟩
def fy:Rc->List cC->Option (Str×Int×Nat)
 | _,[]=>none
 | r,t :: ts=>match dQ t.1 w0 r t.2 0 with
  | (some q,_)=>some (q.1,t.1,q.2)
  | (none,r')=>fy r' ts
def kK (hand:Int) (A:List Ev) (D:List Sd):List Ev->List Ev->Nat->Option (Str×Nat)
 | _,[],_=>none
 | mine,e :: es,i=>match tI hand (A ++ mine) (D ++ (sn mine).all) (sn mine) e with
  | some s=>some (s,i)
  | none=>kK hand A D (mine ++ [e]) es (i + 1)
def vI:List Ev->List Sd->List cC->Option (Str×Int×Nat)
 | _,_,[]=>none
 | A,D,t :: ts=>match kK t.1 A D [] t.2 0 with
  | some q=>some (q.1,t.1,q.2)
  | none=>vI (A ++ t.2) (D ++ (sn t.2).all) ts
def BD (D:List Sd):Prop:=∀ d∈D,∀ x∈d.tk,Wf x
theorem yW {D:List Sd} {s:Sn} {e:Ev} (w:BD (D ++ s.all)) (h:mK e):BD (D ++ (iX s e).all):=by
 intro d hd x hx
 rcases List.mem_append.mp hd with z | z
 ·exact w d (List.mem_append_left _ z) x hx
 have old:∀ d',d'∈s.all->∀ x∈d'.tk,Wf x:=fun d' h'=>w d' (List.mem_append_right _ h')
 cases e with
 | L n t =>
  have z:d∈(s.l ++ (s.c.map fun c=>(⟨c.n,c.tk,c.go || s.b⟩:Sd)).toList) ++ [⟨n,[],false⟩]:=z
  rcases List.mem_append.mp z with z | z
  ·rcases List.mem_append.mp z with z | z
   ·exact old d (by unfold Sn.all; exact List.mem_append_left _ z) x hx
   ·cases hc:s.c with
    | none=>rw [hc] at z; cases z
    | some c =>
     rw [hc] at z
     have:d=⟨c.n,c.tk,c.go || s.b⟩:=by simpa using z
     rw [this] at hx
     exact old c (by unfold Sn.all; rw [hc]; simp) x hx
  ·rw [List.mem_singleton.mp z] at hx; cases hx
 | T q y =>
  have z:d∈s.l ++ (s.c.map fun c=>(⟨c.n,c.tk ++ [q],c.go⟩:Sd)).toList:=z
  rcases List.mem_append.mp z with z | z
  ·exact old d (by unfold Sn.all; exact List.mem_append_left _ z) x hx
  ·cases hc:s.c with
   | none=>rw [hc] at z; cases z
   | some c =>
    rw [hc] at z
    have:d=⟨c.n,c.tk ++ [q],c.go⟩:=by simpa using z
    rw [this] at hx
    rcases List.mem_append.mp hx with y' | y'
    ·exact old c (by unfold Sn.all; rw [hc]; simp) x y'
    ·rw [List.mem_singleton.mp y']; exact h.1
 | O n=>exact old d z x hx
theorem iG.step {hand:Int} {w:Wk} {r:Rc} {s:Sn} {D:List Sd} {AE:List Ev} (R:iG r (D ++ s.all) AE) (W:mx w s) (wf:BD (D ++ s.all)) {e:Ev} (h:bJ hand w r e=none):iG (qX w r e) (D ++ (iX s e).all) (AE ++ [e]):=by
 cases e with
 | L n t=>exact R.L W wf h
 | T x y=>exact R.T W h
 | O n=>exact R.O n
theorem yL {hand:Int} {A:List Ev} {D:List Sd}:∀ {es mine:List Ev} {w:Wk} {r:Rc} {i:Nat},iG r (D ++ (sn mine).all) (A ++ mine)->mx w (sn mine)->BD (D ++ (sn mine).all)->(∀ e∈es,mK e) ->
  (dQ hand w r es i).1=kK hand A D mine es i/\((dQ hand w r es i).1=none->iG (dQ hand w r es i).2 (D ++ (sn (mine ++ es)).all) (A ++ (mine ++ es))/\BD (D ++ (sn (mine ++ es)).all))
 | [],mine,w,r,i,R,W,wf,_=>by
  rw [List.append_nil]
  exact ⟨rfl,fun _=>⟨R,wf⟩⟩
 | e :: es,mine,w,r,i,R,W,wf,we=>by
  have q:=DU (hand:=hand) R W (fun d hd=>List.mem_append_right _ hd) wf (we e List.mem_cons_self)
  unfold dQ kK
  rw [← q]
  cases z:bJ hand w r e with
  | some s=>exact ⟨rfl,fun h=>by cases h⟩
  | none =>
   have R2:=R.step W wf z
   have W2:=W.step z
   have wf2:=yW wf (we e List.mem_cons_self)
   rw [← za] at R2 W2 wf2
   rw [List.append_assoc] at R2
   have h:=yL (hand:=hand) (i:=i + 1) R2 W2 wf2 fun e' he'=>we e' (List.mem_cons_of_mem _ he')
   rw [List.append_assoc] at h
   exact h
theorem F0:mx w0 (sn []):=⟨rfl,rfl,(fun z=>by cases z),(fun _ z=>nomatch z),(fun _ z=>by cases z),(fun _ z=>by cases z)⟩
theorem GN:iG r0 [] []:=⟨fun n t=>⟨fun z=>(by cases z),fun z=>nomatch z⟩,fun nm p=>⟨fun z=>(by cases z),fun ⟨_,_,z,_⟩=>nomatch z⟩,(fun _ z=>nomatch z),fun n=>.inl rfl,(fun _ z=>nomatch z),(fun _ _ z=>by cases z)⟩
theorem BZ:∀ {ts:List cC} {A:List Ev} {D:List Sd} {r:Rc},iG r D A->BD D->(∀ t∈ts,∀ e∈t.2,mK e)->fy r ts=vI A D ts
 | [],_,_,_,_,_,_=>rfl
 | t :: ts,A,D,r,R,wf,we=>by
  have e0:(sn []).all=[]:=rfl
  obtain ⟨h1,h2⟩:=yL (hand:=t.1) (A:=A) (D:=D) (es:=t.2) (mine:=[]) (w:=w0) (r:=r) (i:=0) (by rw [e0,List.append_nil,List.append_nil]; exact R) F0 (by rw [e0,List.append_nil]; exact wf) (we t List.mem_cons_self)
  unfold fy vI
  rw [← h1]
  cases z:dQ t.1 w0 r t.2 0 with
  | mk a r' =>
   rw [z] at h2
   cases a with
   | some q=>rfl
   | none =>
    obtain ⟨R2,wf2⟩:=h2 rfl
    rw [List.nil_append] at R2 wf2
    exact BZ R2 wf2 fun t' ht'=>we t' (List.mem_cons_of_mem _ ht')
def lu (h:Int) (i:Nat):List cC->List cC
 | []=>[]
 | t :: ts=>if t.1=h then [(t.1,t.2.take i)] else t :: lu h i ts
theorem tK {hand:Int}:∀ {es:List Ev} {w:Wk} {r:Rc} {i:Nat} (k:Nat),(dQ hand w r es i).1=none->(dQ hand w r (es.take k) i).1=none
 | [],_,_,_,k,_=>by rw [List.take_nil]; rfl
 | e :: es,w,r,i,0,_=>rfl
 | e :: es,w,r,i,k + 1,h=>by
  rw [List.take_succ_cons]
  unfold dQ at h ⊢
  cases z:bJ hand w r e with
  | some s=>rw [z] at h; cases h
  | none=>rw [z] at h; exact tK k h
theorem tQ {hand:Int} {s:Str} {j:Nat}:∀ {es:List Ev} {w:Wk} {r:Rc} {i:Nat},(dQ hand w r es i).1=some (s,j)->i<=j/\(dQ hand w r (es.take (j - i)) i).1=none
 | [],_,_,_,h=>by cases h
 | e :: es,w,r,i,h=>by
  unfold dQ at h
  cases z:bJ hand w r e with
  | some s'=>rw [z] at h; cases h; rw [Nat.sub_self]; exact ⟨Nat.le_refl _,rfl⟩
  | none =>
   rw [z] at h
   obtain ⟨a,b⟩:=tQ (es:=es) h
   refine ⟨by omega,?_⟩
   rw [show j - i=(j - (i + 1)) + 1 by omega,List.take_succ_cons]
   unfold dQ
   rw [z]
   exact b
theorem vZ {s:Str} {h:Int} {i:Nat}:∀ {ts:List cC} {r:Rc},fy r ts=some (s,h,i)->fy r (lu h i ts)=none
 | [],_,e=>by cases e
 | t :: ts,r,e=>by
  have key:∀ es:List Ev,(dQ t.1 w0 r es 0).1=none->fy r [(t.1,es)]=none:=fun es q=>by
   unfold fy
   cases z:dQ t.1 w0 r es 0 with
   | mk a r'=>rw [z] at q; cases q; rfl
  unfold fy at e
  unfold lu
  cases z:dQ t.1 w0 r t.2 0 with
  | mk a r' =>
   rw [z] at e
   cases a with
   | some q =>
    cases e
    rw [if_pos rfl]
    exact key _ (tQ (s:=q.1) (i:=0) (by rw [z])).2
   | none =>
    split
    ·exact key _ (tK i (by rw [z]))
    ·unfold fy
     rw [z]
     exact vZ e
end
end K81
namespace K81
open PySem L2
abbrev lW:Stmt:=i7 1
abbrev i0:Stmt:=i7 2
abbrev rE:Stmt:=i7 3
abbrev mz:Stmt:=i7 4
abbrev qV:Stmt:=i7 6
abbrev AM:Stmt:=i7 7
abbrev fm:Stmt:=iS (i7 9) 0
abbrev gQ:Stmt:=iS (i7 10) 0
section
variable {P:Program} {w:World} {K:PySem.W.Frag} {mg:Str->Option Value} {base:Heap}
def ka (K:PySem.W.Frag):Sp:=fun vs H Q _=>∃ (d:Addr) (m:List (Int×Int)) (h:Int),vs=[.ref d,.int h]/\Rd H d (.dK (dI m))/\Q (.int (ct m h)) H
theorem vG:aW ["counts","hand"] ["counts","hand"] (aF lW):=⟨rfl,rfl,rfl,by decide +kernel,rfl,by decide +kernel,by decide +kernel⟩
theorem wJ {f :Addr} {fd :FuncData} (F:cM K "count_of" "count_of" lW f fd):aT P w K mg base cy 1 f fd ["counts","hand"] (ka K):=by
 refine F.ok vG (fun vs H Q E h=>?_) (fun cdv A outer s H vs Q E hr h=>?_)
 ·obtain ⟨d,m,h,rfl,_⟩:=h
  rfl
 obtain ⟨d,m,h,rfl,h⟩:=h
 have hu64:=hr.units
 have hu0:=hr.units0
 have hu:=bS hr
 refine ⟨_,(ai (aK (ij hu (pv 0) (pv 1) aa ⟨rfl,rfl,rfl,rfl⟩))),?_⟩
 obtain ⟨hd,k⟩:=h
 refine ⟨_,rfl,d,rfl,.inl ⟨_,hd⟩,_,rfl,_,.inl ⟨_,Sum.inl h,hd,rfl,rfl⟩,?_⟩
 show Q ((cD (dI m) (Sum.inl h:cU)).getD (.int 0)) H
 rw [DF]
 exact k
def kj (K:PySem.W.Frag):Sp:=fun vs H Q _=>∃ (a:Addr) (xs:List V) (ms:List (List (Int×Int))),vs=[.ref a]/\bb K H a xs/\G9 H xs ms/\(∀ m∈ms,Ck m)/\ms.length<=10 /\
 ∀ (H':Hp) (l:Addr) (S:List Int),aE H H'->H' l=some (.lst (S.map V.int))->S.Nodup->(∀ k,k∈S↔∃ m∈ms,k∈m.map (·.1))->Q (.ref l) H'
theorem iy:aW ["some","hands","counts"] ["some"] (aF i0):=⟨rfl,rfl,rfl,by decide +kernel,rfl,by decide +kernel,by decide +kernel⟩
theorem sj {f :Addr} {fd :FuncData} (F:cM K "hands_among" "hands_among" i0 f fd) (mw:mg "list"=none) (HH:mg "set"=none) (rL:mg "sorted"=none):aT P w K mg base cy 1 f fd ["some"] (kj K):=by
 refine F.ok iy (fun vs H Q E h=>?_) (fun cdv A outer s H vs Q E hr h=>?_)
 ·obtain ⟨a,xs,ms,rfl,_⟩:=h
  rfl
 obtain ⟨a,xs,ms,rfl,h⟩:=h
 have hu64:=hr.units
 have hu0:=hr.units0
 have hu:=bS hr
 refine ⟨_,(af (aC (i:=1) iy.nd rfl (Or.inl rfl) (bX aj))
   (af (cA PassesOwn.never rfl (bz (K:=K) rfl (pv 0)) (aB (i:=2) iy.nd rfl (Or.inl rfl))
   (ai (bU (eG PySem.F.plainAttrs_list PySem.F.slot_list_extend PySem.F.type_list_extend Ad (pv 1) (ae (e8 (yq rfl) (by rfl) mw PyProof.Rows.boot_list (ae (pv 2) aj)) aj)))))
   (ai (aK (bj (uG rfl) (by rfl) rL PyProof.Rows.boot_sorted (ae (e8 (zA rfl) (by rfl) HH (show bootBuiltins "set"=some (.type "set") by decide +kernel) (ae (pv 1) aj)) aj)))))),?_⟩
 obtain ⟨hS,dc,ck,l10,k⟩:=h
 refine ⟨Nat.zero_le _,fun hl hhl=>?_⟩
 have lx:xs.length=ms.length:=Paired.length dc
 refine ⟨_,rfl,a,rfl,⟨_,(aN hhl).seq hS⟩,bZ (K:=K) (a:=a) (xs:=xs) (fun i σ H'=>∃ v ns,σ=[some (.ref a),some (.ref hl),v]/\aE H H'/\H' hl=some (.lst (ns.map V.int))/\ns.length<=63 * i/\∀ k,k∈ns↔∃ m∈ms.take i,k∈m.map (·.1))
  ⟨none,[],rfl,aN hhl,au,Nat.zero_le _,fun k=>by simp⟩ (fun i σ H' _ ⟨_,_,_,sm,_⟩=>sm.seq hS) ?_ ?_⟩
 ·rintro i x σ H' hx ⟨v,ns,rfl,sm,hH,hlen,hm⟩
  obtain ⟨m,hmi,d,rfl,hd⟩:=G9.get dc hx
  have hi:=(List.getElem?_eq_some_iff.mp hmi).1
  have cm:=ck m (List.mem_of_getElem? hmi)
  have lm:=cm.len
  refine ⟨_,rfl,.inl ⟨rfl,_,bb.of hH⟩,_,rfl,d,m,rfl,nU sm hd,by omega,fun l hl2=>?_⟩
  have nl:hl≠l:=aI hH hl2
  refine ⟨hl,l,_,_,rfl,rfl,by rw [aG nl]; exact hH,au,?_,some (.ref d),ns ++ m.map (·.1),rfl,fun b o e=>?_,?_,?_,fun k=>?_⟩
  ·rw [List.length_map,List.length_map,List.length_map]
   exact Nat.le_of_lt (aD (by omega))
  ·rw [aG (aI e hhl),aG (aI (sm b o e) hl2)]
   exact sm b o e
  ·rw [au,List.map_append]
  ·rw [List.length_append,List.length_map]
   omega
  ·rw [bx hmi,List.mem_append,hm k]
   constructor
   ·rintro (⟨m',q1,q2⟩ | q)
    ·exact ⟨m',List.mem_append_left _ q1,q2⟩
    ·exact ⟨m,List.mem_append_right _ (by simp),q⟩
   ·rintro ⟨m',q1,q2⟩
    rcases List.mem_append.mp q1 with z | z
    ·exact .inl ⟨m',z,q2⟩
    ·rw [List.mem_singleton.mp z] at q2
     exact .inr q2
 rintro σ H' ⟨v,ns,rfl,sm,hH,hlen,hm⟩
 rw [lx,List.take_length] at hm
 refine ⟨_,rfl,hl,ns,rfl,bb.of hH,by omega,fun q ks hq nd mem=>?_⟩
 have rg:∀ k∈ks,0<=k/\k < 63:=fun k hk=>by
  obtain ⟨m,h1,h2⟩:=(hm k).mp ((mem k).mp hk)
  exact (ck m h1).keys k h2
 refine ⟨q,ks,rfl,au,nd,xE nd rg,fun l S hl3 pm so=>?_⟩
 refine k _ l S (sm.trans ((aN hq).trans (aN hl3))) au (pm.nodup_iff.mpr nd) fun j=>?_
 rw [pm.mem_iff,mem j,hm j]
def tX (K:PySem.W.Frag):Sp:=fun vs H Q _=>∃ (d e:Addr) (m n:List (Int×Int)),vs=[.ref d,.ref e]/\Rd H d (.dK (dI m))/\Rd H e (.dK (dI n))/\Ck m/\Ck n/\∀ H',aE H H'->Q (.bl (Eg m n)) H'
theorem zN:aW ["one","other"] ["one","other"] (aF rE):=⟨rfl,rfl,rfl,by decide +kernel,rfl,by decide +kernel,by decide +kernel⟩
theorem zJ {f ik lQ:Addr} {fd gC j6:FuncData} (F:cM K "covers" "covers" rE f fd)
  (jB:aT P w K mg base cy 1 ik gC ["counts","hand"] (ka K)) (jA:dP K mg "count_of" ik gC ["counts","hand"])
  (sJ:aT P w K mg base cy 1 lQ j6 ["some"] (kj K)) (sP:dP K mg "hands_among" lQ j6 ["some"]) (Iu:mg "all"=none):aT P w K mg base cy 2 f fd ["one","other"] (tX K):=by
 refine F.ok zN (fun vs H Q E h=>?_) (fun cdv A outer s H vs Q E hr h=>?_)
 ·obtain ⟨d,e,m,n,rfl,_⟩:=h
  rfl
 obtain ⟨d,e,m,n,rfl,h⟩:=h
 have hu64:=hr.units
 have hu0:=hr.units0
 have hu:=bS hr
 refine ⟨_,(ai (aK (bj (By rfl) (by rfl) Iu PyProof.Rows.boot_all (ae (gX ["one","other","hand"] [some 0,some 1,none] rfl rfl (by kernel_rfl) (bz (K:=K) rfl (bI sJ sP hr (ae (bX (ae (pv 0) (ae (pv 1) aj))) aj))) (fun _ _ _ _ _ nd=>aB (i:=2) nd rfl (Or.inl rfl)) (fun _ _ _ _ _=>kU) (fun _ _ _ _ _=>(bL Ce (bI jB jA hr (ae (pv 0) (ae (pv 2) aj))) (bI jB jA hr (ae (pv 1) (ae (pv 2) aj))) (ax _)))) aj)))),?_⟩
 obtain ⟨hd,he,cm,cn,k⟩:=h
 refine ⟨_,rfl,_,rfl,by show 2<=sizeLine; decide,fun l0 hl0=>?_⟩
 have s0:=aN (o:=.lst [V.ref d,.ref e]) hl0
 refine ⟨l0,_,[m,n],rfl,bb.of au,.cons ⟨d,rfl,nU s0 hd⟩ (.cons ⟨e,rfl,nU s0 he⟩ .nil),fun x hx=>?_,by show 2<=10; decide,fun H1 l S sm hl nd mem=>?_⟩
 ·rcases List.mem_cons.mp hx with z | z
  ·rw [z]; exact cm
  ·rw [List.mem_singleton.mp z]; exact cn
 have s1:=s0.trans sm
 have rg:∀ j∈S,0<=j/\j < 63:=fun j hj=>by
  rcases two.mp ((mem j).mp hj) with z | z
  ·exact cm.keys j z
  ·exact cn.keys j z
 have lS:=xE nd rg
 refine ⟨l,rfl,⟨_,bb.of hl⟩,fun D hD=>?_⟩
 refine dH (K:=K) (a:=l) (xs:=S.map V.int) (fun i σ H'=>∃ v,σ=[some (.ref d),some (.ref e),v]/\aE H1 H'/\H' D=some (.lst (((S.take i).map fun j=>decide (ct n j<=ct m j)).map V.bl))) ⟨none,rfl,aN hD,au⟩ ?_ ?_ ?_
 ·rintro i σ H' _ ⟨_,_,q,_⟩
  exact bb.of (q _ _ hl)
 ·rintro i x σ H' hx ⟨v,rfl,q,hDx⟩
  obtain ⟨j,hj,rfl⟩:=uM hx
  have hil:=(List.getElem?_eq_some_iff.mp hj).1
  have s2:=s1.trans q
  refine F4 ⟨_,rfl,_,rfl,d,m,j,rfl,nU s2 hd,_,rfl,_,rfl,e,n,j,rfl,nU s2 he,_,_,rfl,rfl,_,hDx,?_,some (.int j),rfl,fun b o z=>?_,?_⟩
  ·rw [List.length_map,List.length_map,List.length_take]
   exact aD (by omega)
  ·rw [aG (aI z hD)]
   exact q b o z
  ·rw [au,bx hj,List.map_append,List.map_append]
   rfl
 rintro σ H' ⟨v,rfl,q,hDx⟩
 rw [show S.take (S.map V.int).length=S by rw [List.length_map,List.take_length]] at hDx
 refine ⟨D,_,rfl,bb.of hDx,?_⟩
 have ev:((S.map fun j=>decide (ct n j<=ct m j)).all fun b=>b)=Eg m n:=by
  rw [Bool.eq_iff_iff,t7 cm cn,List.all_eq_true]
  constructor
  ·intro h j
   by_cases hj:j∈S
   ·exact of_decide_eq_true (h _ (List.mem_map_of_mem (f:=fun j=>decide (ct n j<=ct m j)) hj))
   ·rw [yy (fun z=>hj ((mem j).mpr (two.mpr (.inr z))))]
    exact cm.ct j
  ·intro h b hb
   obtain ⟨j,_,rfl⟩:=List.mem_map.mp hb
   exact decide_eq_true (h j)
 rw [ev]
 exact k _ (s1.trans q)
def pA (K:PySem.W.Frag):Sp:=fun vs H Q _=>∃ (a:Addr) (xs:List V) (ps:List (Int×Int)),vs=[.ref a]/\(bb K H a xs∨aZ K H a xs)/\kW H xs ps/\ps.length<=1000/\(ps.map (·.1)).Nodup /\
 ∀ (H':Hp) (d:Addr),aE H H'->H d=none->H' d=some (.dK (dI (iF ps)))->Q (.ref d) H'
theorem wN:aW ["pairs"] ["pairs"] (aF mz):=⟨rfl,rfl,rfl,by decide +kernel,rfl,by decide +kernel,by decide +kernel⟩
theorem vJ {f :Addr} {fd :FuncData} (F:cM K "unpacked" "unpacked" mz f fd) (FL:mg "dict"=none):aT P w K mg base cy 1 f fd ["pairs"] (pA K):=by
 refine F.ok wN (fun vs H Q E h=>?_) (fun cdv A outer s H vs Q E hr h=>?_)
 ·obtain ⟨a,xs,ps,rfl,_⟩:=h
  rfl
 obtain ⟨a,xs,ps,rfl,h⟩:=h
 have hu64:=hr.units
 have hu0:=hr.units0
 have hu:=bS hr
 refine ⟨_,(ai (aK (e8 (xN rfl) (by rfl) FL PyProof.Rows.boot_dict (ae (gX ["hand","count"] [none,none] rfl rfl (by kernel_rfl) (CK (K:=K) rfl (pv 0)) (fun _ _ _ _ _ nd=>cY (K:=K) (n:=2) rfl rfl (aS (aB (i:=0) nd rfl (Or.inl rfl)) (aS (aB (i:=1) nd rfl (Or.inl rfl)) cX))) (fun _ _ _ _ _=>(iO (aA xm (pv 1) aa (ax _)))) (fun _ _ _ _ _=>(cc (ae (pv 0) (ae (pv 1) aj))))) aj)))),?_⟩
 obtain ⟨hS,hp,hlen,nd,k⟩:=h
 have lx:=hp.len
 -- one turn
 have turn:∀ (D:Addr) (_:H D=none) (i:Nat) (x:V) (σ:St) (H':Hp),xs[i]?=some x->(∃ v v2 ys,σ=[v,v2]/\aE H H'/\H' D=some (.lst ys)/\ys.length<=i/\kW H' ys (iF (ps.take i))) ->
   jc (Ca K 2 (zp (pf 0) (zp (pf 1) Fs))) (Bs (GS (zM fun i j=>.bl (decide (j < i))) (zG 1) (tC (.int 0)))) (Fp (yV (zG 0) (yV (zG 1) BR))) D
    (fun σ H'=>∃ v v2 ys,σ=[v,v2]/\aE H H'/\H' D=some (.lst ys)/\ys.length<=i + 1/\kW H' ys (iF (ps.take (i + 1)))) x σ H':=by
  rintro D hD i x σ H' hx ⟨v,v2,ys,rfl,sm,hDx,ly,pr⟩
  obtain ⟨p,hpi,b,rfl,hb⟩:=hp.get hx
  have hil:=(List.getElem?_eq_some_iff.mp hpi).1
  refine ⟨b,_,rfl,aZ.of (sm _ _ hb),rfl,_,_,rfl,_,_,rfl,rfl,_,rfl,_,_,rfl,rfl,_,rfl,dN (fun h=>?_) fun h=>?_⟩
  ·have h':0 < p.2:=of_decide_eq_true h
   refine ⟨_,rfl,_,rfl,by show 2<=sizeLine; decide,fun q hq=>?_⟩
   have nDq:D≠q:=aI hDx hq
   refine ⟨ys,by rw [aG nDq]; exact hDx,aD (by omega),some (.int p.1),some (.int p.2),_,rfl,fun b o e=>?_,au,by rw [List.length_append]; exact Nat.succ_le_succ ly,?_⟩
   ·rw [aG (aI e hD),aG (aI (sm b o e) hq)]
    exact sm b o e
   ·rw [bx hpi,DZ h']
    refine kW.snoc (pr.mono fun a ys e=>?_) ⟨q,rfl,?_⟩
    ·rw [aG (bK e hDx (by intro z; cases z)),aG (aI e hq)]
     exact e
    ·rw [aG (Ne.symm nDq),au]
  ·have h':¬ 0 < p.2:=fun z=>h (decide_eq_true z)
   refine ⟨some (.int p.1),some (.int p.2),ys,rfl,sm,hDx,Nat.le_succ_of_le ly,?_⟩
   rw [bx hpi,Ga h']
   exact pr
 have fin:∀ (D:Addr) (_:H D=none) (σ:St) (H':Hp),(∃ v v2 ys,σ=[v,v2]/\aE H H'/\H' D=some (.lst ys)/\ys.length<=xs.length/\kW H' ys (iF (ps.take xs.length))) ->
   ∃ (a:Addr) (ys:List V) (qs:List (Int×Int)),[V.ref D]=[.ref a]/\H' a=some (.lst ys)/\kW H' ys qs/\(qs.map (·.1)).Nodup/\qs.length<=1000/\∀ p,H' p=none->Q (.ref p) (upd H' p (.dK (dI qs))):=by
  rintro D hD σ H' ⟨v,v2,ys,rfl,sm,hDx,ly,pr⟩
  rw [lx,List.take_length] at pr
  refine ⟨D,ys,iF ps,rfl,hDx,pr,EW nd,Nat.le_trans (CV ps) hlen,fun p hp'=>?_⟩
  exact k _ p (sm.trans (aN hp')) (sm.free hp') au
 rcases hS with hS | hS
 ·refine ⟨_,rfl,a,rfl,.inl ⟨⟨_,hS⟩,fun D hD=>?_⟩⟩
  exact dH (K:=K) (a:=a) (xs:=xs) (fun i σ H'=>∃ v v2 ys,σ=[v,v2]/\aE H H'/\H' D=some (.lst ys)/\ys.length<=i/\kW H' ys (iF (ps.take i))) ⟨none,none,[],rfl,aN hD,au,Nat.le_refl _,.nil⟩
   (fun i σ H' _ ⟨_,_,_,_,sm,_⟩=>sm.seq hS) (turn D hD) (fin D hD)
 ·refine ⟨_,rfl,a,rfl,.inr ⟨⟨_,hS⟩,fun D hD=>?_⟩⟩
  exact vA (K:=K) (a:=a) (xs:=xs) (fun i σ H'=>∃ v v2 ys,σ=[v,v2]/\aE H H'/\H' D=some (.lst ys)/\ys.length<=i/\kW H' ys (iF (ps.take i))) ⟨none,none,[],rfl,aN hD,au,Nat.le_refl _,.nil⟩
   (fun i σ H' _ ⟨_,_,_,_,sm,_⟩=>q9 sm hS) (turn D hD) (fin D hD)
def tY (K:PySem.W.Frag):Sp:=fun vs H Q _=>∃ h:Int,vs=[.int h]/\0<=h/\h<=1000/\Q (.int (2 ^ h.toNat)) H
def Aq (K:PySem.W.Frag):Sp:=fun vs H Q _=>∃ n h:Int,vs=[.int n,.int h]/\0<=n/\0<=h/\h<=1000/\Q (.bl (n.toNat.testBit h.toNat)) H
theorem zI:aW ["hand"] ["hand"] (aF qV):=⟨rfl,rfl,rfl,by decide +kernel,rfl,by decide +kernel,by decide +kernel⟩
theorem Ac {f :Addr} {fd :FuncData} (F:cM K "bit_of" "bit_of" qV f fd):aT P w K mg base cy 1 f fd ["hand"] (tY K):=by
 refine F.ok zI (fun vs H Q E h=>?_) (fun cdv A outer s H vs Q E hr h=>?_)
 ·obtain ⟨x,rfl,_⟩:=h
  rfl
 obtain ⟨x,rfl,h⟩:=h
 have hu64:=hr.units
 have hu0:=hr.units0
 have hu:=bS hr
 refine ⟨_,(ai (aK (qJ (aA Ce (pv 0) aa (ax _)) (aq uf aa (pv 0)) aa))),?_⟩
 obtain ⟨h0,h1,k⟩:=h
 refine ⟨_,rfl,_,_,rfl,rfl,_,rfl,?_⟩
 rw [decide_eq_true (show (0:Int)<=x from h0)]
 refine Fo ⟨_,rfl,_,_,rfl,rfl,⟨h0,by omega,by decide⟩,?_⟩
 show Q (.int (1 * 2 ^ x.toNat)) H
 rw [Int.one_mul]
 exact k
theorem Fu:aW ["hands","hand"] ["hands","hand"] (aF AM):=⟨rfl,rfl,rfl,by decide +kernel,rfl,by decide +kernel,by decide +kernel⟩
theorem EL {f wj:Addr} {fd tP:FuncData} (F:cM K "has" "has" AM f fd)
  (B8:aT P w K mg base cy 1 wj tP ["hand"] (tY K)) (Ar:dP K mg "bit_of" wj tP ["hand"]):aT P w K mg base cy 2 f fd ["hands","hand"] (Aq K):=by
 refine F.ok Fu (fun vs H Q E h=>?_) (fun cdv A outer s H vs Q E hr h=>?_)
 ·obtain ⟨n,x,rfl,_⟩:=h
  rfl
 obtain ⟨n,x,rfl,h⟩:=h
 have hu64:=hr.units
 have hu0:=hr.units0
 have hu:=bS hr
 refine ⟨_,(ai (aK (bL i6 (aq iY (pv 0) (bI B8 Ar hr (ae (pv 1) aj))) aa (ax _)))),?_⟩
 obtain ⟨hn,h0,h1,k⟩:=h
 refine ⟨_,rfl,_,rfl,x,rfl,h0,h1,_,_,rfl,rfl,rfl,?_⟩
 show Q (.bl (!decide (V.int (Builtin.bitAnd n (2 ^ x.toNat))=V.int 0))) H
 rw [Al hn h0]
 exact k
def nO:Option Int->V
 | none=>.non
 | some n=>.int n
def pP (H:Hp) (v:V) (s:sL):Prop:=∃ t,v=.ref t/\H t=some (.tup [.int s.1,.int s.2.1,.int s.2.2])
def Cu (H:Hp) (v:V) (cs:List (Int×Int)):Prop:=∃ t xs,v=.ref t/\H t=some (.tup xs)/\kW H xs cs
def xw (H:Hp) (v:V) (p:zF):Prop:=∃ t cv,v=.ref t/\H t=some (.tup [.str p.1,.int p.2.1,cv])/\Cu H cv p.2.2/\(PyData.str p.1).canLay0=true
def Gx (H:Hp) (v:V) (l:List sL):Prop:=∃ a xs,v=.ref a/\H a=some (.lst xs)/\Paired (pP H) xs l
def hJ (H:Hp) (v:V):Ev->Prop
 | .L n s=>∃ t,v=.ref t/\H t=some (.tup [.str "list",.int n,.int s.1,.int s.2.1,.int s.2.2])/\0<=s.1/\0<=s.2.1/\0<=s.2.2
 | .T x why=>∃ t nv cv,v=.ref t/\H t=some (.tup [.str "take",nv,.str x.kd,.int x.wd,cv,.str why])/\pP H nv x.nm/\Cu H cv x.cs/\(x.cs.map (·.1)).Nodup/\x.cs.length<=100/\Ck (iF x.cs)/\(0<=x.c/\x.c < 63)/\0<=x.k/\(PyData.str x.kd).canLay0=true
 | .O n=>∃ t,v=.ref t/\H t=some (.tup [.str "out",.int n])
theorem pP.up {H H':Hp} (s:eW H H') {v:V} {p:sL} (h:pP H v p):pP H' v p:=by
 obtain ⟨t,e1,e2⟩:=h
 exact ⟨t,e1,s _ _ e2⟩
theorem Cu.up {H H':Hp} (s:eW H H') {v:V} {p:List (Int×Int)} (h:Cu H v p):Cu H' v p:=by
 obtain ⟨t,xs,e1,e2,e3⟩:=h
 exact ⟨t,xs,e1,s _ _ e2,e3.mono s⟩
theorem xw.up {H H':Hp} (s:eW H H') {v:V} {p:zF} (h:xw H v p):xw H' v p:=by
 obtain ⟨t,cv,e1,e2,e3,e4⟩:=h
 exact ⟨t,cv,e1,s _ _ e2,e3.up s,e4⟩
theorem hJ.up {H H':Hp} (s:eW H H') {v:V} {e:Ev} (h:hJ H v e):hJ H' v e:=by
 cases e with
 | L n q=>obtain ⟨t,e1,e2,e3⟩:=h; exact ⟨t,e1,s _ _ e2,e3⟩
 | T x why=>obtain ⟨t,nv,cv,e1,e2,e3,e4,e5⟩:=h; exact ⟨t,nv,cv,e1,s _ _ e2,e3.up s,e4.up s,e5⟩
 | O n=>obtain ⟨t,e1,e2⟩:=h; exact ⟨t,e1,s _ _ e2⟩
def RO {α β:Type} (R:α->β->Prop):Option α->Option β->Prop
 | none,none=>True
 | some a,some b=>R a b
 | _,_=>False
theorem RO.imp {α β:Type} {R S:α->β->Prop} (h:∀ a b,R a b->S a b):∀ {x:Option α} {y:Option β},RO R x y->RO S x y
 | none,none,_=>True.intro
 | some _,some _,q=>h _ _ q
 | none,some _,q=>q.elim
 | some _,none,q=>q.elim
theorem RO.no {α β:Type} {R:α->β->Prop} {x:Option α} (h:RO R x none):x=none:=by
 cases x with
 | none=>rfl
 | some a=>exact h.elim
theorem RO.yes {α β:Type} {R:α->β->Prop} {x:Option α} {b:β} (h:RO R x (some b)):∃ a,x=some a/\R a b:=by
 cases x with
 | none=>exact h.elim
 | some a=>exact ⟨a,rfl,h⟩
def k3 (p:sL):List cU:=[Sum.inl p.1,Sum.inl p.2.1,Sum.inl p.2.2]
structure RQ where
 d1:Addr
 d2:Addr
 d3:Addr
 d4:Addr
 m1:List (Int×V)
 m2:List (List cU×V)
 m3:List (Int×V)
 m4:List (Int×V)
def Jz (q:RQ) (H:Hp) (v:V) (m:List (Int×Int)):Prop:=∃ a,v=.ref a/\H a=some (.dK (dI m))/\a≠q.d1/\a≠q.d3/\a≠q.d4
structure fO (K:PySem.W.Frag) (mg:Str->Option Value) (H0 H:Hp) (rp:Addr) (r:Rc) (N:Nat) (q:RQ):Prop where
 ob:∃ C dx,mg "Record"=some (.ref C)/\H rp=some (.ins C dx (Er (.ref q.d1) (.ref q.d2) (.ref q.d3) (.ref q.d4)))
 e1:H q.d1=some (.dK (dG q.m1))
 e2:H q.d2=some (.dT q.m2)
 e3:H q.d3=some (.dK (dG q.m3))
 e4:H q.d4=some (.dK (dG q.m4))
 l1:q.m1.length<=N
 l2:q.m2.length<=N
 l3:q.m3.length<=N
 l4:q.m4.length<=N
 r1:∀ n,RO (pP H) (cD (dG q.m1) (Sum.inl n)) (r.tl n)
 r2:∀ p,RO (xw H) (cD q.m2 (k3 p)) (r.tc p)
 r3:∀ n,RO (fun v l=>Gx H v l/\l.length<=N) (cD (dG q.m3) (Sum.inl n)) (r.mo n)
 r4:∀ n,RO (Jz q H) (cD (dG q.m4) (Sum.inl n)) (r.gc n)
 f0:H0 rp=none
 f1:H0 q.d1=none
 f2:H0 q.d2=none
 f3:H0 q.d3=none
 f4:H0 q.d4=none
 n13:q.d1≠q.d3
 n14:q.d1≠q.d4
 n34:q.d3≠q.d4
 sm:aE H0 H
 nd1:(q.m1.map (·.1)).Nodup
 nd3:(q.m3.map (·.1)).Nodup
 nd4:(q.m4.map (·.1)).Nodup
structure qv (K:PySem.W.Frag) (mg:Str->Option Value) (H0 H:Hp) (wp rp:Addr) (hand:Int) (w:Wk) (q:RQ) (cd:Addr):Prop where
 ob:∃ C dx,mg "Walk"=some (.ref C)/\H wp=some (.ins C dx (pY (.int hand) (.ref rp) (nO w.num) (nO w.new) (.ref cd) (.int w.ones)))
 ec:H cd=some (.dK (dI w.cs))
 ck:Ck w.cs
 h0:0<=hand
 h1:hand < 63
 fw:H0 wp=none
 fc:H0 cd=none
 c1:cd≠q.d1
 c3:cd≠q.d3
 c4:cd≠q.d4
 cv:∀ n v,cD (dG q.m4) (Sum.inl n)=some v->v≠.ref cd
 nr:wp≠rp
theorem fO.same {H0 H H':Hp} {rp:Addr} {r:Rc} {N:Nat} {q:RQ} (h:fO K mg H0 H rp r N q) (s:aE H H'):fO K mg H0 H' rp r N q:=by
 obtain ⟨C,dx,o1,o2⟩:=h.ob
 exact ⟨⟨C,dx,o1,s _ _ o2⟩,s _ _ h.e1,s _ _ h.e2,s _ _ h.e3,s _ _ h.e4,h.l1,h.l2,h.l3,h.l4,fun n=>(h.r1 n).imp fun _ _ z=>z.up (.same s),fun n=>(h.r2 n).imp fun _ _ z=>z.up (.same s),
  fun n=>(h.r3 n).imp fun _ _ ⟨⟨a,xs,z1,z2,z3⟩,z4⟩=>⟨⟨a,xs,z1,s _ _ z2,Paired.mapP z3 fun _ _ y=>y.up (.same s)⟩,z4⟩,fun n=>(h.r4 n).imp fun _ _ ⟨a,z1,z2,z3⟩=>⟨a,z1,s _ _ z2,z3⟩,h.f0,h.f1,h.f2,h.f3,h.f4,h.n13,h.n14,h.n34,h.sm.trans s,h.nd1,h.nd3,h.nd4⟩
theorem qv.same {H0 H H':Hp} {wp rp cd:Addr} {hand:Int} {w:Wk} {q:RQ} (h:qv K mg H0 H wp rp hand w q cd) (s:aE H H'):qv K mg H0 H' wp rp hand w q cd:=by
 obtain ⟨C,dx,o1,o2⟩:=h.ob
 exact ⟨⟨C,dx,o1,s _ _ o2⟩,s _ _ h.ec,h.ck,h.h0,h.h1,h.fw,h.fc,h.c1,h.c3,h.c4,h.cv,h.nr⟩
def iC (K:PySem.W.Frag):Sp:=fun vs H Q _=>∃ (p:Addr),vs=[.ref p]/\∃ C dx,fN K C/\H p=some (.ins C dx [])/\∀ H' d1 d2 d3 d4,(∀ b o,H b=some o->b≠p->H' b=some o)->H d1=none->H d2=none->H d3=none->H d4=none->d1≠d3->d1≠d4->d3≠d4->H' d1=some (.dK [])->H' d2=some (.dT [])->H' d3=some (.dK [])->H' d4=some (.dK [])->H' p=some (.ins C dx (Er (.ref d1) (.ref d2) (.ref d3) (.ref d4)))->Q .non H'
theorem mq:aW ["self"] ["self"] (aF fm):=⟨rfl,rfl,rfl,by decide +kernel,rfl,by decide +kernel,by decide +kernel⟩
theorem l9 {f :Addr} {fd :FuncData} (F:cM K "__init__" "Record.__init__" fm f fd):aT P w K mg base cy 1 f fd ["self"] (iC K):=by
 refine F.ok mq (fun vs H Q E h=>?_) (fun cdv A outer s H vs Q E hr h=>?_)
 ·obtain ⟨p,rfl,_⟩:=h
  rfl
 obtain ⟨p,rfl,h⟩:=h
 have hu64:=hr.units
 have hu0:=hr.units0
 have hu:=bS hr
 refine ⟨_,(af (cZ (K:=K) rfl (pv 0) fi rfl)
   (af (cZ (K:=K) rfl (pv 0) Ay rfl)
   (af (cZ (K:=K) rfl (pv 0) fi rfl)
   (ai (cZ (K:=K) rfl (pv 0) fi rfl))))),?_⟩
 obtain ⟨C,dx,⟨cl,n1,n2,n3,n4⟩,hp,q⟩:=h
 clean_wf
 intro d1 H1 z1 s1 g1
 have hp1:=s1 _ _ hp
 clean_wf
 intro H2 b2 p2
 have n1p:d1≠p:=bK g1 hp1 (by intro z; cases z)
 have g1:=b2.at n1p g1
 clean_wf
 intro d2 z2
 have s3:=aN (o:=.dT []) z2
 have g2:(upd H2 d2 (.dT [])) d2=some (.dT []):=au
 generalize upd H2 d2 (.dT [])=H3 at s3 g2 ⊢
 have p3:=s3 _ _ p2
 clean_wf
 intro H4 b4 p4
 have n2p:d2≠p:=bK g2 p3 (by intro z; cases z)
 have g1:=b4.at n1p (s3 _ _ g1)
 have g2:=b4.at n2p g2
 clean_wf
 intro d3 H5 z3 s5 g3
 have p5:=s5 _ _ p4
 clean_wf
 intro H6 b6 p6
 have n3p:d3≠p:=bK g3 p5 (by intro z; cases z)
 have g1':=b6.at n1p (s5 _ _ g1)
 have g2:=b6.at n2p (s5 _ _ g2)
 have g3:=b6.at n3p g3
 clean_wf
 intro d4 H7 z4 s7 g4
 have p7:=s7 _ _ p6
 clean_wf
 intro H8 b8 p8
 have n4p:d4≠p:=bK g4 p7 (by intro z; cases z)
 rw [Cj] at p8
 clean_wf
 have bk:∀ {b:Addr} {o:HO},H b=some o->b≠p->H4 b=some o:=fun e n=>b4.at n (s3 _ _ (b2.at n (s1 _ _ e)))
 refine q H8 d1 d2 d3 d4 (fun b o e n=>b8.at n (s7 _ _ (b6.at n (s5 _ _ (bk e n))))) z1 ?_ ?_ ?_ ?_ ?_ ?_ (b8.at n1p (s7 _ _ g1')) (b8.at n2p (s7 _ _ g2)) (b8.at n3p (s7 _ _ g3)) (b8.at n4p g4) p8
 ·cases z:H d2 with
  | none=>rfl
  | some o=>rw [b2.at n2p (s1 _ _ z)] at z2; cases z2
 ·cases z:H d3 with
  | none=>rfl
  | some o=>rw [bk z n3p] at z3; cases z3
 ·cases z:H d4 with
  | none=>rfl
  | some o=>rw [b6.at n4p (s5 _ _ (bk z n4p))] at z4; cases z4
 ·intro z; rw [← z,g1] at z3; cases z3
 ·intro z; rw [← z,g1'] at z4; cases z4
 ·intro z; rw [← z,g3] at z4; cases z4
def jk (K:PySem.W.Frag):Sp:=fun vs H Q _=>∃ (p:Addr) (h:Int) (r:Addr),vs=[.ref p,.int h,.ref r]/\∃ C dx,gS K C/\H p=some (.ins C dx [])/\∀ H' d,(∀ b o,H b=some o->b≠p->H' b=some o)->H d=none->H' d=some (.dK [])->H' p=some (.ins C dx (pY (.int h) (.ref r) .non .non (.ref d) (.int 0)))->Q .non H'
theorem oQ:aW ["self","hand","record"] ["self","hand","record"] (aF gQ):=⟨rfl,rfl,rfl,by decide +kernel,rfl,by decide +kernel,by decide +kernel⟩
theorem oM {f :Addr} {fd :FuncData} (F:cM K "__init__" "Walk.__init__" gQ f fd):aT P w K mg base cy 1 f fd ["self","hand","record"] (jk K):=by
 refine F.ok oQ (fun vs H Q E h=>?_) (fun cdv A outer s H vs Q E hr h=>?_)
 ·obtain ⟨p,h',r,rfl,_⟩:=h
  rfl
 obtain ⟨p,h',r,rfl,h⟩:=h
 have hu64:=hr.units
 have hu0:=hr.units0
 have hu:=bS hr
 refine ⟨_,(af (cZ (K:=K) rfl (pv 0) (pv 1) rfl)
   (af (cZ (K:=K) rfl (pv 0) (pv 2) rfl)
   (af (cZ (K:=K) rfl (pv 0) dy rfl)
   (af (cZ (K:=K) rfl (pv 0) dy rfl)
   (af (cZ (K:=K) rfl (pv 0) fi rfl)
   (ai (cZ (K:=K) rfl (pv 0) aa rfl))))))),?_⟩
 obtain ⟨C,dx,⟨cl,n1,n2,n3,n4,n5,n6⟩,hp,q⟩:=h
 clean_wf
 intro H1 b1 g1
 clean_wf
 intro H2 b2 g2
 clean_wf
 intro H3 b3 g3
 clean_wf
 intro H4 b4 g4
 clean_wf
 intro d H6 hd6 s6 g6
 have g5':=s6 _ _ g4
 clean_wf
 intro H7 b7 g7
 clean_wf
 intro H8 b8 g8
 rw [Az] at g8
 have nd:d≠p:=fun z=>by rw [z,g4] at hd6; cases hd6
 refine q H8 d (fun b o e n=>b8.at n (b7.at n (s6 _ _ (b4.at n (b3.at n (b2.at n (b1.at n e))))))) ?_ (b8.at nd (b7.at nd g6)) g8
 cases z:H d with
 | none=>rfl
 | some o=>rw [b4.at nd (b3.at nd (b2.at nd (b1.at nd z)))] at hd6; cases hd6
end
end K81
namespace K81
open PySem L2
abbrev ig:Stmt:=iS (i7 10) 1
abbrev fE:Stmt:=iS (i7 10) 2
abbrev dO:Stmt:=iS (i7 10) 3
abbrev gR:Stmt:=i7 11
section
variable {P:Program} {w:World} {K:PySem.W.Frag} {mg:Str->Option Value} {base:Heap}
def eT (K:PySem.W.Frag) (mg:Str->Option Value):Sp:=fun vs H Q _=>∃ (p:Addr) (ev:V),vs=[.ref p,ev]/\∃ H0 rp hand w q cd e,qv K mg H0 H p rp hand w q cd/\hJ H ev e/\Q (.bl (iw w e)) H
theorem pN:aW ["self","event"] ["self","event"] (aF ig):=⟨rfl,rfl,rfl,by decide +kernel,rfl,by decide +kernel,by decide +kernel⟩
theorem qe {f  aL:Addr} {fd :FuncData} (F:cM K "goes_on" "Walk.goes_on" ig f fd) (aY:gS K aL) (aX:mg "Walk"=some (.ref aL)):aT P w K mg base cy 1 f fd ["self","event"] (eT K mg):=by
 refine F.ok pN (fun vs H Q E h=>?_) (fun cdv A outer s H vs Q E hr h=>?_)
 ·obtain ⟨p,ev,rfl,_⟩:=h
  rfl
 obtain ⟨p,ev,rfl,h⟩:=h
 have hu64:=hr.units
 have hu0:=hr.units0
 have hu:=bS hr
 refine ⟨_,(ai (aK (iB (bL bw (aw (ao (K:=K) rfl) (pv 1) aa (fun _ _=>rfl)) aP (ax _)) (fL (bL kX (aU (K:=K) rfl (pv 0) rfl) dy (ax _)))))),?_⟩
 obtain ⟨H0,rp,hand,w',q,cd,e,W,he,kk⟩:=h
 obtain ⟨C,dx,eC,hp⟩:=W.ob
 rw [aX] at eC
 cases eC
 obtain ⟨cl,n1,n2,n3,n4,n5,n6⟩:=id aY
 cases e with
 | L n s' =>
  obtain ⟨t,rfl,ht,_⟩:=he
  have st:=aZ.of (K:=K) ht
  clean_wf
  rw [if_pos (decide_eq_true rfl)]
  unfold iw at kk
  cases z:w'.num with
  | none=>rw [z] at kk hp; clean_wf; exact kk
  | some v=>rw [z] at kk hp; clean_wf; exact kk
 | T x why =>
  obtain ⟨t,nv,cv,rfl,ht,_⟩:=he
  have st:=aZ.of (K:=K) ht
  clean_wf
  exact kk
 | O n =>
  obtain ⟨t,rfl,ht⟩:=he
  have st:=aZ.of (K:=K) ht
  clean_wf
  exact kk
def fj (K:PySem.W.Frag):Sp:=fun vs H Q _=>∃ (p ev:V),vs=[p,ev]/\∃ e,hJ H ev e/\Q (.bl (kE e)) H
theorem mM:aW ["self","event"] ["self","event"] (aF fE):=⟨rfl,rfl,rfl,by decide +kernel,rfl,by decide +kernel,by decide +kernel⟩
theorem m8 {f :Addr} {fd :FuncData} (F:cM K "takes_one" "Walk.takes_one" fE f fd):aT P w K mg base cy 1 f fd ["self","event"] (fj K):=by
 refine F.ok mM (fun vs H Q E h=>?_) (fun cdv A outer s H vs Q E hr h=>?_)
 ·obtain ⟨p,ev,rfl,_⟩:=h
  rfl
 obtain ⟨p,ev,rfl,h⟩:=h
 have hu64:=hr.units
 have hu0:=hr.units0
 have hu:=bS hr
 refine ⟨_,(ai (aK (iB (bL bw (aw (ao (K:=K) rfl) (pv 1) aa (fun _ _=>rfl)) aP (ax _)) (fL (bL bw (aw (ao (K:=K) rfl) (pv 1) aa (fun _ _=>rfl)) aP (ax _)))))),?_⟩
 obtain ⟨e,he,kk⟩:=h
 cases e with
 | L n s' =>
  obtain ⟨t,rfl,ht,_⟩:=he
  have st:=aZ.of (K:=K) ht
  clean_wf
  exact kk
 | T x why =>
  obtain ⟨t,nv,cv,rfl,ht,_⟩:=he
  have st:=aZ.of (K:=K) ht
  clean_wf
  rw [if_pos (decide_eq_true rfl)]
  clean_wf
  exact kk
 | O n =>
  obtain ⟨t,rfl,ht⟩:=he
  have st:=aZ.of (K:=K) ht
  clean_wf
  exact kk
def dC (K:PySem.W.Frag) (mg:Str->Option Value):Sp:=fun vs H Q _=>∃ (p:Addr),vs=[.ref p]/\∃ H0 rp hand w q cd r N,qv K mg H0 H p rp hand w q cd/\fO K mg H0 H rp r N q/\∀ H' v,aE H H'->Gx H' v (met w r)->(met w r).length<=N->Q v H'
theorem jF:aW ["self"] ["self"] (aF dO):=⟨rfl,rfl,rfl,by decide +kernel,rfl,by decide +kernel,by decide +kernel⟩
theorem jI {f  bg aL:Addr} {fd :FuncData} (F:cM K "ones_on_record" "Walk.ones_on_record" dO f fd) (bF:fN K bg) (aY:gS K aL) (bo:mg "Record"=some (.ref bg)) (aX:mg "Walk"=some (.ref aL)):aT P w K mg base cy 1 f fd ["self"] (dC K mg):=by
 refine F.ok jF (fun vs H Q E h=>?_) (fun cdv A outer s H vs Q E hr h=>?_)
 ·obtain ⟨p,rfl,_⟩:=h
  rfl
 obtain ⟨p,rfl,h⟩:=h
 have hu64:=hr.units
 have hu0:=hr.units0
 have hu:=bS hr
 refine ⟨_,(ai (aK (Bw hu (aU (K:=K) rfl (aU (K:=K) rfl (pv 0) rfl) rfl) (aU (K:=K) rfl (pv 0) rfl) (bX aj) ⟨rfl,rfl,rfl,rfl⟩))),?_⟩
 obtain ⟨H0,rp,hand,w',q,cd,r,N,W,R,kk⟩:=h
 obtain ⟨C,dx,eC,hp⟩:=W.ob
 rw [aX] at eC
 cases eC
 obtain ⟨C2,dx2,eC2,hrp⟩:=R.ob
 rw [bo] at eC2
 cases eC2
 obtain ⟨cl,n1,n2,n3,n4,n5,n6⟩:=id aY
 obtain ⟨cl',n1',n2',n3',n4'⟩:=id bF
 have e3:=R.e3
 unfold L2.DD L2.BJ
 clean_wf
 intro l H1 z1 s1 g1
 cases z:w'.num with
 | none =>
  have em:met w' r=[]:=by unfold met; rw [z]
  rw [em] at kk
  exact .inl ⟨rfl,⟨_,.inl (s1 _ _ e3)⟩,kk H1 (.ref l) s1 ⟨l,[],rfl,g1,.nil⟩ (Nat.zero_le _)⟩
 | some n =>
  have em:met w' r=(r.mo n).getD []:=by unfold met; rw [z]
  rw [em] at kk
  refine .inr ⟨_,.inl ⟨_,Sum.inl n,.inl (s1 _ _ e3),rfl,rfl⟩,?_⟩
  have hr3:=(R.same s1).r3 n
  cases y:r.mo n with
  | none =>
   rw [y] at kk hr3
   rw [hr3.no]
   exact kk H1 (.ref l) s1 ⟨l,[],rfl,g1,.nil⟩ (Nat.zero_le _)
  | some m =>
   rw [y] at kk hr3
   obtain ⟨v,ev,hm,hl⟩:=hr3.yes
   rw [ev]
   exact kk H1 v s1 hm hl
theorem hX:decide (V.non=V.non)=true:=rfl
theorem l8 (v:Int):decide (V.int v=V.non)=false:=decide_eq_false (by intro z; cases z)
theorem vx:decide (("take":Str)="list")=false:=by kernel_rfl
theorem vH:decide (("out":Str)="list")=false:=by kernel_rfl
theorem ur:decide (("out":Str)="take")=false:=by kernel_rfl
theorem DG:decide (("list":Str)="take")=false:=by kernel_rfl
def mf (K:PySem.W.Frag) (mg:Str->Option Value) (bf:Int->Wk->Rc->Ev->Bool):Sp:=fun vs H Q _=>∃ (p:Addr) (ev:V),vs=[.ref p,ev]/\∃ H0 rp hand w q cd r N e,fO K mg H0 H rp r N q/\qv K mg H0 H p rp hand w q cd/\hJ H ev e/\gY w e=false/\N<=500/\∀ H',aE H H'->Q (.bl (bf hand w r e)) H'
def d7 (K:PySem.W.Frag) (mg:Str->Option Value):Sp:=fun vs H Q _=>∃ (p:Addr) (ev:V),vs=[.ref p,ev]/\∃ H0 rp hand w q cd r N e,fO K mg H0 H rp r N q/\qv K mg H0 H p rp hand w q cd/\hJ H ev e/\∀ H',aE H H'->Q (.bl (gY w e)) H'
theorem fB:aW ["walk","event","falls","number"] ["walk","event"] (aF gR):=⟨rfl,rfl,rfl,by decide +kernel,rfl,by decide +kernel,by decide +kernel⟩
theorem oR {f  aL:Addr} {fd :FuncData} (F:cM K "breaks_number" "breaks_number" gR f fd) (aY:gS K aL) (aX:mg "Walk"=some (.ref aL)):aT P w K mg base cy 1 f fd ["walk","event"] (d7 K mg):=by
 refine F.ok fB (fun vs H Q E h=>?_) (fun cdv A outer s H vs Q E hr h=>?_)
 ·obtain ⟨p,ev,rfl,_⟩:=h
  rfl
 obtain ⟨p,ev,rfl,h⟩:=h
 have hu64:=hr.units
 have hu0:=hr.units0
 have hu:=bS hr
 refine ⟨_,(af (a8 (aA bw (aw (ao (K:=K) rfl) (pv 1) aa (fun _ _=>rfl)) aP (ax _)) (af (aC (i:=2) fB.nd rfl (Or.inl rfl) (iB (bL kX (aU (K:=K) rfl (pv 0) rfl) dy (ax _)) (fL (bL Ez (aw (ao (K:=K) rfl) (pv 1) aa (fun _ _=>rfl)) (aU (K:=K) rfl (pv 0) rfl) (ax _)))))
   (ai (aK (Cn (pv 2) (fL (iB (bL kX (aU (K:=K) rfl (pv 0) rfl) dy (ax _)) (fL (bL i6 (aw (ao (K:=K) rfl) (pv 1) aa (fun _ _=>rfl)) (aq bu (aU (K:=K) rfl (pv 0) rfl) aa) (ax _))))))))) aJ)
   (af (aC (i:=3) fB.nd rfl (Or.inl rfl) (qJ (aA bw (aw (ao (K:=K) rfl) (pv 1) aa (fun _ _=>rfl)) aP (ax _)) (aw (ao (K:=K) rfl) (aw (ao (K:=K) rfl) (pv 1) aa (fun _ _=>rfl)) aa (fun _ _=>rfl)) (aw (ao (K:=K) rfl) (pv 1) aa (fun _ _=>rfl))))
   (ai (aK (Cn (bL yG (aU (K:=K) rfl (pv 0) rfl) dy (ax _)) (fL (bL i6 (pv 3) (aU (K:=K) rfl (pv 0) rfl) (ax _)))))))),?_⟩
 obtain ⟨H0,rp,hand,w',q,cd,r,N,e,R,W,he,kk⟩:=h
 obtain ⟨C,dx,eC,hp⟩:=W.ob
 rw [aX] at eC
 cases eC
 obtain ⟨cl,n1,n2,n3,n4,n5,n6⟩:=id aY
 have kk:∀ b,b=gY w' e->Q (.bl b) H:=fun b h=>h ▸ kk H (.refl _)
 cases e with
 | L n s' =>
  obtain ⟨t,rfl,ht,_⟩:=he
  have st:=aZ.of (K:=K) ht
  refine cK ?_
  clean_wf
  rw [if_pos (decide_eq_true rfl)]
  cases z1:w'.new with
  | none =>
   cases z2:w'.num with
   | none =>
    simp only [z1,z2,nO] at hp
    clean_wf
    rw [hX]
    clean_wf
    rw [hX]
    clean_wf
    exact kk _ (by simp [gY,z1,z2])
   | some v2 =>
    simp only [z1,z2,nO] at hp
    clean_wf
    rw [hX]
    clean_wf
    rw [l8]
    clean_wf
    exact kk _ (by simp [gY,z1,z2])
  | some v1 =>
   cases z2:w'.num with
   | none =>
    simp only [z1,z2,nO] at hp
    clean_wf
    rw [l8]
    clean_wf
    by_cases b1:n<=v1
    ·rw [decide_eq_true b1]
     clean_wf
     exact kk _ (by simp [gY,z1,z2,b1])
    ·rw [decide_eq_false b1]
     clean_wf
     rw [hX]
     clean_wf
     exact kk _ (by simp [gY,z1,z2,b1])
   | some v2 =>
    simp only [z1,z2,nO] at hp
    clean_wf
    rw [l8]
    clean_wf
    by_cases b1:n<=v1
    ·rw [decide_eq_true b1]
     clean_wf
     exact kk _ (by simp [gY,z1,z2,b1])
    ·rw [decide_eq_false b1]
     clean_wf
     rw [l8]
     clean_wf
     exact kk _ (by simp [gY,z1,z2,b1])
 | T x why =>
  obtain ⟨t,nv,cv,rfl,ht,hn,_⟩:=he
  obtain ⟨u,rfl,hu'⟩:=hn
  have st:=aZ.of (K:=K) ht
  have su:=aZ.of (K:=K) hu'
  cases z2:w'.num with
  | none =>
   simp only [z2,nO] at hp
   refine cK ?_
   clean_wf
   rw [vx]
   clean_wf
   rw [decide_eq_true rfl]
   clean_wf
   rw [hX]
   clean_wf
   exact kk _ (by simp [gY,z2])
  | some v2 =>
   simp only [z2,nO] at hp
   refine cK ?_
   clean_wf
   rw [vx]
   clean_wf
   rw [decide_eq_true rfl]
   clean_wf
   rw [l8]
   clean_wf
   exact kk _ (by simp [gY,z2,j2.nm]; exact decide_eq_decide.mpr Iff.rfl)
 | O n =>
  obtain ⟨t,rfl,ht⟩:=he
  have st:=aZ.of (K:=K) ht
  cases z2:w'.num with
  | none =>
   simp only [z2,nO] at hp
   refine cK ?_
   clean_wf
   rw [vH]
   clean_wf
   rw [ur]
   clean_wf
   rw [hX]
   clean_wf
   exact kk _ (by simp [gY,z2])
  | some v2 =>
   simp only [z2,nO] at hp
   refine cK ?_
   clean_wf
   rw [vH]
   clean_wf
   rw [ur]
   clean_wf
   rw [l8]
   clean_wf
   exact kk _ (by simp [gY,z2])
end
end K81
namespace K81
open PySem L2
abbrev iu:Stmt:=i7 12
abbrev jw:Stmt:=i7 13
abbrev gP:Stmt:=i7 14
section
variable {P:Program} {w:World} {K:PySem.W.Frag} {mg:Str->Option Value} {base:Heap}
def eV (K:PySem.W.Frag) (mg:Str->Option Value):Sp:=mf K mg fun h w _ e=>fM h w e
theorem jW:aW ["walk","event","came_among"] ["walk","event"] (aF iu):=⟨rfl,rfl,rfl,by decide +kernel,rfl,by decide +kernel,by decide +kernel⟩
theorem pJ {f Eo cf aL:Addr} {fd B9 bW:FuncData} (F:cM K "breaks_hands" "breaks_hands" iu f fd)
  (Ed:aT P w K mg base cy 2 Eo B9 ["hands","hand"] (Aq K)) (Ey:dP K mg "has" Eo B9 ["hands","hand"])
  (dX:aT P w K mg base cy 2 cf bW ["self","event"] (eT K mg)) (d6:Binds K bW ["self","event"] []) (aY:gS K aL) (aX:mg "Walk"=some (.ref aL)) (bP:jC K aL "goes_on" cf):aT P w K mg base cy 3 f fd ["walk","event"] (eV K mg):=by
 refine F.ok jW (fun vs H Q E h=>?_) (fun cdv A outer s H vs Q E hr h=>?_)
 ·obtain ⟨p,ev,rfl,_⟩:=h
  rfl
 obtain ⟨p,ev,rfl,h⟩:=h
 have hu64:=hr.units
 have hu0:=hr.units0
 have hu:=bS hr
 refine ⟨_,(af (a8 (aA i6 (aw (ao (K:=K) rfl) (pv 1) aa (fun _ _=>rfl)) aP (ax _)) (ai (aK oX)) aJ)
   (af (aC (i:=2) jW.nd rfl (Or.inl rfl) (qJ (gi K rfl (gI (mY.cons aY.cl bP dX d6 mY.nil) (pv 0) hr (ae (pv 1) aj))) (aw (ao (K:=K) rfl) (pv 1) aa (fun _ _=>rfl)) (aw (ao (K:=K) rfl) (pv 1) aa (fun _ _=>rfl))))
   (ai (aK (Cn (yB (bI Ed Ey hr (ae (aw (ao (K:=K) rfl) (pv 1) aa (fun _ _=>rfl)) (ae (aU (K:=K) rfl (pv 0) rfl) aj)))) (fL (yB (bI Ed Ey hr (ae (pv 2) (ae (aU (K:=K) rfl (pv 0) rfl) aj)))))))))),?_⟩
 obtain ⟨H0,rp,hand,w',q,cd,r,N,e,R,W,he,nb,_,kk⟩:=h
 obtain ⟨C,dx,eC,hp⟩:=W.ob
 rw [aX] at eC
 cases eC
 obtain ⟨cl,n1,n2,n3,n4,n5,n6⟩:=id aY
 have h0:=W.h0
 have h1:=W.h1
 cases e with
 | L n s' =>
  have kk:∀ b,b=fM hand w' (.L n s')->Q (.bl b) H:=fun b h=>h ▸ kk H (.refl _)
  obtain ⟨t,rfl,ht,p1,p2,p3⟩:=id he
  have st:=aZ.of (K:=K) ht
  refine cK ?_
  clean_wf
  rw [decide_eq_true (rfl:("list":Str)="list")]
  clean_wf
  refine ⟨p,_,rfl,H0,rp,hand,w',q,cd,_,W,he,?_⟩
  have eg:iw w' (.L n s')=w'.num.isSome:=rfl
  rw [eg]
  have e1:jx s'.1 hand=s'.1.toNat.testBit hand.toNat:=rfl
  have e2:jx s'.2.1 hand=s'.2.1.toNat.testBit hand.toNat:=rfl
  have e3:jx s'.2.2 hand=s'.2.2.toNat.testBit hand.toNat:=rfl
  clean_wf
  refine dN (fun c=>?_) fun c=>?_
  ·clean_wf
   refine ⟨_,hand,rfl,p1,h0,by omega,?_⟩
   cases y1:s'.1.toNat.testBit hand.toNat with
   | false =>
    clean_wf
    exact kk _ (by simp [fM,e1,y1])
   | true =>
    clean_wf
    refine ⟨_,hand,rfl,p2,h0,by omega,?_⟩
    exact ⟨_,rfl,kk _ (by simp [fM,e1,y1,e2,c])⟩
  ·clean_wf
   refine ⟨_,hand,rfl,p1,h0,by omega,?_⟩
   cases y1:s'.1.toNat.testBit hand.toNat with
   | false =>
    clean_wf
    exact kk _ (by simp [fM,e1,y1])
   | true =>
    clean_wf
    refine ⟨_,hand,rfl,p3,h0,by omega,?_⟩
    exact ⟨_,rfl,kk _ (by simp [fM,e1,y1,e3,c])⟩
 | T x why =>
  obtain ⟨t,nv,cv,rfl,ht,_⟩:=he
  have st:=aZ.of (K:=K) ht
  refine cK ?_
  clean_wf
  rw [vx]
  clean_wf
  exact kk H (.refl _)
 | O n =>
  obtain ⟨t,rfl,ht⟩:=he
  have st:=aZ.of (K:=K) ht
  refine cK ?_
  clean_wf
  rw [vH]
  clean_wf
  exact kk H (.refl _)
def fT (K:PySem.W.Frag) (mg:Str->Option Value):Sp:=mf K mg fun _ w _ e=>sW w e
theorem sO:aW ["walk","event"] ["walk","event"] (aF jw):=⟨rfl,rfl,rfl,by decide +kernel,rfl,by decide +kernel,by decide +kernel⟩
theorem sS {f ik aL:Addr} {fd gC:FuncData} (F:cM K "breaks_row" "breaks_row" jw f fd)
  (jB:aT P w K mg base cy 1 ik gC ["counts","hand"] (ka K)) (jA:dP K mg "count_of" ik gC ["counts","hand"]) (aY:gS K aL) (aX:mg "Walk"=some (.ref aL)):aT P w K mg base cy 2 f fd ["walk","event"] (fT K mg):=by
 refine F.ok sO (fun vs H Q E h=>?_) (fun cdv A outer s H vs Q E hr h=>?_)
 ·obtain ⟨p,ev,rfl,_⟩:=h
  rfl
 obtain ⟨p,ev,rfl,h⟩:=h
 have hu64:=hr.units
 have hu0:=hr.units0
 have hu:=bS hr
 refine ⟨_,(ai (aK (iB (bL bw (aw (ao (K:=K) rfl) (pv 1) aa (fun _ _=>rfl)) aP (ax _)) (fL (bL i6 (aw (ao (K:=K) rfl) (aw (ao (K:=K) rfl) (pv 1) aa (fun _ _=>rfl)) aa (fun _ _=>rfl)) (aq bu (bI jB jA hr (ae (aU (K:=K) rfl (pv 0) rfl) (ae (aw (ao (K:=K) rfl) (aw (ao (K:=K) rfl) (pv 1) aa (fun _ _=>rfl)) aa (fun _ _=>rfl)) aj))) aa) (ax _)))))),?_⟩
 obtain ⟨H0,rp,hand,w',q,cd,r,N,e,R,W,he,nb,_,kk⟩:=h
 obtain ⟨C,dx,eC,hp⟩:=W.ob
 rw [aX] at eC
 cases eC
 obtain ⟨cl,n1,n2,n3,n4,n5,n6⟩:=id aY
 have ec:=W.ec
 cases e with
 | L n s' =>
  obtain ⟨t,rfl,ht,_⟩:=he
  have st:=aZ.of (K:=K) ht
  clean_wf
  exact kk H (.refl _)
 | T x why =>
  obtain ⟨t,nv,cv,rfl,ht,⟨u,rfl,hu'⟩,_⟩:=he
  have st:=aZ.of (K:=K) ht
  have su:=aZ.of (K:=K) hu'
  clean_wf
  rw [if_pos (decide_eq_true rfl)]
  clean_wf
  refine ⟨cd,w'.cs,x.c,rfl,.inl ec,?_⟩
  clean_wf
  have e:(!decide (x.nm.2.2=ct w'.cs x.c + 1))=sW w' (.T x why):=by simp [sW,j2.nm]; exact decide_eq_decide.mpr Iff.rfl
  rw [e]
  exact kk H (.refl _)
 | O n =>
  obtain ⟨t,rfl,ht⟩:=he
  have st:=aZ.of (K:=K) ht
  clean_wf
  exact kk H (.refl _)
def d9 (K:PySem.W.Frag) (mg:Str->Option Value):Sp:=mf K mg fun _ w _ e=>qW w e
theorem oC:aW ["walk","event"] ["walk","event"] (aF gP):=⟨rfl,rfl,rfl,by decide +kernel,rfl,by decide +kernel,by decide +kernel⟩
theorem ou {f vz qR aL:Addr} {fd tG pd:FuncData} (F:cM K "breaks_causes" "breaks_causes" gP f fd)
  (Au:aT P w K mg base cy 2 vz tG ["one","other"] (tX K)) (AA:dP K mg "covers" vz tG ["one","other"])
  (xH:aT P w K mg base cy 2 qR pd ["pairs"] (pA K)) (yj:dP K mg "unpacked" qR pd ["pairs"]) (aY:gS K aL) (aX:mg "Walk"=some (.ref aL)):aT P w K mg base cy 3 f fd ["walk","event"] (d9 K mg):=by
 refine F.ok oC (fun vs H Q E h=>?_) (fun cdv A outer s H vs Q E hr h=>?_)
 ·obtain ⟨p,ev,rfl,_⟩:=h
  rfl
 obtain ⟨p,ev,rfl,h⟩:=h
 have hu64:=hr.units
 have hu0:=hr.units0
 have hu:=bS hr
 refine ⟨_,(ai (aK (iB (bL bw (aw (ao (K:=K) rfl) (pv 1) aa (fun _ _=>rfl)) aP (ax _)) (iB (bL i6 (aw (ao (K:=K) rfl) (pv 1) aa (fun _ _=>rfl)) aP (ax _)) (fL (yB (bI Au AA hr (ae (aU (K:=K) rfl (pv 0) rfl) (ae (bI xH yj hr (ae (aw (ao (K:=K) rfl) (pv 1) aa (fun _ _=>rfl)) aj)) aj))))))))),?_⟩
 obtain ⟨H0,rp,hand,w',q,cd,r,N,e,R,W,he,nb,_,kk⟩:=h
 obtain ⟨C,dx,eC,hp⟩:=W.ob
 rw [aX] at eC
 cases eC
 obtain ⟨cl,n1,n2,n3,n4,n5,n6⟩:=id aY
 have ec:=W.ec
 cases e with
 | L n s' =>
  obtain ⟨t,rfl,ht,_⟩:=he
  have st:=aZ.of (K:=K) ht
  clean_wf
  exact kk H (.refl _)
 | T x why =>
  obtain ⟨t,nv,cv,rfl,ht,hn,⟨v,xs,rfl,hv,hps⟩,nd,ln,ckp,_⟩:=he
  have st:=aZ.of (K:=K) ht
  have kk:∀ b H',b=qW w' (.T x why)->aE H H'->Q (.bl b) H':=fun b H' h s=>h ▸ kk H' s
  clean_wf
  rw [if_pos (decide_eq_true rfl)]
  clean_wf
  by_cases kd:x.kd="own"
  ·rw [decide_eq_true kd]
   clean_wf
   exact kk _ H (by simp [qW,kd]) (.refl _)
  ·rw [decide_eq_false kd]
   clean_wf
   refine ⟨v,xs,x.cs,rfl,.inr (aZ.of hv),hps,by omega,nd,fun H1 d s1 hd g1=>?_⟩
   have ec1:=s1 _ _ ec
   clean_wf
   refine ⟨cd,d,w'.cs,iF x.cs,rfl,.inl ec1,.inl g1,W.ck,ckp,fun H2 s2=>?_⟩
   exact ⟨_,rfl,kk _ H2 (by simp [qW,kd]) (s1.trans s2)⟩
 | O n =>
  obtain ⟨t,rfl,ht⟩:=he
  have st:=aZ.of (K:=K) ht
  clean_wf
  exact kk H (.refl _)
end
end K81
namespace K81
open PySem L2
abbrev iD:Stmt:=i7 15
abbrev iq:Stmt:=i7 16
abbrev fx:Stmt:=i7 18
section
variable {P:Program} {w:World} {K:PySem.W.Frag} {mg:Str->Option Value} {base:Heap}
def BK (p:sL):PyData:=.tuple [.int p.1,.int p.2.1,.int p.2.2]
theorem pP.dl {H:Hp} {v:V} {p:sL} (h:pP H v p):Dl K H v (BK p):=by
 obtain ⟨t,rfl,e⟩:=h
 exact .inl (.tup (aZ.of e) (.cons (.int _) (.cons (.int _) (.cons (.int _) .nil))))
theorem uo (p:sL):(BK p).depth<=60:=by show 1<=60; decide
def Af (p:zF):PyData:=.tuple [.str p.1,.int p.2.1,.tuple (p.2.2.map pU)]
theorem xw.dl {H:Hp} {v:V} {p:zF} (h:xw H v p):Dl K H v (Af p):=by
 obtain ⟨t,cv,rfl,e,⟨u,xs,rfl,e2,e3⟩,_⟩:=h
 exact .inl (.tup (aZ.of e) (.cons (.str _) (.cons (.int _) (.cons (.tup (aZ.of e2) e3.dps) .nil))))
theorem Ak {H:Hp} {Q:VK} {a:Addr} {x1 x2 x3 x4 x5:V} (h:H a=some (.tup [x1,x2,x3,x4,x5])) (q:∀ p H',H p=none->aE H H'->H' p=some (.tup [x3,x4,x5])->Q (.ref p) H'):Ds K (.ref a) (some 2) (some 5) H Q :=
 ⟨a,_,rfl,aZ.of h,(by show ¬ ((2:Nat)=0/\(5:Nat)=5); decide),fun p hp=>q p _ hp (aN hp) au⟩
theorem vW {H:Hp} {Q:VK} {a:Addr} {x1 x2 x3 x4 x5 x6:V} (h:H a=some (.tup [x1,x2,x3,x4,x5,x6])) (q:∀ p H',H p=none->aE H H'->H' p=some (.tup [x3,x4,x5])->Q (.ref p) H'):Ds K (.ref a) (some 2) (some 5) H Q :=
 ⟨a,_,rfl,aZ.of h,(by show ¬ ((2:Nat)=0/\(5:Nat)=6); decide),fun p hp=>q p _ hp (aN hp) au⟩
theorem t8 (m t:sL):(BK m).eqv (BK t)=decide (m=t):=by
 obtain ⟨a,b,c⟩:=m
 obtain ⟨d,e,f⟩:=t
 show (a == d && (b == e && (c == f && true)))=_
 rw [Bool.eq_iff_iff,decide_eq_true_iff]
 simp
theorem zd {H:Hp} {v u:V} {Q:VK} {m t:sL} (h1:pP H v m) (h2:pP H u t) (q:Q (.bl (decide (m≠t))) H):DX K v u H Q:=by
 refine ⟨BK m,BK t,h1.dl,h2.dl,rfl,rfl,?_,?_⟩
 ·have:=uo m; omega
 ·rw [t8]
  have e:(!decide (m=t))=decide (m≠t):=by simp
  rw [e]
  exact q
theorem Dq (p q:Int×Int):(pU p).eqv (pU q)=decide (p=q):=by
 obtain ⟨a,b⟩:=p
 obtain ⟨c,d⟩:=q
 show (a == c && (b == d && true))=_
 rw [Bool.eq_iff_iff,decide_eq_true_iff]
 simp
theorem ze:∀ ps qs:List (Int×Int),PyData.eqvAll (ps.map pU) (qs.map pU)=decide (ps=qs)
 | [],[]=>rfl
 | [],_ :: _=>rfl
 | _ :: _,[]=>rfl
 | p :: ps,q :: qs=>by
  show ((pU p).eqv (pU q) && PyData.eqvAll (ps.map pU) (qs.map pU))=_
  rw [Dq,ze ps qs,Bool.eq_iff_iff,Bool.and_eq_true,decide_eq_true_iff,decide_eq_true_iff,decide_eq_true_iff,List.cons.injEq]
def eU (K:PySem.W.Frag) (mg:Str->Option Value):Sp:=mf K mg fun _ _ r e=>qM r e
theorem qg:aW ["walk","event"] ["walk","event"] (aF iD):=⟨rfl,rfl,rfl,by decide +kernel,rfl,by decide +kernel,by decide +kernel⟩
theorem pQ {f  bg aL:Addr} {fd :FuncData} (F:cM K "breaks_lists" "breaks_lists" iD f fd) (bF:fN K bg) (aY:gS K aL) (bo:mg "Record"=some (.ref bg)) (aX:mg "Walk"=some (.ref aL)):aT P w K mg base cy 1 f fd ["walk","event"] (eU K mg):=by
 refine F.ok qg (fun vs H Q E h=>?_) (fun cdv A outer s H vs Q E hr h=>?_)
 ·obtain ⟨p,ev,rfl,_⟩:=h
  rfl
 obtain ⟨p,ev,rfl,h⟩:=h
 have hu64:=hr.units
 have hu0:=hr.units0
 have hu:=bS hr
 refine ⟨_,(ai (aK (iB (bL bw (aw (ao (K:=K) rfl) (pv 1) aa (fun _ _=>rfl)) aP (ax _)) (fL (bL (yz (K:=K) rfl hu64) (ij hu (aU (K:=K) rfl (aU (K:=K) rfl (pv 0) rfl) rfl) (aw (ao (K:=K) rfl) (pv 1) aa (fun _ _=>rfl)) (cq (iM (K:=K) rfl) (pv 1) (bG aa) (bG aa)) ⟨rfl,rfl,rfl,rfl⟩) (cq (iM (K:=K) rfl) (pv 1) (bG aa) (bG aa)) (ax _)))))),?_⟩
 obtain ⟨H0,rp,hand,w',q,cd,r,N,e,R,W,he,nb,_,kk⟩:=h
 obtain ⟨C,dx,eC,hp⟩:=W.ob
 rw [aX] at eC
 cases eC
 obtain ⟨C2,dx2,eC2,hrp⟩:=R.ob
 rw [bo] at eC2
 cases eC2
 obtain ⟨cl,n1,n2,n3,n4,n5,n6⟩:=id aY
 obtain ⟨cl',n1',n2',n3',n4'⟩:=id bF
 have e1:=R.e1
 cases e with
 | L n s' =>
  obtain ⟨t,rfl,ht,_⟩:=he
  have st:=aZ.of (K:=K) ht
  clean_wf
  rw [if_pos (decide_eq_true rfl)]
  clean_wf
  refine Ak ht fun t1 H1 z1 s1 g1=>?_
  have ht1:=s1 _ _ ht
  refine ⟨_,.inl ⟨_,Sum.inl n,.inl (s1 _ _ e1),rfl,rfl⟩,?_⟩
  have hv:∃ v m,(cD (dG q.m1) (Sum.inl n)).getD (.ref t1)=v/\pP H1 v m/\qM r (.L n s')=decide (m≠s'):=by
   have hr1:=(R.same s1).r1 n
   have eqn:qM r (.L n s')=(match r.tl n with
    | none=>false
    | some t=>decide (t≠s')):=rfl
   cases y:r.tl n with
   | none =>
    rw [y] at hr1
    rw [hr1.no]
    exact ⟨_,s',rfl,⟨t1,rfl,g1⟩,by rw [eqn,y]; simp⟩
   | some m =>
    rw [y] at hr1
    obtain ⟨v,ev,hm⟩:=hr1.yes
    rw [ev]
    exact ⟨v,m,rfl,hm,by rw [eqn,y]⟩
  obtain ⟨v,m,ev,hv,eb⟩:=hv
  have st1:=aZ.of (K:=K) ht1
  rw [show (cD (dG q.m1) (Sum.inl n)).getD (.ref t1)=v from ev]
  have kk:∀ H',aE H H'->Q (.bl (qM r (.L n s'))) H':=kk
  rw [eb] at kk
  clean_wf
  refine Ak ht1 fun t2 H2 z2 s2 g2=>?_
  exact zd (hv.up (.same s2)) ⟨t2,rfl,g2⟩ (kk H2 (s1.trans s2))
 | T x why =>
  obtain ⟨t,nv,cv,rfl,ht,_⟩:=he
  have st:=aZ.of (K:=K) ht
  clean_wf
  exact kk H (.refl _)
 | O n =>
  obtain ⟨t,rfl,ht⟩:=he
  have st:=aZ.of (K:=K) ht
  clean_wf
  exact kk H (.refl _)
theorem zj (p:zF):(Af p).depth<=60:=by
 have e:(Af p).depth=max 0 (max 0 (max (PyData.depthAll (p.2.2.map pU) + 1) 0)) + 1:=rfl
 rw [e]
 have:=uN p.2.2
 omega
theorem qm {p:zF} (h:(PyData.str p.1).canLay0=true):(Af p).canLay0=true:=by
 have e:PyData.canLayAll0 [.str p.1,.int p.2.1,.tuple (p.2.2.map pU)]=true:=by
  rw [PyData.canLayAll0.eq_2,PyData.canLayAll0.eq_2,PyData.canLayAll0.eq_2,h]
  have:(PyData.tuple (p.2.2.map pU)).canLay0=true:=by
   first | (rw [PyData.canLay0.eq_5]; exact ju _) | (rw [PyData.canLay0.eq_6]; exact ju _) | (rw [PyData.canLay0.eq_7]; exact ju _)
  rw [this]
  rfl
 unfold Af
 first | (rw [PyData.canLay0.eq_5]; exact e) | (rw [PyData.canLay0.eq_6]; exact e) | (rw [PyData.canLay0.eq_7]; exact e)
theorem zk (m t:zF):(Af m).eqv (Af t)=decide (m=t):=by
 obtain ⟨a,b,c⟩:=m
 obtain ⟨d,e,f⟩:=t
 show (a == d && (b == e && (PyData.eqvAll (c.map pU) (f.map pU) && true)))=_
 rw [ze,Bool.eq_iff_iff,decide_eq_true_iff]
 simp
theorem DE {H:Hp} {v u:V} {Q:VK} {m t:zF} (h1:xw H v m) (h2:xw H u t) (q:Q (.bl (decide (m≠t))) H):DX K v u H Q:=by
 have l1:(PyData.str m.1).canLay0=true:=by obtain ⟨_,_,_,_,_,l⟩:=h1; exact l
 have l2:(PyData.str t.1).canLay0=true:=by obtain ⟨_,_,_,_,_,l⟩:=h2; exact l
 refine ⟨Af m,Af t,h1.dl,h2.dl,qm l1,qm l2,?_,?_⟩
 ·have:=zj m; omega
 ·rw [zk]
  have e:(!decide (m=t))=decide (m≠t):=by simp
  rw [e]
  exact q
def eQ (K:PySem.W.Frag) (mg:Str->Option Value):Sp:=mf K mg fun _ _ r e=>qP r e
theorem qc:aW ["walk","event"] ["walk","event"] (aF iq):=⟨rfl,rfl,rfl,by decide +kernel,rfl,by decide +kernel,by decide +kernel⟩
theorem qd {f  bg aL:Addr} {fd :FuncData} (F:cM K "breaks_calls" "breaks_calls" iq f fd) (bF:fN K bg) (aY:gS K aL) (bo:mg "Record"=some (.ref bg)) (aX:mg "Walk"=some (.ref aL)):aT P w K mg base cy 1 f fd ["walk","event"] (eQ K mg):=by
 refine F.ok qc (fun vs H Q E h=>?_) (fun cdv A outer s H vs Q E hr h=>?_)
 ·obtain ⟨p,ev,rfl,_⟩:=h
  rfl
 obtain ⟨p,ev,rfl,h⟩:=h
 have hu64:=hr.units
 have hu0:=hr.units0
 have hu:=bS hr
 refine ⟨_,(ai (aK (iB (bL bw (aw (ao (K:=K) rfl) (pv 1) aa (fun _ _=>rfl)) aP (ax _)) (fL (bL (yz (K:=K) rfl hu64) (ij hu (aU (K:=K) rfl (aU (K:=K) rfl (pv 0) rfl) rfl) (aw (ao (K:=K) rfl) (pv 1) aa (fun _ _=>rfl)) (cq (iM (K:=K) rfl) (pv 1) (bG aa) (bG aa)) ⟨rfl,rfl,rfl,rfl⟩) (cq (iM (K:=K) rfl) (pv 1) (bG aa) (bG aa)) (ax _)))))),?_⟩
 obtain ⟨H0,rp,hand,w',q,cd,r,N,e,R,W,he,nb,_,kk⟩:=h
 obtain ⟨C,dx,eC,hp⟩:=W.ob
 rw [aX] at eC
 cases eC
 obtain ⟨C2,dx2,eC2,hrp⟩:=R.ob
 rw [bo] at eC2
 cases eC2
 obtain ⟨cl,n1,n2,n3,n4,n5,n6⟩:=id aY
 obtain ⟨cl',n1',n2',n3',n4'⟩:=id bF
 have e2:=R.e2
 cases e with
 | L n s' =>
  obtain ⟨t,rfl,ht,_⟩:=he
  have st:=aZ.of (K:=K) ht
  clean_wf
  exact kk H (.refl _)
 | T x why =>
  obtain ⟨t,nv,cv,rfl,ht,⟨u,rfl,hu'⟩,hcv,_,_,_,_,_,lay⟩:=he
  have st:=aZ.of (K:=K) ht
  clean_wf
  rw [if_pos (decide_eq_true rfl)]
  clean_wf
  refine ⟨q.d2,rfl,.inr ⟨_,.inl e2⟩,?_⟩
  clean_wf
  refine vW ht fun t1 H1 z1 s1 g1=>?_
  have ht1:=s1 _ _ ht
  refine ⟨_,.inr ⟨_,k3 x.nm,u,.inl (s1 _ _ e2),rfl,s1 _ _ hu',rfl⟩,?_⟩
  have hv:∃ v m,(cD q.m2 (k3 x.nm)).getD (.ref t1)=v/\xw H1 v m/\qP r (.T x why)=decide (m≠x.pt):=by
   have hr1:=(R.same s1).r2 x.nm
   have eqn:qP r (.T x why)=(match r.tc x.nm with
    | none=>false
    | some t=>decide (t≠x.pt)):=rfl
   cases y:r.tc x.nm with
   | none =>
    rw [y] at hr1
    rw [hr1.no]
    exact ⟨_,x.pt,rfl,⟨t1,cv,rfl,g1,hcv.up (.same s1),lay⟩,by rw [eqn,y]; simp⟩
   | some m =>
    rw [y] at hr1
    obtain ⟨v,ev,hm⟩:=hr1.yes
    rw [ev]
    exact ⟨v,m,rfl,hm,by rw [eqn,y]⟩
  obtain ⟨v,m,ev,hv,eb⟩:=hv
  have st1:=aZ.of (K:=K) ht1
  rw [show (cD q.m2 (k3 x.nm)).getD (.ref t1)=v from ev]
  have kk:∀ H',aE H H'->Q (.bl (qP r (.T x why))) H':=kk
  rw [eb] at kk
  clean_wf
  refine vW ht1 fun t2 H2 z2 s2 g2=>?_
  exact DE (t:=x.pt) (hv.up (.same s2)) ⟨t2,cv,rfl,g2,hcv.up (.same (s1.trans s2)),lay⟩ (kk H2 (s1.trans s2))
 | O n =>
  obtain ⟨t,rfl,ht⟩:=he
  have st:=aZ.of (K:=K) ht
  clean_wf
  exact kk H (.refl _)
def dD (K:PySem.W.Frag) (mg:Str->Option Value):Sp:=mf K mg fun _ w r e=>mD w r e
theorem mh:aW ["walk","event"] ["walk","event"] (aF fx):=⟨rfl,rfl,rfl,by decide +kernel,rfl,by decide +kernel,by decide +kernel⟩
theorem lY {f cf bg aL:Addr} {fd bW:FuncData} (F:cM K "breaks_together" "breaks_together" fx f fd)
  (dX:aT P w K mg base cy 1 cf bW ["self","event"] (eT K mg)) (d6:Binds K bW ["self","event"] []) (bF:fN K bg) (aY:gS K aL) (bo:mg "Record"=some (.ref bg)) (aX:mg "Walk"=some (.ref aL)) (bP:jC K aL "goes_on" cf):aT P w K mg base cy 2 f fd ["walk","event"] (dD K mg):=by
 refine F.ok mh (fun vs H Q E h=>?_) (fun cdv A outer s H vs Q E hr h=>?_)
 ·obtain ⟨p,ev,rfl,_⟩:=h
  rfl
 obtain ⟨p,ev,rfl,h⟩:=h
 have hu64:=hr.units
 have hu0:=hr.units0
 have hu:=bS hr
 refine ⟨_,(ai (aK (iB (gI (mY.cons aY.cl bP dX d6 mY.nil) (pv 0) hr (ae (pv 1) aj)) (fL (bL (AQ hu0) (ij hu (aU (K:=K) rfl (aU (K:=K) rfl (pv 0) rfl) rfl) (aU (K:=K) rfl (pv 0) rfl) (aU (K:=K) rfl (pv 0) rfl) ⟨rfl,rfl,rfl,rfl⟩) (aU (K:=K) rfl (pv 0) rfl) (ax _)))))),?_⟩
 obtain ⟨H0,rp,hand,w',q,cd,r,N,e,R,W,he,nb,_,kk⟩:=h
 obtain ⟨C,dx,eC,hp⟩:=W.ob
 rw [aX] at eC
 cases eC
 obtain ⟨C2,dx2,eC2,hrp⟩:=R.ob
 rw [bo] at eC2
 cases eC2
 obtain ⟨cl,n1,n2,n3,n4,n5,n6⟩:=id aY
 obtain ⟨cl',n1',n2',n3',n4'⟩:=id bF
 have e4:=R.e4
 have ec:=W.ec
 clean_wf
 refine ⟨p,_,rfl,H0,rp,hand,w',q,cd,_,W,he,?_⟩
 clean_wf
 have kk:∀ b,b=mD w' r e->Q (.bl b) H:=fun b h=>h ▸ kk H (.refl _)
 refine dN (fun c=>?_) fun c=>?_
 ·cases z:w'.num with
  | none=>exact absurd c (by cases e with | L n s'=>(show ¬ (w'.num.isSome=true); rw [z]; exact Bool.false_ne_true) | T x y=>(exact Bool.false_ne_true) | O n=>(exact Bool.false_ne_true))
  | some n =>
   simp only [z,nO] at hp
   clean_wf
   have hv:∃ a m,(cD (dG q.m4) (Sum.inl n)).getD (.ref cd)=.ref a/\H a=some (.dK (dI m))/\(!fz m w'.cs)=mD w' r e:=by
    have hr1:=R.r4 n
    unfold mD
    rw [c,Bool.true_and,z]
    cases y:r.gc n with
    | none =>
     rw [y] at hr1
     rw [hr1.no]
     refine ⟨cd,w'.cs,rfl,ec,?_⟩
     rw [(jd W.ck.nd W.ck.nd).mpr fun _=>rfl]
     show false=(match r.gc n with
      | none=>false
      | some m=>!fz m w'.cs)
     rw [y]
    | some m =>
     rw [y] at hr1
     obtain ⟨v,ev,a,rfl,ha,_⟩:=hr1.yes
     rw [ev]
     refine ⟨a,m,rfl,ha,?_⟩
     show _=(match r.gc n with
      | none=>false
      | some m=>!fz m w'.cs)
     rw [y]
   obtain ⟨a,m,ev,ha,sc⟩:=hv
   rw [jD] at ev
   exact ⟨a,cd,m,w'.cs,ev,rfl,.inl ha,.inl ec,kk _ sc⟩
 ·exact kk _ (by unfold mD; rw [Bool.eq_false_iff.mpr c]; rfl)
end
end K81
namespace K81
open PySem L2
abbrev jL:Stmt:=i7 17
section
variable {P:Program} {w:World} {K:PySem.W.Frag} {mg:Str->Option Value} {base:Heap}
theorem gZ {α β:Type} {R:α->β->Prop}:∀ {xs:List α} {ys:List β} {i:Nat} {y:β},Paired R xs ys->ys[i]?=some y->∃ x,xs[i]?=some x/\R x y
 | _,_,_,_,.nil,e=>by simp at e
 | _,_,0,_,.cons r _,e=>by simp at e; subst e; exact ⟨_,rfl,r⟩
 | _,_,i + 1,y,.cons _ t,e=>by
  obtain ⟨x,h1,h2⟩:=gZ (i:=i) t (by simpa using e)
  exact ⟨x,by simpa using h1,h2⟩
def fQ (K:PySem.W.Frag) (mg:Str->Option Value):Sp:=mf K mg fun _ w r e=>jy w r e
theorem lL:aW ["walk","event","met"] ["walk","event"] (aF jL):=⟨rfl,rfl,rfl,by decide +kernel,rfl,by decide +kernel,by decide +kernel⟩
theorem sQ {f cf da bY bg aL:Addr} {fd bW cS bV:FuncData} (F:cM K "breaks_one" "breaks_one" jL f fd)
  (dX:aT P w K mg base cy 1 cf bW ["self","event"] (eT K mg)) (d6:Binds K bW ["self","event"] [])
  (fA:aT P w K mg base cy 1 da cS ["self","event"] (fj K)) (fK:Binds K cS ["self","event"] [])
  (cI:aT P w K mg base cy 1 bY bV ["self"] (dC K mg)) (cJ:Binds K bV ["self"] []) (dE:mg "len"=none) (bF:fN K bg) (aY:gS K aL) (bo:mg "Record"=some (.ref bg)) (aX:mg "Walk"=some (.ref aL)) (bP:jC K aL "goes_on" cf) (bC:jC K aL "ones_on_record" bY) (cz:jC K aL "takes_one" da):aT P w K mg base cy 2 f fd ["walk","event"] (fQ K mg):=by
 refine F.ok lL (fun vs H Q E h=>?_) (fun cdv A outer s H vs Q E hr h=>?_)
 ·obtain ⟨p,ev,rfl,_⟩:=h
  rfl
 obtain ⟨p,ev,rfl,h⟩:=h
 have hu64:=hr.units
 have hu0:=hr.units0
 have hu:=bS hr
 refine ⟨_,(af (aC (i:=2) lL.nd rfl (Or.inl rfl) (oN (mY.cons aY.cl bC cI cJ mY.nil) (pv 0) hr))
   (af (a8 (gi K rfl (gI (mY.cons aY.cl bP dX d6 mY.nil) (pv 0) hr (ae (pv 1) aj))) (ai (aK (bL i6 (aU (K:=K) rfl (pv 0) rfl) (bj (bQ (K:=K) rfl) (by rfl) dE PySem.boot_len (ae (pv 2) aj)) (ax _)))) aJ)
   (af (a8 (sF (gi K rfl (gI (mY.cons aY.cl cz fA fK mY.nil) (pv 0) hr (ae (pv 1) aj)))) (ai (aK oX)) aJ)
   (af (a8 (aA y7 (aU (K:=K) rfl (pv 0) rfl) (bj (bQ (K:=K) rfl) (by rfl) dE PySem.boot_len (ae (pv 2) aj)) (ax _)) (ai (aK (bL (yz (K:=K) rfl hu64) (aw (aM (K:=K) rfl) (pv 2) (aU (K:=K) rfl (pv 0) rfl) (fun _ _=>rfl)) (aw (ao (K:=K) rfl) (pv 1) aa (fun _ _=>rfl)) (ax _)))) aJ)
   (ai (aK (ET (Gj hu (aU (K:=K) rfl (pv 0) rfl) (aU (K:=K) rfl (aU (K:=K) rfl (pv 0) rfl) rfl))))))))),?_⟩
 obtain ⟨H0,rp,hand,w',q,cd,r,N,e,R,W,he,nb,nN,kk⟩:=h
 obtain ⟨C0,dx0,eC0,hp0⟩:=W.ob
 rw [aX] at eC0
 cases eC0
 obtain ⟨cl,n1,n2,n3,n4,n5,n6⟩:=id aY
 clean_wf
 refine ⟨p,rfl,H0,rp,hand,w',q,cd,r,N,W,R,fun H1 v s1 hm hl=>?_⟩
 obtain ⟨a,xs,rfl,ha,hx⟩:=hm
 have lx:=Paired.length hx
 replace R:=R.same s1
 replace W:=W.same s1
 replace he:=he.up (.same s1)
 have kk:∀ b,b=jy w' r e->Q (.bl b) H1:=fun b h=>h ▸ kk H1 s1
 obtain ⟨C,dx,eC,hp⟩:=W.ob
 rw [aX] at eC
 cases eC
 obtain ⟨C2,dx2,eC2,hrp⟩:=R.ob
 rw [bo] at eC2
 cases eC2
 obtain ⟨cl',n1',n2',n3',n4'⟩:=id bF
 have sa:=bb.of (K:=K) ha
 refine cK ?_
 clean_wf
 refine ⟨p,_,rfl,H0,rp,hand,w',q,cd,_,W,he,?_⟩
 clean_wf
 refine dN (fun c=>?_) fun c=>?_
 ·clean_wf
  refine kk _ ?_
  unfold jy
  rw [if_pos c,Bool.eq_iff_iff,Bool.not_eq_true',decide_eq_true_iff,decide_eq_false_iff_not]
  constructor <;> (intro z; omega)
 refine cK ?_
 clean_wf
 refine ⟨_,_,rfl,_,he,?_⟩
 clean_wf
 have cn:=c
 cases e with
 | L n s' =>
  clean_wf
  exact kk _ (by unfold jy; rw [if_neg cn])
 | O n =>
  clean_wf
  exact kk _ (by unfold jy; rw [if_neg cn])
 | T x why =>
  have eb:jy w' r (.T x why)=(if oa x=true then (if w'.ones < (met w' r).length then decide ((met w' r)[w'.ones]?≠some x.nm) else match w'.num with
   | none=>false
   | some n=>(r.gc n).isSome) else false):=rfl
  obtain ⟨t,nv,cv,rfl,ht,hn,_⟩:=id he
  have st:=aZ.of (K:=K) ht
  cases o:oa x with
  | false =>
   rw [show kE (.T x why)=false from o]
   clean_wf
   exact kk _ (by rw [eb,o]; rfl)
  | true =>
   rw [show kE (.T x why)=true from o]
   rw [if_pos o] at eb
   refine D8 ?_
   refine cK ?_
   clean_wf
   have b1:=nb
   unfold gY at b1
   cases z:w'.num with
   | none=>rw [z] at b1; cases b1
   | some n =>
    simp only [z,nO] at hp
    rw [z] at eb
    refine dN (fun c2=>?_) fun c2=>?_
    ·have c2:=of_decide_eq_true c2
     rw [if_pos (by omega)] at eb
     obtain ⟨m,hm⟩:∃ m,(met w' r)[w'.ones]?=some m:=⟨_,List.getElem?_eq_getElem (by omega)⟩
     obtain ⟨y,hy,ty⟩:=gZ hx hm
     have ay:jG xs (w'.ones:Int)=some y:=cR hy
     clean_wf
     refine zd ty hn (kk _ ?_)
     rw [eb,hm]
     exact decide_eq_decide.mpr ⟨fun h z=>h (Option.some.inj z),fun h z=>h (by rw [z])⟩
    ·have c2:=of_decide_eq_false (Bool.eq_false_iff.mpr c2)
     rw [if_neg (by omega)] at eb
     have e4:=R.e4
     have hg:=R.r4 n
     clean_wf
     rw [jD] at hg
     cases y:r.gc n with
     | none =>
      rw [y] at hg
      rw [hg.no]
      exact kk _ (by rw [eb]; show _=(r.gc n).isSome; rw [y]; rfl)
     | some m =>
      rw [y] at hg
      obtain ⟨v,ev,_⟩:=hg.yes
      rw [ev]
      exact kk _ (by rw [eb]; show _=(r.gc n).isSome; rw [y]; rfl)
end
end K81
namespace K81
open PySem L2
section
variable {P:Program} {w:World} {K:PySem.W.Frag} {mg:Str->Option Value} {base:Heap}
theorem xV {α:Type} {R S:V->α->Prop} {m:List (Int×V)} {f:Int->Option α} {k:Int} {v:V} {a:α} (h:∀ n,RO R (cD (dG m) (Sum.inl n)) (f n)) (rs:∀ x y,R x y->S x y) (hv:S v a):∀ n,RO S (cD (dG (dS m k v)) (Sum.inl n)) (i5 f k a n):=fun n=>by
 have:=h n
 rw [jD] at this ⊢
 rw [zq]
 unfold i5
 by_cases e:n=k
 ·rw [if_pos e,if_pos e]; exact hv
 ·rw [if_neg e,if_neg e]; exact this.imp rs
theorem uQ {α β:Type} [DecidableEq α] {f:α->Option β} {a:α} {b c:β} (h:f a=some c):dw f a b=f:=funext fun x=>by
 unfold dw
 by_cases e:x=a
 ·rw [if_pos e,e,h]; rfl
 ·rw [if_neg e]
theorem se {α β:Type} [DecidableEq α] {f:α->Option β} {a:α} {b:β} (h:f a=none):dw f a b=i5 f a b:=funext fun x=>by
 unfold dw i5
 rw [h]
 rfl
section
variable {H0 H H':Hp} {rp:Addr} {r:Rc} {N:Nat} {q:RQ} {z:Addr}
theorem fO.mono (h:fO K mg H0 H rp r N q) {M:Nat} (l:N<=M):fO K mg H0 H rp r M q :=
 ⟨h.ob,h.e1,h.e2,h.e3,h.e4,by have:=h.l1; omega,by have:=h.l2; omega,by have:=h.l3; omega,by have:=h.l4; omega,h.r1,h.r2,fun n=>(h.r3 n).imp fun _ _ y=>⟨y.1,Nat.le_trans y.2 l⟩,h.r4,h.f0,h.f1,h.f2,h.f3,h.f4,h.n13,h.n14,h.n34,h.sm,h.nd1,h.nd3,h.nd4⟩
structure JN (K:PySem.W.Frag) (mg:Str->Option Value) (H0 H':Hp) (rp:Addr) (r:Rc) (N:Nat) (q:RQ):Prop where
 ob:∃ C dx,mg "Record"=some (.ref C)/\H' rp=some (.ins C dx (Er (.ref q.d1) (.ref q.d2) (.ref q.d3) (.ref q.d4)))
 r1:∀ n,RO (pP H') (cD (dG q.m1) (Sum.inl n)) (r.tl n)
 r2:∀ p,RO (xw H') (cD q.m2 (k3 p)) (r.tc p)
 r3:∀ n,RO (fun v l=>Gx H' v l/\l.length<=N) (cD (dG q.m3) (Sum.inl n)) (r.mo n)
 r4:∀ n,RO (Jz q H') (cD (dG q.m4) (Sum.inl n)) (r.gc n)
 sm:aE H0 H'
 su:eW H H'
theorem fO.mv (h:fO K mg H0 H rp r N q) (b:mL z H H') (z0:H0 z=none) {o:HO} (zo:H z=some o) (zt:∀ xs,HO.tup xs≠o) (zl:∀ xs,HO.lst xs≠o) (nr:rp≠z) (gz:∀ n v,cD (dG q.m4) (Sum.inl n)=some v->v≠.ref z):JN (H:=H) K mg H0 H' rp r N q:=by
 have su:eW H H':=fun a xs e=>b.at (bK e zo (zt xs)) e
 obtain ⟨C,dx,o1,o2⟩:=h.ob
 refine ⟨⟨C,dx,o1,b.at nr o2⟩,fun n=>(h.r1 n).imp fun _ _ y=>y.up su,fun n=>(h.r2 n).imp fun _ _ y=>y.up su,fun n=>(h.r3 n).imp fun v l y=>?_,fun n=>?_,b.same h.sm z0,su⟩
 ·obtain ⟨⟨a,xs,y1,y2,y3⟩,y4⟩:=y
  exact ⟨⟨a,xs,y1,b.at (bK y2 zo (zl xs)) y2,Paired.mapP y3 fun _ _ x=>x.up su⟩,y4⟩
 ·have hr:=h.r4 n
  have hg:=gz n
  cases y:cD (dG q.m4) (Sum.inl n) with
  | none=>rw [y] at hr; cases x:r.gc n with
   | none=>exact True.intro
   | some m=>rw [x] at hr; exact hr.elim
  | some v =>
   rw [y] at hr hg
   cases x:r.gc n with
   | none=>rw [x] at hr; exact hr.elim
   | some m =>
    rw [x] at hr
    obtain ⟨a,y1,y2,y3⟩:=hr
    exact ⟨a,y1,b.at (fun e=>hg v rfl (by rw [y1,e])) y2,y3⟩
theorem fO.gz (h:fO K mg H0 H rp r N q) (hz:z=q.d1∨z=q.d3∨z=q.d4∨∃ o,H z=some o/\∀ m,HO.dK m≠o):∀ n v,cD (dG q.m4) (Sum.inl n)=some v->v≠.ref z:=fun n v e=>by
 have hr:=h.r4 n
 rw [e] at hr
 cases x:r.gc n with
 | none=>rw [x] at hr; exact hr.elim
 | some m =>
  rw [x] at hr
  obtain ⟨a,rfl,y2,y3,y4,y5⟩:=hr
  intro w
  cases w
  rcases hz with rfl | rfl | rfl | ⟨o,ho,no⟩
  ·exact y3 rfl
  ·exact y4 rfl
  ·exact y5 rfl
  ·rw [y2] at ho; exact no _ (Option.some.inj ho)
theorem fO.nrp (h:fO K mg H0 H rp r N q) {o:HO} (zo:H z=some o) (zi:∀ C dx fs,HO.ins C dx fs≠o):rp≠z:=by
 obtain ⟨C,dx,o1,o2⟩:=h.ob
 exact bK o2 zo (zi _ _ _)
theorem fO.d12 (h:fO K mg H0 H rp r N q):q.d1≠q.d2:=bK h.e1 h.e2 (by intro z; cases z)
theorem fO.d32 (h:fO K mg H0 H rp r N q):q.d3≠q.d2:=bK h.e3 h.e2 (by intro z; cases z)
theorem fO.d42 (h:fO K mg H0 H rp r N q):q.d4≠q.d2:=bK h.e4 h.e2 (by intro z; cases z)
theorem fO.set1 (h:fO K mg H0 H rp r N q) {n:Int} {v:V} {s:sL} (ts:pP H v s):fO K mg H0 (upd H q.d1 (.dK (dG (dS q.m1 n v)))) rp { r with tl:=i5 r.tl n s } (N + 1) { q with m1:=dS q.m1 n v }:=by
 have b:mL q.d1 H (upd H q.d1 (.dK (dG (dS q.m1 n v)))):=.upd
 have M:=h.mv b h.f1 h.e1 (fun _ w=>nomatch w) (fun _ w=>nomatch w) (h.nrp h.e1 fun _ _ _ w=>nomatch w) (h.gz (.inl rfl))
 exact ⟨M.ob,au,b.at h.d12.symm h.e2,b.at h.n13.symm h.e3,b.at h.n14.symm h.e4,by have:=h.l1; have:=nP q.m1 n v; show (dS q.m1 n v).length<=N + 1; omega,by have:=h.l2; show q.m2.length<=N + 1; omega,by have:=h.l3; show q.m3.length<=N + 1; omega,by have:=h.l4; show q.m4.length<=N + 1; omega,
  xV h.r1 (fun _ _ y=>y.up M.su) (ts.up M.su),M.r2,fun n=>(M.r3 n).imp fun _ _ y=>⟨y.1,by omega⟩,M.r4,h.f0,h.f1,h.f2,h.f3,h.f4,h.n13,h.n14,h.n34,M.sm,qp _ _ _ h.nd1,h.nd3,h.nd4⟩
theorem FO {a b:sL} (h:k3 a=k3 b):a=b:=by
 obtain ⟨a1,a2,a3⟩:=a
 obtain ⟨b1,b2,b3⟩:=b
 simp [k3] at h
 obtain ⟨rfl,rfl,rfl⟩:=h
 rfl
theorem fO.set2 (h:fO K mg H0 H rp r N q) {p:sL} {v:V} {s:zF} (ts:xw H v s):fO K mg H0 (upd H q.d2 (.dT (eL q.m2 (k3 p) v))) rp { r with tc:=i5 r.tc p s } (N + 1) { q with m2:=eL q.m2 (k3 p) v }:=by
 have b:mL q.d2 H (upd H q.d2 (.dT (eL q.m2 (k3 p) v))):=.upd
 have M:=h.mv b h.f2 h.e2 (fun _ w=>nomatch w) (fun _ w=>nomatch w) (h.nrp h.e2 fun _ _ _ w=>nomatch w) (h.gz (.inr (.inr (.inr ⟨_,h.e2,fun _ w=>nomatch w⟩))))
 refine ⟨M.ob,b.at h.d12 h.e1,au,b.at h.d32 h.e3,b.at h.d42 h.e4,by have:=h.l1; show q.m1.length<=N + 1; omega,by have:=h.l2; have:=gH q.m2 (k3 p) v; show (eL q.m2 (k3 p) v).length<=N + 1; omega,by have:=h.l3; show q.m3.length<=N + 1; omega,by have:=h.l4; show q.m4.length<=N + 1; omega,
  M.r1,fun p'=>?_,fun n=>(M.r3 n).imp fun _ _ y=>⟨y.1,by omega⟩,M.r4,h.f0,h.f1,h.f2,h.f3,h.f4,h.n13,h.n14,h.n34,M.sm,h.nd1,h.nd3,h.nd4⟩
 show RO _ (cD (eL q.m2 (k3 p) v) (k3 p')) (i5 r.tc p s p')
 rw [Av]
 unfold i5
 by_cases e:p'=p
 ·rw [if_pos (congrArg k3 e),if_pos e]; exact ts.up M.su
 ·rw [if_neg (fun w=>e (FO w)),if_neg e]; exact M.r2 p'
theorem fO.set3 (h:fO K mg H0 H rp r N q) {n:Int} {v:V} {l:List sL} (ts:Gx H v l) (ll:l.length<=N + 1):fO K mg H0 (upd H q.d3 (.dK (dG (dS q.m3 n v)))) rp { r with mo:=i5 r.mo n l } (N + 1) { q with m3:=dS q.m3 n v }:=by
 have b:mL q.d3 H (upd H q.d3 (.dK (dG (dS q.m3 n v)))):=.upd
 have M:=h.mv b h.f3 h.e3 (fun _ w=>nomatch w) (fun _ w=>nomatch w) (h.nrp h.e3 fun _ _ _ w=>nomatch w) (h.gz (.inr (.inl rfl)))
 have up:∀ v l,Gx H v l->Gx (upd H q.d3 (.dK (dG (dS q.m3 n v)))) v l:=fun v l y=>by
  obtain ⟨a,xs,y1,y2,y3⟩:=y
  refine ⟨a,xs,y1,?_,Paired.mapP y3 fun _ _ x=>x.up fun a xs e=>?_⟩
  ·rw [aG (bK y2 h.e3 (fun w=>nomatch w))]; exact y2
  ·rw [aG (bK e h.e3 (fun w=>nomatch w))]; exact e
 have up':Gx (upd H q.d3 (.dK (dG (dS q.m3 n v)))) v l:=by
  obtain ⟨a,xs,y1,y2,y3⟩:=ts
  exact ⟨a,xs,y1,b.at (bK y2 h.e3 (fun w=>nomatch w)) y2,Paired.mapP y3 fun _ _ x=>x.up M.su⟩
 refine ⟨M.ob,b.at h.n13 h.e1,b.at h.d32.symm h.e2,au,b.at h.n34.symm h.e4,by have:=h.l1; show q.m1.length<=N + 1; omega,by have:=h.l2; show q.m2.length<=N + 1; omega,by have:=h.l3; have:=nP q.m3 n v; show (dS q.m3 n v).length<=N + 1; omega,by have:=h.l4; show q.m4.length<=N + 1; omega,
  M.r1,M.r2,?_,M.r4,h.f0,h.f1,h.f2,h.f3,h.f4,h.n13,h.n14,h.n34,M.sm,h.nd1,qp _ _ _ h.nd3,h.nd4⟩
 exact xV M.r3 (fun _ _ y=>⟨y.1,by omega⟩) ⟨up',ll⟩
theorem fO.set4 (h:fO K mg H0 H rp r N q) {n:Int} {a:Addr} {m:List (Int×Int)} (ea:H a=some (.dK (dI m))) (a1:a≠q.d1) (a3:a≠q.d3) (a4:a≠q.d4):fO K mg H0 (upd H q.d4 (.dK (dG (dS q.m4 n (.ref a))))) rp { r with gc:=i5 r.gc n m } (N + 1) { q with m4:=dS q.m4 n (.ref a) }:=by
 have b:mL q.d4 H (upd H q.d4 (.dK (dG (dS q.m4 n (.ref a))))):=.upd
 have M:=h.mv b h.f4 h.e4 (fun _ w=>nomatch w) (fun _ w=>nomatch w) (h.nrp h.e4 fun _ _ _ w=>nomatch w) (h.gz (.inr (.inr (.inl rfl))))
 refine ⟨M.ob,b.at h.n14 h.e1,b.at h.d42.symm h.e2,b.at h.n34 h.e3,au,by have:=h.l1; show q.m1.length<=N + 1; omega,by have:=h.l2; show q.m2.length<=N + 1; omega,by have:=h.l3; show q.m3.length<=N + 1; omega,by have:=h.l4; have:=nP q.m4 n (.ref a); show (dS q.m4 n (.ref a)).length<=N + 1; omega,
  M.r1,M.r2,fun n=>(M.r3 n).imp fun _ _ y=>⟨y.1,by omega⟩,?_,h.f0,h.f1,h.f2,h.f3,h.f4,h.n13,h.n14,h.n34,M.sm,h.nd1,h.nd3,qp _ _ _ h.nd4⟩
 exact xV M.r4 (fun _ _ y=>y) ⟨a,rfl,b.at a4 ea,a1,a3,a4⟩
theorem fO.oth (h:fO K mg H0 H rp r N q) (b:mL z H H') (z0:H0 z=none) {o:HO} (zo:H z=some o) (zt:∀ xs,HO.tup xs≠o) (zl:∀ xs,HO.lst xs≠o) (nr:rp≠z) (n1:q.d1≠z) (n2:q.d2≠z) (n3:q.d3≠z) (n4:q.d4≠z) (gz:∀ n v,cD (dG q.m4) (Sum.inl n)=some v->v≠.ref z):fO K mg H0 H' rp r N q:=by
 have M:=h.mv b z0 zo zt zl nr gz
 exact ⟨M.ob,b.at n1 h.e1,b.at n2 h.e2,b.at n3 h.e3,b.at n4 h.e4,h.l1,h.l2,h.l3,h.l4,M.r1,M.r2,M.r3,M.r4,h.f0,h.f1,h.f2,h.f3,h.f4,h.n13,h.n14,h.n34,M.sm,h.nd1,h.nd3,h.nd4⟩
theorem fO.wr (h:fO K mg H0 H rp r N q) {p C dx:Addr} {fs:List (Str×V)} (b:mL p H H') (p0:H0 p=none) (hp:H p=some (.ins C dx fs)) (nr:p≠rp):fO K mg H0 H' rp r N q :=
 h.oth b p0 hp (fun _ w=>nomatch w) (fun _ w=>nomatch w) nr.symm (bK h.e1 hp fun w=>nomatch w) (bK h.e2 hp fun w=>nomatch w) (bK h.e3 hp fun w=>nomatch w) (bK h.e4 hp fun w=>nomatch w) (h.gz (.inr (.inr (.inr ⟨_,hp,fun _ w=>nomatch w⟩))))
end
end
end K81
namespace K81
open PySem L2
abbrev eI:Stmt:=iS (i7 10) 5
section
variable {P:Program} {w:World} {K:PySem.W.Frag} {mg:Str->Option Value} {base:Heap}
def gJ (K:PySem.W.Frag) (mg:Str->Option Value):Sp:=fun vs H Q _=>∃ (p:Addr) (ev:V),vs=[.ref p,ev]/\∃ H0 rp hand w q cd r N n s,fO K mg H0 H rp r N q/\qv K mg H0 H p rp hand w q cd/\hJ H ev (.L n s)/\N<=500/\∀ H' q' cd',fO K mg H0 H' rp (qX w r (.L n s)) (N + 2) q'->qv K mg H0 H' p rp hand (GQ w (.L n s)) q' cd'->Q .non H'
theorem j5:aW ["self","event"] ["self","event"] (aF eI):=⟨rfl,rfl,rfl,by decide +kernel,rfl,by decide +kernel,by decide +kernel⟩
theorem kh {f  bg aL:Addr} {fd :FuncData} (F:cM K "go_over_list" "Walk.go_over_list" eI f fd) (bF:fN K bg) (aY:gS K aL) (bo:mg "Record"=some (.ref bg)) (aX:mg "Walk"=some (.ref aL)):aT P w K mg base cy 1 f fd ["self","event"] (gJ K mg):=by
 refine F.ok j5 (fun vs H Q E h=>?_) (fun cdv A outer s H vs Q E hr h=>?_)
 ·obtain ⟨p,ev,rfl,_⟩:=h
  rfl
 obtain ⟨p,ev,rfl,h⟩:=h
 have hu64:=hr.units
 have hu0:=hr.units0
 have hu:=bS hr
 refine ⟨_,(af (bU (eG PySem.F.plainAttrs_dict PySem.F.slot_dict_setdefault PySem.F.type_dict_setdefault rV (aU (K:=K) rfl (aU (K:=K) rfl (pv 0) rfl) rfl) (ae (aw (ao (K:=K) rfl) (pv 1) aa (fun _ _=>rfl)) (ae (cq (iM (K:=K) rfl) (pv 1) (bG aa) (bG aa)) aj))))
   (af (a8 (aA kX (aU (K:=K) rfl (pv 0) rfl) dy (ax _)) (ai (bU (eG PySem.F.plainAttrs_dict PySem.F.slot_dict_setdefault PySem.F.type_dict_setdefault rV (aU (K:=K) rfl (aU (K:=K) rfl (pv 0) rfl) rfl) (ae (aU (K:=K) rfl (pv 0) rfl) (ae (aU (K:=K) rfl (pv 0) rfl) aj))))) aJ)
   (af (cZ (K:=K) rfl (pv 0) (aw (ao (K:=K) rfl) (pv 1) aa (fun _ _=>rfl)) rfl)
   (af (cZ (K:=K) rfl (pv 0) (aw (ao (K:=K) rfl) (pv 1) aa (fun _ _=>rfl)) rfl)
   (af (cZ (K:=K) rfl (pv 0) fi rfl)
   (ai (cZ (K:=K) rfl (pv 0) aa rfl))))))),?_⟩
 obtain ⟨H0,rp,hand,w',q,cd,r,N,n,s',R,W,he,nN,kk⟩:=h
 obtain ⟨C,dx,eC,hp⟩:=W.ob
 rw [aX] at eC
 cases eC
 obtain ⟨C2,dx2,eC2,hrp⟩:=R.ob
 rw [bo] at eC2
 cases eC2
 obtain ⟨cl,n1,n2,n3,n4,n5,n6⟩:=id aY
 obtain ⟨cl',n1',n2',n3',n4'⟩:=id bF
 obtain ⟨t,rfl,ht,_⟩:=id he
 have st:=aZ.of (K:=K) ht
 have e1:=R.e1
 have ec:=W.ec
 have nw:=W.nr
 refine cK ?_
 clean_wf
 refine Ak ht fun t1 H1 z1 s1 g1=>?_
 have R1:=R.same s1
 have l1:=R.l1
 have l4:=R.l4
 clean_wf
 refine Bf R1.e1 R1.nd1 (by omega) fun v H2 hc=>?_
 have hp1:=s1 _ _ hp
 have ec1:=s1 _ _ ec
 have ht1:=s1 _ _ ht
 obtain ⟨q2,R2,f1,f3,f4,f5,b2⟩:∃ q2,fO K mg H0 H2 rp { r with tl:=dw r.tl n s' } (N + 1) q2/\q2.d1=q.d1/\q2.d3=q.d3/\q2.d4=q.d4/\q2.m4=q.m4/\mL q.d1 H1 H2:=by
  have hr:=R1.r1 n
  rw [jD] at hr
  rcases hc with ⟨c1,rfl⟩ | ⟨c1,rfl,rfl⟩
  ·rw [c1] at hr
   cases y:r.tl n with
   | none=>rw [y] at hr; exact hr.elim
   | some m =>
    refine ⟨q,?_,rfl,rfl,rfl,rfl,fun _ _=>rfl⟩
    rw [uQ y]
    exact R1.mono (Nat.le_succ _)
  ·rw [c1] at hr
   cases y:r.tl n with
   | some m=>rw [y] at hr; exact hr.elim
   | none =>
    refine ⟨{ q with m1:=dS q.m1 n (.ref t1) },?_,rfl,rfl,rfl,rfl,.upd⟩
    rw [se y]
    exact R1.set1 ⟨t1,rfl,g1⟩
 have npd:p≠q.d1:=bK hp1 R1.e1 (by intro z; cases z)
 have hp2:=b2.at npd hp1
 have ec2:=b2.at W.c1 ec1
 have ht2:=b2.at (bK ht1 R1.e1 (by intro z; cases z)) ht1
 dsimp only
 refine bD (fun σ' H3=>σ'=[some (.ref p),some (.ref t)]/\∃ q3,fO K mg H0 H3 rp (qX w' r (.L n s')) (N + 2) q3/\H3 p=some (.ins aL dx (pY (.int hand) (.ref rp) (nO w'.num) (nO w'.new) (.ref cd) (.int w'.ones)))/\H3 t=some (.tup [.str "list",.int n,.int s'.1,.int s'.2.1,.int s'.2.2])) ?_ fun N' rest=>?_
 rotate_left
 ·obtain ⟨C3,dx3,eC3,hrp2⟩:=R2.ob
  rw [bo] at eC3
  cases eC3
  have e4:=R2.e4
  cases z:w'.num with
  | none =>
   simp only [z,nO] at hp2
   clean_wf
   rw [hX]
   clean_wf
   refine rest _ _ ⟨rfl,q2,?_,by simpa only [z,nO] using hp2,ht2⟩
   have:qX w' r (.L n s')={ r with tl:=dw r.tl n s' }:=by unfold qX; rw [z]
   rw [this]
   exact R2.mono (Nat.le_succ _)
  | some m =>
   simp only [z,nO] at hp2
   clean_wf
   rw [l8]
   clean_wf
   have l42:=R2.l4
   refine Bf R2.e4 R2.nd4 (by omega) fun v3 H3 hc3=>?_
   have hr:=R2.r4 m
   rw [jD] at hr
   have eg:qX w' r (.L n s')={ r with tl:=dw r.tl n s',gc:=dw r.gc m w'.cs }:=by unfold qX; rw [z]
   rcases hc3 with ⟨c1,rfl⟩ | ⟨c1,rfl,rfl⟩
   ·rw [c1] at hr
    refine rest _ _ ⟨rfl,q2,?_,by simpa only [z,nO] using hp2,ht2⟩
    rw [eg]
    cases y:r.gc m with
    | none=>rw [show ({ r with tl:=dw r.tl n s' }:Rc).gc m=r.gc m from rfl,y] at hr; exact hr.elim
    | some m'=>rw [uQ y]; exact R2.mono (Nat.le_succ _)
   ·rw [c1] at hr
    refine rest _ _ ⟨rfl,{ q2 with m4:=dS q2.m4 m (.ref cd) },?_,?_,?_⟩
    rotate_left
    ·rw [aG (bK hp2 R2.e4 (by intro z; cases z))]
     simpa only [z,nO] using hp2
    ·rw [aG (bK ht2 R2.e4 (by intro z; cases z))]
     exact ht2
    rotate_left
    ·rw [eg]
     cases y:r.gc m with
     | some m'=>rw [show ({ r with tl:=dw r.tl n s' }:Rc).gc m=r.gc m from rfl,y] at hr; exact hr.elim
     | none =>
      rw [se y]
      exact R2.set4 ec2 (by rw [f1]; exact W.c1) (by rw [f3]; exact W.c3) (by rw [f4]; exact W.c4)
 rintro σ' H3 ⟨rfl,q3,R3,hp3,ht3⟩
 have st3:=aZ.of (K:=K) ht3
 clean_wf
 intro H4 b4 hp4
 rw [mX] at hp4
 have R4:=R3.wr b4 W.fw hp3 nw
 have ht4:=b4.at (bK ht3 hp3 (by intro z; cases z)) ht3
 have st4:=aZ.of (K:=K) ht4
 clean_wf
 intro H5 b5 hp5
 rw [uC] at hp5
 have R5:=R4.wr b5 W.fw hp4 nw
 clean_wf
 intro d H6 z6 s6 g6
 have R6:=R5.same s6
 have hp6:=s6 _ _ hp5
 clean_wf
 intro H7 b7 hp7
 rw [vh] at hp7
 have R7:=R6.wr b7 W.fw hp6 nw
 have ndp:d≠p:=bK g6 hp6 (by intro z; cases z)
 have g7:=b7.at ndp g6
 clean_wf
 intro H8 b8 hp8
 rw [rh] at hp8
 have R8:=R7.wr b8 W.fw hp7 nw
 have g8:=b8.at ndp g7
 have fr:∀ {b:Addr} {o:HO},H5 b=some o->d≠b:=fun e z=>by rw [← z,z6] at e; cases e
 refine kk H8 q3 d R8 ⟨⟨_,dx,aX,hp8⟩,g8,Ck.nil,W.h0,W.h1,W.fw,?_,fr R5.e1,fr R5.e3,fr R5.e4,fun n v e z=>?_,nw⟩
 ·cases z:H0 d with
  | none=>rfl
  | some o=>exact absurd rfl (fr (R5.sm _ _ z))
 ·have hr:=R5.r4 n
  rw [e,z] at hr
  cases y:(qX w' r (.L _ s')).gc n with
  | none=>rw [y] at hr; exact hr.elim
  | some m =>
   rw [y] at hr
   obtain ⟨a,ea,ha,_⟩:=hr
   cases ea
   exact fr ha rfl
end
end K81
namespace K81
open PySem L2
abbrev eK:Stmt:=iS (i7 10) 6
abbrev ic:Stmt:=iS (i7 10) 4
section
variable {P:Program} {w:World} {K:PySem.W.Frag} {mg:Str->Option Value} {base:Heap}
theorem qv.mv {H0 H H':Hp} {wp rp cd z:Addr} {hand:Int} {w:Wk} {q q':RQ} (h:qv K mg H0 H wp rp hand w q cd) (b:mL z H H') (nz:wp≠z) (nc:cd≠z) (f1:q'.d1=q.d1) (f3:q'.d3=q.d3) (f4:q'.d4=q.d4) (f5:q'.m4=q.m4):qv K mg H0 H' wp rp hand w q' cd:=by
 obtain ⟨C,dx,o1,o2⟩:=h.ob
 exact ⟨⟨C,dx,o1,b.at nz o2⟩,b.at nc h.ec,h.ck,h.h0,h.h1,h.fw,h.fc,by rw [f1]; exact h.c1,by rw [f3]; exact h.c3,by rw [f4]; exact h.c4,by rw [f5]; exact h.cv,h.nr⟩
theorem qv.kind {H0 H:Hp} {wp rp cd z:Addr} {hand:Int} {w:Wk} {q:RQ} (h:qv K mg H0 H wp rp hand w q cd) {o:HO} (zo:H z=some o) (zi:∀ C dx fs,HO.ins C dx fs≠o):wp≠z:=by
 obtain ⟨C,dx,o1,o2⟩:=h.ob
 exact bK o2 zo (zi _ _ _)
theorem bE {α β:Type} {R:α->β->Prop}:∀ {xs xs':List α} {ys ys':List β},Paired R xs ys->Paired R xs' ys'->Paired R (xs ++ xs') (ys ++ ys')
 | _,_,_,_,.nil,h=>h
 | _,_,_,_,.cons r t,h=>.cons r (bE t h)
def fU (K:PySem.W.Frag) (mg:Str->Option Value):Sp:=fun vs H Q _=>∃ (p:Addr) (ev:V),vs=[.ref p,ev]/\∃ H0 rp hand w q cd r N x why n0,fO K mg H0 H rp r N q/\qv K mg H0 H p rp hand w q cd/\hJ H ev (.T x why)/\w.num=some n0/\N<=500/\∀ H' q' cd',fO K mg H0 H' rp (qX w r (.T x why)) (N + 2) q'->qv K mg H0 H' p rp hand (GQ w (.T x why)) q' cd'->Q .non H'
theorem gG:aW ["self","event","name"] ["self","event"] (aF eK):=⟨rfl,rfl,rfl,by decide +kernel,rfl,by decide +kernel,by decide +kernel⟩
theorem kH {f da bY bg aL:Addr} {fd cS bV:FuncData} (F:cM K "go_over_take" "Walk.go_over_take" eK f fd)
  (fA:aT P w K mg base cy 1 da cS ["self","event"] (fj K)) (fK:Binds K cS ["self","event"] [])
  (cI:aT P w K mg base cy 1 bY bV ["self"] (dC K mg)) (cJ:Binds K bV ["self"] []) (dE:mg "len"=none) (bF:fN K bg) (aY:gS K aL) (bo:mg "Record"=some (.ref bg)) (aX:mg "Walk"=some (.ref aL)) (bC:jC K aL "ones_on_record" bY) (cz:jC K aL "takes_one" da):aT P w K mg base cy 2 f fd ["self","event"] (fU K mg):=by
 refine F.ok gG (fun vs H Q E h=>?_) (fun cdv A outer s H vs Q E hr h=>?_)
 ·obtain ⟨p,ev,rfl,_⟩:=h
  rfl
 obtain ⟨p,ev,rfl,h⟩:=h
 have hu64:=hr.units
 have hu0:=hr.units0
 have hu:=bS hr
 refine ⟨_,(af (aC (i:=2) gG.nd rfl (Or.inl rfl) (aw (ao (K:=K) rfl) (pv 1) aa (fun _ _=>rfl)))
   (af (bU (eG PySem.F.plainAttrs_dict PySem.F.slot_dict_setdefault PySem.F.type_dict_setdefault (BG hu) (aU (K:=K) rfl (aU (K:=K) rfl (pv 0) rfl) rfl) (ae (pv 2) (ae (cq (iM (K:=K) rfl) (pv 1) (bG aa) (bG aa)) aj))))
   (af (a8 (gi K rfl (gI (mY.cons aY.cl cz fA fK mY.nil) (pv 0) hr (ae (pv 1) aj))) (af (a8 (aA bw (aU (K:=K) rfl (pv 0) rfl) (bj (bQ (K:=K) rfl) (by rfl) dE PySem.boot_len (ae (oN (mY.cons aY.cl bC cI cJ mY.nil) (pv 0) hr) aj)) (ax _)) (ai (nG hu (aU (K:=K) rfl (aU (K:=K) rfl (pv 0) rfl) rfl) (aU (K:=K) rfl (pv 0) rfl) (aq uj (oN (mY.cons aY.cl bC cI cJ mY.nil) (pv 0) hr) (bX (ae (pv 2) aj))) rfl)) aJ)
   (ai (cZ (K:=K) rfl (pv 0) (aq bu (aU (K:=K) rfl (pv 0) rfl) aa) rfl))) aJ)
   (ai (nG hu (aU (K:=K) rfl (pv 0) rfl) (aw (ao (K:=K) rfl) (pv 2) aa (fun _ _=>rfl)) (aw (ao (K:=K) rfl) (pv 2) aa (fun _ _=>rfl)) rfl))))),?_⟩
 obtain ⟨H0,rp,hand,w',q,cd,r,N,x,why,n0,R,W,he,hn0,nN,kk⟩:=h
 obtain ⟨C,dx,eC,hp⟩:=W.ob
 rw [aX] at eC
 cases eC
 obtain ⟨C2,dx2,eC2,hrp⟩:=R.ob
 rw [bo] at eC2
 cases eC2
 obtain ⟨cl,n1,n2,n3,n4,n5,n6⟩:=id aY
 obtain ⟨cl',n1',n2',n3',n4'⟩:=id bF
 obtain ⟨t,nv,cv,rfl,ht,⟨u,rfl,hu'⟩,hcv,nd,ln,ckp,rg,k0,lay⟩:=id he
 have st:=aZ.of (K:=K) ht
 have e2:=R.e2
 refine bD (fun σ' H1=>H=H1/\σ'=[some (.ref p),some (.ref t),some (.ref u)]) ?_ fun N1 rest=>?_
 rotate_left
 ·clean_wf
  exact rest _ _ ⟨rfl,rfl⟩
 rintro σ' _ ⟨rfl,rfl⟩
 refine bD (fun σ' H2=>σ'=[some (.ref p),some (.ref t),some (.ref u)]/\∃ q2,fO K mg H0 H2 rp { r with tc:=dw r.tc x.nm x.pt } (N + 1) q2/\qv K mg H0 H2 p rp hand w' q2 cd/\hJ H2 (.ref t) (.T x why)/\H2 u=some (.tup [.int x.n,.int x.c,.int x.k])) ?_ fun N' rest=>?_
 rotate_left
 ·clean_wf
  refine ⟨.inr (.inr (.inl ⟨rfl,.inr ⟨_,e2⟩⟩)),?_⟩
  clean_wf
  refine vW ht fun t1 H1 z1 s1 g1=>?_
  clean_wf
  have R1:=R.same s1
  have W1:=W.same s1
  have l2:=R1.l2
  have npt:xw H1 (.ref t1) x.pt:=⟨t1,cv,rfl,g1,hcv.up (.same s1),lay⟩
  have hr:=R1.r2 x.nm
  refine ⟨q.d2,u,q.m2,k3 x.nm,.ref t1,rfl,rfl,R1.e2,s1 _ _ hu',by omega,fun v e=>?_,fun e=>?_⟩
  ·rw [e] at hr
   cases y:r.tc x.nm with
   | none=>rw [y] at hr; exact hr.elim
   | some m =>
    refine rest _ _ ⟨rfl,q,?_,W1,he.up (.same s1),s1 _ _ hu'⟩
    rw [uQ y]
    exact R1.mono (Nat.le_succ _)
  ·rw [e] at hr
   cases y:r.tc x.nm with
   | some m=>rw [y] at hr; exact hr.elim
   | none =>
    have su:eW H1 (upd H1 q.d2 (.dT (eL q.m2 (k3 x.nm) (.ref t1)))):=fun a xs e=>by
     rw [aG (bK e R1.e2 (fun w=>nomatch w))]; exact e
    refine rest _ _ ⟨rfl,{ q with m2:=eL q.m2 (k3 x.nm) (.ref t1) },?_,W1.mv (z:=q.d2) .upd (W1.kind R1.e2 fun _ _ _ w=>nomatch w) (bK W1.ec R1.e2 fun w=>nomatch w) rfl rfl rfl rfl,(he.up (.same s1)).up su,su _ _ (s1 _ _ hu')⟩
    rw [se y]
    exact R1.set2 npt
 rintro σ' H2 ⟨rfl,q2,R2,W2,he2,hu2⟩
 have W2':=W2
 obtain ⟨C4,dx4,eC4,hp2⟩:=W2'.ob
 rw [aX] at eC4
 cases eC4
 have R2':=R2
 obtain ⟨C5,dx5,eC5,hrp2⟩:=R2'.ob
 rw [bo] at eC5
 cases eC5
 refine bD (fun σ' H3=>σ'=[some (.ref p),some (.ref t),some (.ref u)]/\∃ q3,fO K mg H0 H3 rp (qX w' r (.T x why)) (N + 2) q3/\qv K mg H0 H3 p rp hand ⟨w'.num,w'.new,w'.cs,if oa x=true then w'.ones + 1 else w'.ones⟩ q3 cd/\H3 u=some (.tup [.int x.n,.int x.c,.int x.k])) ?_ fun N2 rest2=>?_
 rotate_left
 ·clean_wf
  refine ⟨_,_,rfl,_,he2,?_⟩
  clean_wf
  cases o:oa x with
  | false =>
   rw [show kE (.T x why)=false from o]
   clean_wf
   refine rest2 _ _ ⟨rfl,q2,?_,?_,hu2⟩
   ·have:qX w' r (.T x why)={ r with tc:=dw r.tc x.nm x.pt }:=by
     show ({ r with tc:=dw r.tc x.nm x.pt,mo:=_ }:Rc)=_
     rw [if_neg (fun z=>by rw [o] at z; cases z.1)]
    rw [this]
    exact R2.mono (Nat.le_succ _)
   ·rw [o,if_neg Bool.false_ne_true]; exact W2
  | true =>
   rw [show kE (.T x why)=true from o]
   refine Fo ?_
   refine bD (fun σ' H4=>σ'=[some (.ref p),some (.ref t),some (.ref u)]/\∃ q4,fO K mg H0 H4 rp (qX w' r (.T x why)) (N + 2) q4/\qv K mg H0 H4 p rp hand w' q4 cd/\H4 u=some (.tup [.int x.n,.int x.c,.int x.k])) ?_ fun N3 rest3=>?_
   ·rintro σ' H4 ⟨rfl,q4,R4,W4,hu4⟩
    obtain ⟨C6,dx6,eC6,hp4⟩:=W4.ob
    rw [aX] at eC6
    cases eC6
    clean_wf
    intro H5 b5 hp5
    rw [rh] at hp5
    refine rest2 _ _ ⟨rfl,q4,R4.wr b5 W.fw hp4 W.nr,?_,b5.at (bK hu4 hp4 (by intro z; cases z)) hu4⟩
    rw [o,if_pos rfl]
    exact ⟨⟨_,dx6,aX,hp5⟩,b5.at (bK W4.ec hp4 (by intro z; cases z)) W4.ec,W4.ck,W4.h0,W4.h1,W4.fw,W4.fc,W4.c1,W4.c3,W4.c4,W4.cv,W4.nr⟩
   clean_wf
   refine ⟨p,rfl,H0,rp,hand,w',q2,cd,_,_,W2,R2,fun H4 v s4 hm hl=>?_⟩
   obtain ⟨a,xs,rfl,ha,hx⟩:=hm
   have lx:=Paired.length hx
   have sa:=bb.of (K:=K) ha
   have R4:=R2.same s4
   have W4:=W2.same s4
   have hu4:=s4 _ _ hu2
   have emt:met w' { r with tc:=dw r.tc x.nm x.pt }=met w' r:=rfl
   rw [emt] at hx hl lx
   clean_wf
   refine dN (fun c=>?_) fun c=>?_
   ·have c:=of_decide_eq_true c
    have eg:qX w' r (.T x why)={ r with tc:=dw r.tc x.nm x.pt,mo:=i5 r.mo n0 (met w' r ++ [x.nm]) }:=by
     show ({ r with tc:=dw r.tc x.nm x.pt,mo:=_ }:Rc)=_
     rw [if_pos ⟨o,by omega⟩,hn0]
    obtain ⟨C7,dx7,eC7,hp4⟩:=W4.ob
    rw [aX] at eC7
    cases eC7
    simp only [hn0,nO] at hp4
    obtain ⟨C8,dx8,eC8,hrp4⟩:=R4.ob
    rw [bo] at eC8
    cases eC8
    clean_wf
    refine ⟨p,rfl,H0,rp,hand,w',q2,cd,_,_,W4,R4,fun H5 v5 s5 hm5 hl5=>?_⟩
    obtain ⟨a5,xs5,rfl,ha5,hx5⟩:=hm5
    have lx5:=Paired.length hx5
    rw [emt] at hx5 hl5 lx5
    clean_wf
    intro l6 H6 z6 s6 g6
    refine yU (s6 _ _ ha5) g6 (by show xs5.length + 1<=1000; omega) fun p7 H7 z7 s7 g7=>?_
    have s47:aE H4 H7:=s5.trans (s6.trans s7)
    have R7:=R4.same s47
    have W7:=W4.same s47
    have hp7:=s47 _ _ hp4
    have hrp7:=s47 _ _ hrp4
    have hu7:=s47 _ _ hu4
    have l3:=R7.l3
    clean_wf
    refine ⟨q2.d3,_,rfl,.inl ⟨_,Sum.inl n0,R7.e3,rfl,aD (by unfold dG; rw [List.length_map]; omega),rfl⟩,?_⟩
    rw [Cm _ _ _ R7.nd3]
    refine rest3 _ _ ⟨rfl,{ q2 with m3:=dS q2.m3 n0 (.ref p7) },?_,W7.mv (z:=q2.d3) .upd (W7.kind R7.e3 fun _ _ _ w=>nomatch w) W7.c3 rfl rfl rfl rfl,?_⟩
    ·rw [eg]
     refine R7.set3 (n:=n0) (v:=.ref p7) (l:=met w' r ++ [x.nm]) ⟨p7,xs5 ++ [.ref u],rfl,g7,?_⟩ (by rw [List.length_append]; show (met w' r).length + 1<=N + 1 + 1; omega)
     exact bE (Paired.mapP hx5 fun _ _ y=>y.up (.same (s6.trans s7))) (.cons ⟨u,rfl,hu7⟩ .nil)
    ·rw [aG (bK hu7 R7.e3 (fun w=>nomatch w))]; exact hu7
   ·clean_wf
    refine rest3 _ _ ⟨rfl,q2,?_,W4,hu4⟩
    have eg:qX w' r (.T x why)={ r with tc:=dw r.tc x.nm x.pt }:=by
     show ({ r with tc:=dw r.tc x.nm x.pt,mo:=_ }:Rc)=_
     rw [if_neg (fun z=>c (decide_eq_true (by have:=z.2; omega)))]
    rw [eg]
    exact R4.mono (Nat.le_succ _)
 rintro σ' H3 ⟨rfl,q3,R3,W3,hu3⟩
 obtain ⟨C9,dx9,eC9,hp3⟩:=W3.ob
 rw [aX] at eC9
 cases eC9
 have su3:=aZ.of (K:=K) hu3
 have ec3:=W3.ec
 have cl3:=W3.ck.len
 clean_wf
 refine ⟨cd,_,rfl,.inl ⟨_,Sum.inl x.c,ec3,rfl,aD (by unfold dI; rw [List.length_map]; show w'.cs.length<=1000; have:=cl3; change w'.cs.length < 64 at this; omega),rfl⟩,?_⟩
 rw [ym _ _ _ W3.ck.nd]
 have b:mL cd H3 (upd H3 cd (.dK (dI (fJ w'.cs x.c x.k)))):=.upd
 refine kk _ q3 cd (R3.oth b W3.fc ec3 (fun _ w=>nomatch w) (fun _ w=>nomatch w) (R3.nrp ec3 fun _ _ _ w=>nomatch w) W3.c1.symm (bK R3.e2 ec3 fun w=>nomatch w) W3.c3.symm W3.c4.symm W3.cv) ⟨⟨_,dx9,aX,b.at (bK hp3 ec3 fun w=>nomatch w) hp3⟩,au,W3.ck.put rg.1 rg.2 k0,W3.h0,W3.h1,W3.fw,W3.fc,W3.c1,W3.c3,W3.c4,W3.cv,W3.nr⟩
def jS (K:PySem.W.Frag) (mg:Str->Option Value):Sp:=fun vs H Q _=>∃ (p:Addr) (ev:V),vs=[.ref p,ev]/\∃ H0 rp hand w q cd r N e,fO K mg H0 H rp r N q/\qv K mg H0 H p rp hand w q cd/\hJ H ev e/\gY w e=false/\N<=500/\∀ H' q' cd',fO K mg H0 H' rp (qX w r e) (N + 2) q'->qv K mg H0 H' p rp hand (GQ w e) q' cd'->Q .non H'
theorem pL:aW ["self","event"] ["self","event"] (aF ic):=⟨rfl,rfl,rfl,by decide +kernel,rfl,by decide +kernel,by decide +kernel⟩
theorem pX {f gU gT aL:Addr} {fd fW f9:FuncData} (F:cM K "go_over" "Walk.go_over" ic f fd)
  (k9:aT P w K mg base cy 2 gU fW ["self","event"] (gJ K mg)) (kZ:Binds K fW ["self","event"] [])
  (lB:aT P w K mg base cy 2 gT f9 ["self","event"] (fU K mg)) (k5:Binds K f9 ["self","event"] []) (aY:gS K aL) (aX:mg "Walk"=some (.ref aL)) (dY:jC K aL "go_over_list" gU) (dZ:jC K aL "go_over_take" gT):aT P w K mg base cy 3 f fd ["self","event"] (jS K mg):=by
 refine F.ok pL (fun vs H Q E h=>?_) (fun cdv A outer s H vs Q E hr h=>?_)
 ·obtain ⟨p,ev,rfl,_⟩:=h
  rfl
 obtain ⟨p,ev,rfl,h⟩:=h
 have hu64:=hr.units
 have hu0:=hr.units0
 have hu:=bS hr
 refine ⟨_,(ai (a8 (aA bw (aw (ao (K:=K) rfl) (pv 1) aa (fun _ _=>rfl)) aP (ax _)) (ai (bU (gI (mY.cons aY.cl dY k9 kZ mY.nil) (pv 0) hr (ae (pv 1) aj)))) (ai (a8 (aA bw (aw (ao (K:=K) rfl) (pv 1) aa (fun _ _=>rfl)) aP (ax _)) (ai (bU (gI (mY.cons aY.cl dZ lB k5 mY.nil) (pv 0) hr (ae (pv 1) aj)))) (ai (cZ (K:=K) rfl (pv 0) dy rfl)))))),?_⟩
 obtain ⟨H0,rp,hand,w',q,cd,r,N,e,R,W,he,nb,nN,kk⟩:=h
 obtain ⟨C,dx,eC,hp⟩:=W.ob
 rw [aX] at eC
 cases eC
 obtain ⟨cl,n1,n2,n3,n4,n5,n6⟩:=id aY
 cases e with
 | L n s' =>
  obtain ⟨t,rfl,ht,_⟩:=id he
  have st:=aZ.of (K:=K) ht
  clean_wf
  rw [decide_eq_true (rfl:("list":Str)="list")]
  clean_wf
  exact ⟨p,_,rfl,H0,rp,hand,w',q,cd,r,N,n,s',R,W,he,nN,fun H' q' cd' R' W'=>kk H' q' cd' R' W'⟩
 | T x why =>
  obtain ⟨t,nv,cv,rfl,ht,_⟩:=id he
  have st:=aZ.of (K:=K) ht
  have b:=nb
  unfold gY at b
  clean_wf
  rw [vx]
  clean_wf
  rw [decide_eq_true (rfl:("take":Str)="take")]
  clean_wf
  cases z:w'.num with
  | none=>rw [z] at b; cases b
  | some n0=>exact ⟨p,_,rfl,H0,rp,hand,w',q,cd,r,N,x,why,n0,R,W,he,z,nN,fun H' q' cd' R' W'=>kk H' q' cd' R' W'⟩
 | O n =>
  obtain ⟨t,rfl,ht⟩:=id he
  have st:=aZ.of (K:=K) ht
  clean_wf
  rw [vH]
  clean_wf
  rw [ur]
  clean_wf
  intro H1 b1 hp1
  rw [mX] at hp1
  exact kk H1 q cd ((R.wr b1 W.fw hp W.nr).mono (Nat.le_add_right _ _)) ⟨⟨_,dx,aX,hp1⟩,b1.at (bK W.ec hp (by intro z; cases z)) W.ec,W.ck,W.h0,W.h1,W.fw,W.fc,W.c1,W.c3,W.c4,W.cv,W.nr⟩
end
end K81
namespace K81
open PySem L2
abbrev ip:Stmt:=i7 20
section
variable {P:Program} {w:World} {K:PySem.W.Frag} {mg:Str->Option Value} {base:Heap}
theorem CT {X:Cx}:∀ f sp,(f,sp)∈([]:List (Addr×Sp))->mi X f sp:=fun _ _ h=>nomatch h
theorem gx {X:Cx} {f0:Addr} {sp0:Sp} {l:List (Addr×Sp)} (h:mi X f0 sp0) (t:∀ f sp,(f,sp)∈l->mi X f sp):∀ f sp,(f,sp)∈(f0,sp0) :: l->mi X f sp:=fun f sp z=>by
 rcases List.mem_cons.mp z with e | e
 ·cases e; exact h
 ·exact t f sp e
def wM (K:PySem.W.Frag) (mg:Str->Option Value) (v:V):Prop:=∃ (a a0 a1 a2 a3 a4 a5 a6 a7 f0 f1 f2 f3 f4 f5 f6 f7:Addr),v=.ref a/\(∀ H,aZ K H a [.ref a0,.ref a1,.ref a2,.ref a3,.ref a4,.ref a5,.ref a6,.ref a7])/\(∀ H,aZ K H a0 [.str "number",.ref f0])/\(∀ H,aZ K H a1 [.str "hands",.ref f1])/\(∀ H,aZ K H a2 [.str "row",.ref f2])/\(∀ H,aZ K H a3 [.str "causes",.ref f3])/\(∀ H,aZ K H a4 [.str "lists",.ref f4])/\(∀ H,aZ K H a5 [.str "calls",.ref f5])/\(∀ H,aZ K H a6 [.str "one",.ref f6])/\(∀ H,aZ K H a7 [.str "together",.ref f7])/\mg "breaks_number"=some (.ref f0)/\mg "breaks_hands"=some (.ref f1)/\mg "breaks_row"=some (.ref f2)/\mg "breaks_causes"=some (.ref f3)/\mg "breaks_lists"=some (.ref f4)/\mg "breaks_calls"=some (.ref f5)/\mg "breaks_one"=some (.ref f6)/\mg "breaks_together"=some (.ref f7)
def oS:Option Str->V
 | none=>.non
 | some s=>.str s
def jU (K:PySem.W.Frag) (mg:Str->Option Value):Sp:=fun vs H Q _=>∃ (p:Addr) (ev:V),vs=[.ref p,ev]/\∃ H0 rp hand w q cd r N e,fO K mg H0 H rp r N q/\qv K mg H0 H p rp hand w q cd/\hJ H ev e/\N<=500/\∀ H',aE H H'->Q (oS (bJ hand w r e)) H'
theorem gO:aW ["walk","event","rule","breaks"] ["walk","event"] (aF ip):=⟨rfl,rfl,rfl,by decide +kernel,rfl,by decide +kernel,by decide +kernel⟩
theorem pV {f cP dj eB cO du dq cx ef:Addr} {fd jn jO lD jq jN j1 ie lG:FuncData} {vE:V} {wg:Value} (F:cM K "first_broken" "first_broken" ip f fd)
  (pH:aT P w K mg base cy 3 cP jn ["walk","event"] (d7 K mg)) (jP:dP K mg "breaks_number" cP jn ["walk","event"])
  (rj:aT P w K mg base cy 3 dj jO ["walk","event"] (eV K mg)) (kG:dP K mg "breaks_hands" dj jO ["walk","event"])
  (uh:aT P w K mg base cy 3 eB lD ["walk","event"] (fT K mg)) (nQ:dP K mg "breaks_row" eB lD ["walk","event"])
  (pF:aT P w K mg base cy 3 cO jq ["walk","event"] (d9 K mg)) (jT:dP K mg "breaks_causes" cO jq ["walk","event"])
  (rS:aT P w K mg base cy 3 du jN ["walk","event"] (eU K mg)) (ku:dP K mg "breaks_lists" du jN ["walk","event"])
  (rB:aT P w K mg base cy 3 dq j1 ["walk","event"] (eQ K mg)) (kr:dP K mg "breaks_calls" dq j1 ["walk","event"])
  (mP:aT P w K mg base cy 3 cx ie ["walk","event"] (dD K mg)) (iL:dP K mg "breaks_together" cx ie ["walk","event"])
  (vk:aT P w K mg base cy 3 ef lG ["walk","event"] (fQ K mg)) (nY:dP K mg "breaks_one" ef lG ["walk","event"]) (rb:mg "RULES"=some wg) (rT:RelV vE wg) (rD:wM K mg vE):aT P w K mg base cy 4 f fd ["walk","event"] (jU K mg):=by
 refine F.ok gO (fun vs H Q E h=>?_) (fun cdv A outer s H vs Q E hr h=>?_)
 ·obtain ⟨p,ev,rfl,_⟩:=h
  rfl
 obtain ⟨p,ev,rfl,h⟩:=h
 have hu64:=hr.units
 have hu0:=hr.units0
 have hu:=bS hr
 refine ⟨_,(af (cA PassesOwn.never rfl (zf (K:=K) rfl (yT rfl rb rT)) (cY (K:=K) (n:=2) rfl rfl (aS (aB (i:=2) gO.nd rfl (Or.inl rfl)) (aS (aB (i:=3) gO.nd rfl (Or.inl rfl)) cX)))
   (ai (a8 (gi K rfl (CY [(cP,d7 K mg),(dj,eV K mg),(eB,fT K mg),(cO,d9 K mg),(du,eU K mg),(dq,eQ K mg),(ef,fQ K mg),(cx,dD K mg)] (gx (mi.of pH jP hr) (gx (mi.of rj kG hr) (gx (mi.of uh nQ hr) (gx (mi.of pF jT hr) (gx (mi.of rS ku hr) (gx (mi.of rB kr hr) (gx (mi.of vk nY hr) (gx (mi.of mP iL hr) CT)))))))) (pv 3) (ae (pv 0) (ae (pv 1) aj)))) (ai (aK (pv 2))) aJ)))
   (ai (aK dy))),?_⟩
 obtain ⟨H0,rp,hand,w',q,cd,r,N,e,R,W,he,nN,kk⟩:=h
 obtain ⟨a,a0,a1,a2,a3,a4,a5,a6,a7,f0,f1,f2,f3,f4,f5,f6,f7,rfl,hl,l0,l1,l2,l3,l4,l5,l6,l7,m0,m1,m2,m3,m4,m5,m6,m7⟩:=rD
 obtain rfl:cP=f0:=by have:=jP.mg.symm.trans m0; cases this; rfl
 obtain rfl:dj=f1:=by have:=kG.mg.symm.trans m1; cases this; rfl
 obtain rfl:eB=f2:=by have:=nQ.mg.symm.trans m2; cases this; rfl
 obtain rfl:cO=f3:=by have:=jT.mg.symm.trans m3; cases this; rfl
 obtain rfl:du=f4:=by have:=ku.mg.symm.trans m4; cases this; rfl
 obtain rfl:dq=f5:=by have:=kr.mg.symm.trans m5; cases this; rfl
 obtain rfl:ef=f6:=by have:=nY.mg.symm.trans m6; cases this; rfl
 obtain rfl:cx=f7:=by have:=iL.mg.symm.trans m7; cases this; rfl
 have sl:=hl H
 have kk:∀ o H',bJ hand w' r e=o->aE H H'->Q (oS o) H':=fun o H' h s=>h ▸ kk H' s
 clean_wf
 refine D6 (K:=K) (a:=a) (xs:=[.ref a0,.ref a1,.ref a2,.ref a3,.ref a4,.ref a5,.ref a6,.ref a7]) (fun i σ A=>aE H A/\(∃ u v,σ=[some (.ref p),some ev,u,v])/\(0 < i->gY w' e=false)/\(1 < i->fM hand w' e=false)/\(2 < i->sW w' e=false)/\(3 < i->qW w' e=false)/\(4 < i->qM r e=false)/\(5 < i->qP r e=false)/\(6 < i->jy w' r e=false)/\(7 < i->mD w' r e=false)) ⟨.refl _,⟨none,none,rfl⟩,(fun z=>absurd z (Nat.not_lt_zero _)),(fun z=>absurd z (Nat.not_lt_zero _)),(fun z=>absurd z (Nat.not_lt_zero _)),(fun z=>absurd z (Nat.not_lt_zero _)),(fun z=>absurd z (Nat.not_lt_zero _)),(fun z=>absurd z (Nat.not_lt_zero _)),(fun z=>absurd z (Nat.not_lt_zero _)),(fun z=>absurd z (Nat.not_lt_zero _))⟩ (fun i σ A _ z=>hl A) ?_ ?_
 ·rintro i x σ A hx ⟨sA,⟨u,v,rfl⟩,b0,b1,b2,b3,b4,b5,b6,b7⟩
  have il:i < 8:=(List.getElem?_eq_some_iff.mp hx).1
  rcases (by omega:i=0∨i=1∨i=2∨i=3∨i=4∨i=5∨i=6∨i=7) with rfl | rfl | rfl | rfl | rfl | rfl | rfl | rfl
  ·obtain rfl:V.ref a0=x:=Option.some.inj hx
   have st:=l0 A
   clean_wf
   refine ⟨V.ref cP,rfl,cP,d7 K mg,rfl,(by simp),?_⟩
   clean_wf
   refine ⟨p,ev,rfl,H0,rp,hand,w',q,cd,r,N,e,R.same sA,W.same sA,he.up (.same sA),fun A1 s1=>?_⟩
   cases y:gY w' e with
   | true =>
    try simp only [y]
    clean_wf
    exact kk (some "number") _ (by simp [bJ,y]) (sA.trans s1)
   | false =>
    try simp only [y]
    clean_wf
    exact ⟨sA.trans s1,⟨_,_,rfl⟩,(fun _=>by first | exact y | trivial),(fun z=>absurd z (by omega)),(fun z=>absurd z (by omega)),(fun z=>absurd z (by omega)),(fun z=>absurd z (by omega)),(fun z=>absurd z (by omega)),(fun z=>absurd z (by omega)),(fun z=>absurd z (by omega))⟩
  ·obtain rfl:V.ref a1=x:=Option.some.inj hx
   have st:=l1 A
   have c0:=b0 (by omega)
   clean_wf
   refine ⟨V.ref dj,rfl,dj,eV K mg,rfl,(by simp),?_⟩
   clean_wf
   refine ⟨p,ev,rfl,H0,rp,hand,w',q,cd,r,N,e,R.same sA,W.same sA,he.up (.same sA),c0,nN,fun A1 s1=>?_⟩
   cases y:fM hand w' e with
   | true =>
    try simp only [y]
    clean_wf
    exact kk (some "hands") _ (by simp [bJ,c0,y]) (sA.trans s1)
   | false =>
    try simp only [y]
    clean_wf
    exact ⟨sA.trans s1,⟨_,_,rfl⟩,(fun _=>c0),(fun _=>by first | exact y | trivial),(fun z=>absurd z (by omega)),(fun z=>absurd z (by omega)),(fun z=>absurd z (by omega)),(fun z=>absurd z (by omega)),(fun z=>absurd z (by omega)),(fun z=>absurd z (by omega))⟩
  ·obtain rfl:V.ref a2=x:=Option.some.inj hx
   have st:=l2 A
   have c0:=b0 (by omega)
   have c1:=b1 (by omega)
   clean_wf
   refine ⟨V.ref eB,rfl,eB,fT K mg,rfl,(by simp),?_⟩
   clean_wf
   refine ⟨p,ev,rfl,H0,rp,hand,w',q,cd,r,N,e,R.same sA,W.same sA,he.up (.same sA),c0,nN,fun A1 s1=>?_⟩
   cases y:sW w' e with
   | true =>
    try simp only [y]
    clean_wf
    exact kk (some "row") _ (by simp [bJ,c0,c1,y]) (sA.trans s1)
   | false =>
    try simp only [y]
    clean_wf
    exact ⟨sA.trans s1,⟨_,_,rfl⟩,(fun _=>c0),(fun _=>c1),(fun _=>by first | exact y | trivial),(fun z=>absurd z (by omega)),(fun z=>absurd z (by omega)),(fun z=>absurd z (by omega)),(fun z=>absurd z (by omega)),(fun z=>absurd z (by omega))⟩
  ·obtain rfl:V.ref a3=x:=Option.some.inj hx
   have st:=l3 A
   have c0:=b0 (by omega)
   have c1:=b1 (by omega)
   have c2:=b2 (by omega)
   clean_wf
   refine ⟨V.ref cO,rfl,cO,d9 K mg,rfl,(by simp),?_⟩
   clean_wf
   refine ⟨p,ev,rfl,H0,rp,hand,w',q,cd,r,N,e,R.same sA,W.same sA,he.up (.same sA),c0,nN,fun A1 s1=>?_⟩
   cases y:qW w' e with
   | true =>
    try simp only [y]
    clean_wf
    exact kk (some "causes") _ (by simp [bJ,c0,c1,c2,y]) (sA.trans s1)
   | false =>
    try simp only [y]
    clean_wf
    exact ⟨sA.trans s1,⟨_,_,rfl⟩,(fun _=>c0),(fun _=>c1),(fun _=>c2),(fun _=>by first | exact y | trivial),(fun z=>absurd z (by omega)),(fun z=>absurd z (by omega)),(fun z=>absurd z (by omega)),(fun z=>absurd z (by omega))⟩
  ·obtain rfl:V.ref a4=x:=Option.some.inj hx
   have st:=l4 A
   have c0:=b0 (by omega)
   have c1:=b1 (by omega)
   have c2:=b2 (by omega)
   have c3:=b3 (by omega)
   clean_wf
   refine ⟨V.ref du,rfl,du,eU K mg,rfl,(by simp),?_⟩
   clean_wf
   refine ⟨p,ev,rfl,H0,rp,hand,w',q,cd,r,N,e,R.same sA,W.same sA,he.up (.same sA),c0,nN,fun A1 s1=>?_⟩
   cases y:qM r e with
   | true =>
    try simp only [y]
    clean_wf
    exact kk (some "lists") _ (by simp [bJ,c0,c1,c2,c3,y]) (sA.trans s1)
   | false =>
    try simp only [y]
    clean_wf
    exact ⟨sA.trans s1,⟨_,_,rfl⟩,(fun _=>c0),(fun _=>c1),(fun _=>c2),(fun _=>c3),(fun _=>by first | exact y | trivial),(fun z=>absurd z (by omega)),(fun z=>absurd z (by omega)),(fun z=>absurd z (by omega))⟩
  ·obtain rfl:V.ref a5=x:=Option.some.inj hx
   have st:=l5 A
   have c0:=b0 (by omega)
   have c1:=b1 (by omega)
   have c2:=b2 (by omega)
   have c3:=b3 (by omega)
   have c4:=b4 (by omega)
   clean_wf
   refine ⟨V.ref dq,rfl,dq,eQ K mg,rfl,(by simp),?_⟩
   clean_wf
   refine ⟨p,ev,rfl,H0,rp,hand,w',q,cd,r,N,e,R.same sA,W.same sA,he.up (.same sA),c0,nN,fun A1 s1=>?_⟩
   cases y:qP r e with
   | true =>
    try simp only [y]
    clean_wf
    exact kk (some "calls") _ (by simp [bJ,c0,c1,c2,c3,c4,y]) (sA.trans s1)
   | false =>
    try simp only [y]
    clean_wf
    exact ⟨sA.trans s1,⟨_,_,rfl⟩,(fun _=>c0),(fun _=>c1),(fun _=>c2),(fun _=>c3),(fun _=>c4),(fun _=>by first | exact y | trivial),(fun z=>absurd z (by omega)),(fun z=>absurd z (by omega))⟩
  ·obtain rfl:V.ref a6=x:=Option.some.inj hx
   have st:=l6 A
   have c0:=b0 (by omega)
   have c1:=b1 (by omega)
   have c2:=b2 (by omega)
   have c3:=b3 (by omega)
   have c4:=b4 (by omega)
   have c5:=b5 (by omega)
   clean_wf
   refine ⟨V.ref ef,rfl,ef,fQ K mg,rfl,(by simp),?_⟩
   clean_wf
   refine ⟨p,ev,rfl,H0,rp,hand,w',q,cd,r,N,e,R.same sA,W.same sA,he.up (.same sA),c0,nN,fun A1 s1=>?_⟩
   cases y:jy w' r e with
   | true =>
    try simp only [y]
    clean_wf
    exact kk (some "one") _ (by simp [bJ,c0,c1,c2,c3,c4,c5,y]) (sA.trans s1)
   | false =>
    try simp only [y]
    clean_wf
    exact ⟨sA.trans s1,⟨_,_,rfl⟩,(fun _=>c0),(fun _=>c1),(fun _=>c2),(fun _=>c3),(fun _=>c4),(fun _=>c5),(fun _=>by first | exact y | trivial),(fun z=>absurd z (by omega))⟩
  ·obtain rfl:V.ref a7=x:=Option.some.inj hx
   have st:=l7 A
   have c0:=b0 (by omega)
   have c1:=b1 (by omega)
   have c2:=b2 (by omega)
   have c3:=b3 (by omega)
   have c4:=b4 (by omega)
   have c5:=b5 (by omega)
   have c6:=b6 (by omega)
   clean_wf
   refine ⟨V.ref cx,rfl,cx,dD K mg,rfl,(by simp),?_⟩
   clean_wf
   refine ⟨p,ev,rfl,H0,rp,hand,w',q,cd,r,N,e,R.same sA,W.same sA,he.up (.same sA),c0,nN,fun A1 s1=>?_⟩
   cases y:mD w' r e with
   | true =>
    try simp only [y]
    clean_wf
    exact kk (some "together") _ (by simp [bJ,c0,c1,c2,c3,c4,c5,c6,y]) (sA.trans s1)
   | false =>
    try simp only [y]
    clean_wf
    exact ⟨sA.trans s1,⟨_,_,rfl⟩,(fun _=>c0),(fun _=>c1),(fun _=>c2),(fun _=>c3),(fun _=>c4),(fun _=>c5),(fun _=>c6),(fun _=>by first | exact y | trivial)⟩
 rintro σ A ⟨sA,⟨u,v,rfl⟩,b0,b1,b2,b3,b4,b5,b6,b7⟩
 have c0:=b0 (by show 0 < 8; omega)
 have c1:=b1 (by show 1 < 8; omega)
 have c2:=b2 (by show 2 < 8; omega)
 have c3:=b3 (by show 3 < 8; omega)
 have c4:=b4 (by show 4 < 8; omega)
 have c5:=b5 (by show 5 < 8; omega)
 have c6:=b6 (by show 6 < 8; omega)
 have c7:=b7 (by show 7 < 8; omega)
 clean_wf
 exact kk none _ (by simp [bJ,c0,c1,c2,c3,c4,c5,c6,c7]) sA
end
end K81
namespace K81
open PySem L2
abbrev ux:Stmt:=i7 21
section
variable {P:Program} {w:World} {K:PySem.W.Frag} {mg:Str->Option Value} {base:Heap}
def sY (H:Hp) (v:V) (h:Int×List Ev):Prop:=∃ t l evs,v=.ref t/\H t=some (.tup [.int h.1,.ref l])/\H l=some (.lst evs)/\Paired (hJ H) evs h.2
theorem sY.same {H H':Hp} {v:V} {h:Int×List Ev} (x:sY H v h) (s:aE H H'):sY H' v h:=by
 obtain ⟨t,l,evs,e1,e2,e3,e4⟩:=x
 exact ⟨t,l,evs,e1,s _ _ e2,s _ _ e3,Paired.mapP e4 fun _ _ y=>y.up (.same s)⟩
def xt (ts:List (Int×List Ev)):Nat:=(ts.map fun t=>t.2.length).sum
theorem bH {α β:Type} {R:α->β->Prop}:∀ {xs:List α} {ys:List β} {i:Nat} {x:α},Paired R xs ys->xs[i]?=some x->∃ y,ys[i]?=some y/\R x y
 | _,_,_,_,.nil,e=>by simp at e
 | _,_,0,_,.cons r _,e=>by simp at e; subst e; exact ⟨_,rfl,r⟩
 | _,_,i + 1,y,.cons _ t,e=>by
  obtain ⟨x,h1,h2⟩:=bH (i:=i) t (by simpa using e)
  exact ⟨x,by simpa using h1,h2⟩
theorem Gv {ts:List (Int×List Ev)} {i:Nat} {t:Int×List Ev} (h:ts[i]?=some t):xt (ts.take (i + 1))=xt (ts.take i) + t.2.length:=by
 unfold xt
 rw [bx h,List.map_append,List.sum_append]
 simp
theorem Gw (ts:List (Int×List Ev)) (i:Nat):xt (ts.take i)<=xt ts:=by
 have e:xt ts=xt (ts.take i) + xt (ts.drop i):=by
  unfold xt
  rw [← List.sum_append,← List.map_append,List.take_append_drop]
 omega
theorem CH {ta:TA} {σ:St} {H:Hp} {R:It->Hp->Prop} (h:ta σ H fun vs H1=>∃ a xs,vs=[.ref a]/\bb K H1 a xs/\R (GW K a) H1):Ef K ta σ H R:=h
def k6 (H:Hp) (v:V):Option (Str×Int×Nat)->Prop
 | none=>v=.non
 | some o=>∃ t,v=.ref t/\H t=some (.tup [.str o.1,.int o.2.1,.int o.2.2])
theorem qD {hand:Int} {w:Wk} {r:Rc} {e:Ev} {es:List Ev} {i:Nat}:dQ hand w r (e :: es) i=match bJ hand w r e with
  | some s=>(some (s,i),r)
  | none=>dQ hand (GQ w e) (qX w r e) es (i + 1):=rfl
theorem Ah (s:Str):decide (oS (some s)=V.non)=false:=decide_eq_false (by intro z; cases z)
def rA (K:PySem.W.Frag):Sp:=fun vs H Q _=>∃ (a:Addr),vs=[.ref a]/\∃ xs ts,bb K H a xs/\Paired (sY H) xs ts/\(∀ t∈ts,0<=t.1/\t.1 < 63)/\xt ts<=200/\∀ H' v,aE H H'->k6 H' v (fy r0 ts)->Q v H'
theorem gy:aW ["told","record","hand","events","walk","place","event","rule"] ["told"] (aF ux):=⟨rfl,rfl,rfl,by decide +kernel,rfl,by decide +kernel,by decide +kernel⟩
theorem AF {f iU jY kP kF bg aL:Addr} {fd iE jg jQ jZ:FuncData} (F:cM K "fault" "fault" ux f fd)
  (nA:aT P w K mg base cy 3 iU iE ["self"] (iC K)) (nj:Binds K iE ["self"] [])
  (qb:aT P w K mg base cy 3 jY jg ["self","hand","record"] (jk K)) (pZ:Binds K jg ["self","hand","record"] [])
  (qT:aT P w K mg base cy 4 kP jQ ["self","event"] (jS K mg)) (qS:Binds K jQ ["self","event"] [])
  (qK:aT P w K mg base cy 4 kF jZ ["walk","event"] (jU K mg)) (rK:dP K mg "first_broken" kF jZ ["walk","event"]) (xc:mg "enumerate"=none) (bF:fN K bg) (aY:gS K aL) (bo:mg "Record"=some (.ref bg)) (aX:mg "Walk"=some (.ref aL)) (rY:Mk K bg iU) (yE:Mk K aL jY) (gM:jC K aL "go_over" kP):aT P w K mg base cy 5 f fd ["told"] (rA K):=by
 refine F.ok gy (fun vs H Q E h=>?_) (fun cdv A outer s H vs Q E hr h=>?_)
 ·obtain ⟨a,rfl,_⟩:=h
  rfl
 obtain ⟨a,rfl,h⟩:=h
 have hu64:=hr.units
 have hu0:=hr.units0
 have hu:=bS hr
 refine ⟨_,(af (aC (i:=1) gy.nd rfl (Or.inl rfl) (AO rY nA hr rfl bo nj .nil sr))
   (af (cA PassesOwn.never rfl (bz (K:=K) rfl (pv 0)) (cY (K:=K) (n:=2) rfl rfl (aS (aB (i:=2) gy.nd rfl (Or.inl rfl)) (aS (aB (i:=3) gy.nd rfl (Or.inl rfl)) cX)))
   (af (aC (i:=4) gy.nd rfl (Or.inl rfl) (CS yE qb hr rfl aX pZ .nil sr (ae (pv 2) (ae (pv 1) aj))))
   (ai (cA PassesOwn.never rfl (DH rfl xc (ae (pv 3) aj)) (cY (K:=K) (n:=2) rfl rfl (aS (aB (i:=5) gy.nd rfl (Or.inl rfl)) (aS (aB (i:=6) gy.nd rfl (Or.inl rfl)) cX)))
   (af (aC (i:=7) gy.nd rfl (Or.inl rfl) (bI qK rK hr (ae (pv 4) (ae (pv 6) aj))))
   (af (a8 (aA kX (pv 7) dy (ax _)) (ai (aK (cc (ae (pv 7) (ae (pv 2) (ae (pv 5) aj)))))) aJ)
   (ai (bU (gI (mY.cons aY.cl gM qT qS mY.nil) (pv 4) hr (ae (pv 6) aj))))))))))
   (ai (aK dy)))),?_⟩
 obtain ⟨xs,ts,ha,hx,hts,hn,kk⟩:=h
 clean_wf
 intro rp dx H1 hrp0 s1 g1
 refine ⟨rp,rfl,bg,dx,bF,g1,fun H2 d1 d2 d3 d4 k1 z1 z2 z3 z4 n13 n14 n34 y1 y2 y3 y4 yp=>⟨rfl,?_⟩⟩
 have s2:aE H H2:=fun b o e=>k1 b o (s1 _ _ e) (fun z=>by rw [z,hrp0] at e; cases e)
 have R0:fO K mg H H2 rp r0 0 ⟨d1,d2,d3,d4,[],[],[],[]⟩ :=
  ⟨⟨bg,dx,bo,yp⟩,y1,y2,y3,y4,Nat.le_refl _,Nat.le_refl _,Nat.le_refl _,Nat.le_refl _,fun _=>True.intro,fun _=>True.intro,fun _=>True.intro,fun _=>True.intro,hrp0,s1.free z1,s1.free z2,s1.free z3,s1.free z4,n13,n14,n34,s2,List.nodup_nil,List.nodup_nil,List.nodup_nil⟩
 have ha2:=s2.seq ha
 clean_wf
 refine bZ (K:=K) (a:=a) (xs:=xs) (fun i σ A=>∃ u2 u3 u4 u5 u6 u7,σ=[some (.ref a),some (.ref rp),u2,u3,u4,u5,u6,u7]/\∃ r N q,fO K mg H A rp r N q/\N<=2 * xt (ts.take i)/\fy r0 ts=fy r (ts.drop i)) ⟨none,none,none,none,none,none,rfl,r0,0,_,R0,Nat.zero_le _,rfl⟩ (fun i σ A _ ⟨_,_,_,_,_,_,_,_,_,_,R,_⟩=>R.sm.seq ha) ?_ ?_
 ·rintro i x σ A hxi ⟨u2,u3,u4,u5,u6,u7,rfl,r,N,q,R,nN,jj⟩
  obtain ⟨tt,hti,hsa⟩:=bH hx hxi
  have hrg:=hts tt (List.mem_of_getElem? hti)
  have til:=(List.getElem?_eq_some_iff.mp hti).1
  have edi:ts.drop i=tt :: ts.drop (i + 1):=by
   rw [List.drop_eq_getElem_cons til]
   rw [List.getElem?_eq_getElem til] at hti
   rw [Option.some.inj hti]
  rw [edi] at jj
  obtain ⟨t,l,evs,rfl,f1,f2,f3⟩:=hsa
  have lev:=Paired.length f3
  have nle:=Gv hti
  have nl2:=Gw ts (i + 1)
  have sA:=R.sm
  have st:=aZ.of (K:=K) (sA _ _ f1)
  clean_wf
  intro wp dx2 A1 hw0 s3 g3
  refine ⟨wp,tt.1,rp,rfl,aL,dx2,aY,g3,fun A2 cd k2 zc yc yw=>⟨rfl,?_⟩⟩
  have s4:aE A A2:=fun b o e=>k2 b o (s3 _ _ e) (fun z=>by rw [z,hw0] at e; cases e)
  have zc':=s3.free zc
  have frc:∀ {b:Addr} {o:HO},A b=some o->cd≠b:=fun e z=>by rw [← z,zc'] at e; cases e
  have W2:qv K mg H A2 wp rp tt.1 w0 q cd:=by
   refine ⟨⟨aL,dx2,aX,yw⟩,yc,Ck.nil,hrg.1,hrg.2,sA.free hw0,sA.free zc',frc R.e1,frc R.e3,frc R.e4,fun n v e z=>?_,fun z=>?_⟩
   ·have hr4:=R.r4 n
    rw [e,z] at hr4
    cases y:r.gc n with
    | none=>rw [y] at hr4; exact hr4.elim
    | some m =>
     rw [y] at hr4
     obtain ⟨b,eb,hb,_⟩:=hr4
     cases eb
     exact frc hb rfl
   ·obtain ⟨_,_,_,o2⟩:=R.ob
    rw [z,o2] at hw0
    cases hw0
  have R2:=R.same s4
  have sl2:=bb.of (K:=K) (R2.sm _ _ f2)
  clean_wf
  refine CH ?_
  clean_wf
  refine ⟨l,evs,rfl,sl2,?_⟩
  refine BS (K:=K) (a:=l) (xs:=evs) (fun j σ B=>∃ u5 u6 u7,σ=[some (.ref a),some (.ref rp),some (.int tt.1),some (.ref l),some (.ref wp),u5,u6,u7]/\∃ r' N q cd w,fO K mg H B rp r' N q/\qv K mg H B wp rp tt.1 w q cd/\dQ tt.1 w0 r tt.2 0=dQ tt.1 w r' (tt.2.drop j) j/\N<=2 * (xt (ts.take i) + j)) ⟨u5,u6,u7,rfl,r,N,q,cd,w0,R2,W2,rfl,by omega⟩ (fun j σ B _ ⟨_,_,_,_,_,_,_,_,_,R,_⟩=>bb.of (R.sm _ _ f2)) ?_ ?_
  ·rintro j x' t' σ B hxj ht' ⟨v5,v6,v7,rfl,r',N',q',cd',w',R',W',jh,nN'⟩
   obtain ⟨e,hej,hev⟩:=bH f3 hxj
   have jl:=(List.getElem?_eq_some_iff.mp hej).1
   have ed:tt.2.drop j=e :: tt.2.drop (j + 1):=by
    rw [List.drop_eq_getElem_cons jl]
    rw [List.getElem?_eq_getElem jl] at hej
    rw [Option.some.inj hej]
   rw [ed,qD] at jh
   have sb:=aN (o:=.tup [.int j,x']) ht'
   have gt:(upd B t' (.tup [.int j,x'])) t'=some (.tup [.int j,x']):=au
   generalize upd B t' (.tup [.int j,x'])=B1 at sb gt ⊢
   have st':=aZ.of (K:=K) gt
   have R1:=R'.same sb
   have W1:=W'.same sb
   clean_wf
   refine ⟨wp,x',rfl,H,rp,tt.1,w',q',cd',r',N',e,R1,W1,hev.up (.same R1.sm),by omega,fun B2 sB2=>?_⟩
   have R3:=R1.same sB2
   have W3:=W1.same sB2
   obtain ⟨Cw,dxw,eCw,hpw⟩:=W3.ob
   rw [aX] at eCw
   cases eCw
   cases fb:bJ tt.1 w' r' e with
   | some s =>
    rw [fb] at jh
    refine cK ?_
    clean_wf
    rw [show decide (oS (some s)=V.non)=false from Ah s]
    clean_wf
    intro o B3 ho s3' g3'
    clean_wf
    refine kk B3 (.ref o) (R3.sm.trans s3') ?_
    rw [jj]
    unfold fy
    rw [jh]
    exact ⟨o,rfl,g3'⟩
   | none =>
    rw [fb] at jh
    have nb:=(iK fb).1
    refine cK ?_
    clean_wf
    rw [show decide (oS none=V.non)=true from hX]
    clean_wf
    refine ⟨wp,x',rfl,H,rp,tt.1,w',q',cd',r',N',e,R3,W3,hev.up (.same R3.sm),nb,by omega,fun B3 q4 cd4 R4 W4=>?_⟩
    clean_wf
    exact ⟨_,_,_,rfl,_,N' + 2,q4,cd4,_,R4,W4,jh,by omega⟩
  ·rintro σ B ⟨v5,v6,v7,rfl,r',N',q',cd',w',R',W',jh,nN'⟩
   rw [List.drop_of_length_le (by omega)] at jh
   refine ⟨_,_,_,_,_,_,rfl,r',N',q',R',by omega,?_⟩
   rw [jj]
   show (match dQ tt.1 w0 r tt.2 0 with
    | (some q,_)=>some (q.1,tt.1,q.2)
    | (none,r')=>fy r' (ts.drop (i + 1)))=_
   rw [jh]
   rfl
 rintro σ A ⟨u2,u3,u4,u5,u6,u7,rfl,r,N,q,R,nN,jj⟩
 rw [List.drop_of_length_le (by have:=Paired.length hx; omega)] at jj
 clean_wf
 exact kk A .non R.sm (by rw [jj]; rfl)
end
end K81
namespace K81
open PySem L2
abbrev kb:Stmt:=i7 23
abbrev jt:Stmt:=i7 24
section
variable {P:Program} {w:World} {K:PySem.W.Frag} {mg:Str->Option Value} {base:Heap}
theorem qA {H:Hp}:∀ ns:List Int,vn K H (ns.map V.int) (ns.map PyData.int)
 | []=>.nil
 | _ :: ns=>.cons (.int _) (qA ns)
theorem ra:∀ ns:List Int,PyData.canLayAll0 (ns.map PyData.int)=true
 | []=>rfl
 | _ :: ns=>by rw [List.map_cons,PyData.canLayAll0.eq_2,ra ns]; rfl
theorem AG {H:Hp} {Q:VK} {a b:Addr} {ns:List Int} (ha:bb K H a (ns.map V.int)) (hb:bb K H b []) (q:Q (.bl (decide (ns=[]))) H):F6 K (.ref a) (.ref b) H Q:=by
 refine ⟨.list (ns.map PyData.int),.list [],.inr ⟨_,_,_,rfl,rfl,ha,qA ns⟩,.inr ⟨_,_,_,rfl,rfl,hb,.nil⟩,by rw [PyData.canLay0.eq_5]; exact ra ns,rfl,by have:(PyData.list []).depth=1:=rfl; omega,?_⟩
 have e:(PyData.list (ns.map PyData.int)).eqv (.list [])=decide (ns=[]):=by
  cases ns with
  | nil=>rfl
  | cons d ds=>rw [decide_eq_false (by intro z; cases z)]; rfl
 rw [e]
 exact q
theorem lit {c m:Int} (h:0 < m):0<=c % m/\c % m < m:=⟨Int.emod_nonneg _ (by omega),Int.emod_lt_of_pos _ h⟩
theorem FQ {c m:Int} (h:0 < m) (h2:m<=1099511627776):0<=c % m/\c % m < 1099511627776:=⟨(lit h).1,by have:=(lit (c:=c) h).2; omega⟩
def hG (K:PySem.W.Frag):Sp:=fun vs H Q _=>∃ (a:Addr) (k:Int),vs=[.ref a,.int k]/\∃ ns:List Int,bb K H a (ns.map V.int)/\0<=k/\k<=1000/\ns.length<=1000/\∀ (c:Int) H',(0<=c/\c < 1099511627776)->aE H H'->Q (.int c) H'
theorem fu:aW ["_law_script","_law_k","_law_cell","_law_number"] ["_law_script","_law_k"] (aF kb):=⟨rfl,rfl,rfl,by decide +kernel,rfl,by decide +kernel,by decide +kernel⟩
theorem t9 {f :Addr} {fd :FuncData} (F:cM K "_law_pick" "_law_pick" kb f fd) (dE:mg "len"=none):aT P w K mg base cy 1 f fd ["_law_script","_law_k"] (hG K):=by
 refine F.ok fu (fun vs H Q E h=>?_) (fun cdv A outer s H vs Q E hr h=>?_)
 ·obtain ⟨a,k,rfl,_⟩:=h
  rfl
 obtain ⟨a,k,rfl,h⟩:=h
 have hu64:=hr.units
 have hu0:=hr.units0
 have hu:=bS hr
 refine ⟨_,(af (a8 (aA (Fm (K:=K) rfl hu64) (pv 0) (bX aj) (ax _)) (ai (aK (aq br (aq gL (pv 1) (pv 1)) aa))) aJ)
   (af (a8 (aA bw (aq br (aw (aM (K:=K) rfl) (pv 0) aa (fun _ _=>rfl)) aa) aa (ax _)) (af (aC (i:=2) fu.nd rfl (Or.inl rfl) aa)
   (af (a8 (aA y7 (aq bu aa (aq bM (pv 1) aa)) (bj (bQ (K:=K) rfl) (by rfl) dE PySem.boot_len (ae (pv 0) aj)) (ax _)) (ai (aC (i:=2) fu.nd rfl (Or.inl rfl) (aw (aM (K:=K) rfl) (pv 0) (aq bu aa (aq bM (pv 1) aa)) (fun _ _=>rfl)))) aJ)
   (ai (aK (aq br (aq kI (pv 2) (aq gL aa (aq br (pv 1) aa))) (aq xZ aa aa)))))) aJ)
   (af (aC (i:=3) fu.nd rfl (Or.inl rfl) (aq br (aq gL (aq bu (aq bu (aw (aM (K:=K) rfl) (pv 0) (aq br (pv 1) (bj (bQ (K:=K) rfl) (by rfl) dE PySem.boot_len (ae (pv 0) aj))) (fun _ _=>rfl)) (aq gL aa (pv 1))) aa) aa) aa))
   (af (aC (i:=3) fu.nd rfl (Or.inl rfl) (aq br (aq gL (pv 3) (aq bu (aq bM (pv 3) aa) aa)) aa))
   (ai (aK (aq br (aq gL (pv 3) (aq bu (aq bM (pv 3) aa) aa)) aa))))))),?_⟩
 obtain ⟨ns,hS,h0,h1,hl,q⟩:=h
 refine cK ?_
 clean_wf
 intro l H1 hl1 s1 g1
 have hS1:=s1.seq hS
 refine AG hS1 (bb.of g1) ?_
 clean_wf
 refine dN (fun c=>?_) fun c=>?_
 ·clean_wf
  refine ⟨_,_,rfl,rfl,.inl ⟨by omega,by omega⟩,?_⟩
  clean_wf
  exact q _ _ (FQ (by decide) (by decide)) s1
 have c:ns≠[]:=fun z=>c (decide_eq_true z)
 have ln:0 < ns.length:=List.length_pos_iff.mpr c
 have hat:∀ k:Int,0<=k->k < ns.length->∃ z,jG (ns.map V.int) k=some (V.int z):=fun k k0 k1=>⟨ns[k.toNat]'(by omega),uS k0 (by rw [List.getElem?_map,List.getElem?_eq_getElem (by omega)]; rfl)⟩
 obtain ⟨z0,a0⟩:=hat 0 (by omega) (by omega)
 clean_wf
 refine cK ?_
 clean_wf
 refine dN (fun c2=>?_) fun c2=>?_
 ·refine cK ?_
  clean_wf
  dsimp only
  refine bD (fun σ' H'=>H1=H'/\∃ z:Int,σ'=[some (.ref a),some (.int k),some (.int z),none]) ?_ fun N rest=>?_
  rotate_left
  ·clean_wf
   refine dN (fun c3=>?_) fun c3=>?_
   ·have c3:=of_decide_eq_true c3
    rw [List.length_map] at c3
    obtain ⟨z,az⟩:=hat (1 + k / 25) (by omega) (by omega)
    clean_wf
    exact rest _ _ ⟨rfl,z,rfl⟩
   ·clean_wf
    exact rest _ _ ⟨rfl,0,rfl⟩
  rintro σ' _ ⟨rfl,z,rfl⟩
  clean_wf
  refine ⟨_,_,rfl,rfl,.inl ⟨by decide,by decide⟩,?_⟩
  clean_wf
  exact q _ _ (FQ (by decide) (by decide)) s1
 ·clean_wf
  refine ⟨_,_,rfl,rfl,(by show (0:Int) < ((ns.map V.int).length:Nat); rw [List.length_map]; omega),?_⟩
  have ll:=lit (c:=k) (m:=((ns.map V.int).length:Nat)) (by rw [List.length_map]; omega)
  obtain ⟨z,az⟩:=hat (k % ((ns.map V.int).length:Nat)) ll.1 (by have:=ll.2; rw [List.length_map] at this ⊢; omega)
  clean_wf
  refine ⟨_,_,rfl,rfl,.inl ⟨by decide,by decide⟩,?_⟩
  clean_wf
  refine ⟨_,_,rfl,rfl,.inr ⟨by decide,by decide⟩,?_⟩
  clean_wf
  have m1:=lit (c:=(z + 7919 * k + 1) * 48271) (m:=2147483647) (by decide)
  generalize (z + 7919 * k + 1) * 48271 % 2147483647=u at m1 ⊢
  refine ⟨_,_,rfl,rfl,.inl ⟨by omega,by omega⟩,?_⟩
  clean_wf
  have m2:=lit (c:=u * (u / 1009 + 69621)) (m:=2147483647) (by decide)
  generalize u * (u / 1009 + 69621) % 2147483647=v at m2 ⊢
  refine ⟨_,_,rfl,rfl,.inl ⟨by omega,by omega⟩,?_⟩
  clean_wf
  exact q _ _ (FQ (by decide) (by decide)) s1
structure IT (hs:List Int):Prop where
 ln:hs.length=3
 nd:hs.Nodup
 rg:∀ h∈hs,0<=h/\h < 63
def lE (K:PySem.W.Frag):Sp:=fun vs H Q _=>∃ (c:Int),vs=[.int c]/\0<=c/\∀ H' l hs,aE H H'->H l=none->H' l=some (.lst (hs.map V.int))->IT hs->Q (.ref l) H'
theorem cV:aW ["_law_cell","_law_hands_here","_law_low","_law_k","_law_room"] ["_law_cell"] (aF jt):=⟨rfl,rfl,rfl,by decide +kernel,rfl,by decide +kernel,by decide +kernel⟩
theorem sN {f :Addr} {fd :FuncData} (F:cM K "_law_hands" "_law_hands" jt f fd) (dR:mg "range"=none):aT P w K mg base cy 1 f fd ["_law_cell"] (lE K):=by
 refine F.ok cV (fun vs H Q E h=>?_) (fun cdv A outer s H vs Q E hr h=>?_)
 ·obtain ⟨c,rfl,_⟩:=h
  rfl
 obtain ⟨c,rfl,h⟩:=h
 have hu64:=hr.units
 have hu0:=hr.units0
 have hu:=bS hr
 refine ⟨_,(af (aC (i:=1) cV.nd rfl (Or.inl rfl) (bX aj))
   (af (aC (i:=2) cV.nd rfl (Or.inl rfl) aa)
   (af (cA PassesOwn.never rfl (eE rfl dR (ae aa aj)) (aB (i:=3) cV.nd rfl (Or.inl rfl))
   (af (aC (i:=4) cV.nd rfl (Or.inl rfl) (aq oB (aq bu aa (pv 3)) (pv 2)))
   (af (bU (cB (K:=K) rfl (eG PySem.F.plainAttrs_list PySem.F.slot_list_append PySem.F.type_list_append cu (pv 1) (ae (aq bu (pv 2) (aq br (pv 0) (pv 4))) aj))))
   (af (aC (i:=0) cV.nd rfl (Or.inl rfl) (aq Cc (pv 0) (pv 4)))
   (ai (aC (i:=2) cV.nd rfl (Or.inl rfl) (aq bu (aw (aM (K:=K) rfl) (pv 1) (eN c9 aa) (fun _ _=>rfl)) aa)))))))
   (ai (aK (pv 1)))))),?_⟩
 obtain ⟨c0,kk⟩:=h
 clean_wf
 intro l H1 hl s1 g1
 clean_wf
 refine ⟨_,rfl,by omega,by omega,?_⟩
 refine hU (fun i σ A=>∃ (c low:Int) (hs:List Int) (v3 v4:Option V),σ=[some (.int c),some (.ref l),some (.int low),v3,v4]/\aE H A/\A l=some (.lst (hs.map V.int))/\hs.length=i/\hs.Nodup/\(∀ h∈hs,0<=h/\h < low)/\0<=low/\low<=60 + i/\0<=c) ⟨c,0,[],none,none,rfl,s1,g1,rfl,List.nodup_nil,(fun _ z=>nomatch z),by omega,by omega,c0⟩ ?_ ?_
 ·rintro i σ A hi ⟨c,low,hs,v3,v4,rfl,sA,gA,lh,nd,rg,l0,l1,c0⟩
  clean_wf
  have rm:(0:Int) < 61 + (0 + i) - low:=by omega
  have ml:=lit (c:=c) rm
  refine qO gA (aD (by rw [List.length_map]; omega)) fun A2 bA gA2=>?_
  generalize hq:low + c % (61 + (0 + (i:Int)) - low)=hn at gA2 ⊢
  have gA3:A2 l=some (.lst ((hs ++ [hn]).map V.int)):=by rw [gA2,List.map_append]; rfl
  have sl:=bb.of (K:=K) gA3
  have al:jG ((hs ++ [hn]).map V.int) (-1)=some (.int hn):=by
   unfold jG
   have e1:yA ((hs ++ [hn]).map V.int).length (-1)=some hs.length:=by
    rw [List.length_map,List.length_append]
    unfold yA
    rw [if_neg (by decide)]
    simp
    omega
   rw [e1]
   simp
  clean_wf
  refine ⟨_,_,rfl,rfl,⟨rm,by omega⟩,?_⟩
  clean_wf
  refine ⟨c / (61 + (0 + i) - low),hn + 1,hs ++ [hn],_,_,rfl,bA.same sA hl,gA3,by rw [List.length_append,lh]; rfl,?_,?_,by omega,by omega,Int.ediv_nonneg c0 (by omega)⟩
  ·rw [List.nodup_append]
   refine ⟨nd,by simp,fun x hx y hy e=>?_⟩
   rw [List.mem_singleton.mp hy] at e
   have:=rg x hx
   omega
  ·intro h hh
   rcases List.mem_append.mp hh with z | z
   ·have:=rg h z; omega
   ·rw [List.mem_singleton.mp z]; omega
 rintro σ A ⟨c,low,hs,v3,v4,rfl,sA,gA,lh,nd,rg,l0,l1,c0⟩
 clean_wf
 exact kk A l hs sA hl gA ⟨lh,nd,fun h hh=>by have:=rg h hh; omega⟩
end
end K81
namespace K81
open PySem L2
abbrev jE:Stmt:=i7 25
section
variable {P:Program} {w:World} {K:PySem.W.Frag} {mg:Str->Option Value} {base:Heap}
theorem qx {v n:Int} (v0:0<=v) (n0:0<=n):Builtin.bitAnd v n=((v.toNat &&& n.toNat:Nat):Int):=by
 unfold Builtin.bitAnd
 rw [decide_eq_true v0,decide_eq_true n0]
theorem DA {m:Int} (m0:0<=m) (i:Nat):decide (Builtin.bitAnd (m / 2 ^ (0 + (i:Int)).toNat) 1=1)=m.toNat.testBit i:=by
 obtain ⟨k,rfl⟩:=Int.eq_ofNat_of_zero_le m0
 rw [show (0 + (i:Int)).toNat=i by omega]
 have e:((k:Int) / 2 ^ i)=((k / 2 ^ i:Nat):Int):=by
  rw [Int.natCast_ediv]
  simp
 rw [e,qx (Int.natCast_nonneg _) (by decide),Int.toNat_natCast,Int.toNat_natCast,show Int.toNat 1=1 from rfl,Nat.and_one_is_mod,Nat.testBit_eq_decide_div_mod_eq]
 by_cases z:k / 2 ^ i % 2=1
 ·rw [decide_eq_true z,decide_eq_true (by omega)]
 ·rw [decide_eq_false z,decide_eq_false (by omega)]
def bt (m:Int) (k:Nat):Bool:=m.toNat.testBit k
theorem G6 {P:Int->Prop} (h:∀ i:Fin 16,P (i.val:Int)) {m:Int} (m0:0<=m) (m1:m < 16):P m:=by
 have:=h ⟨m.toNat,by omega⟩
 rwa [show ((⟨m.toNat,by omega⟩:Fin 16).val:Int)=m by simp; omega] at this
def Br (H:Hp) (v:V) (x:j2):Prop:=∃ t nv cv,v=.ref t/\H t=some (.tup [nv,.str x.kd,.int x.wd,cv])/\pP H nv x.nm/\Cu H cv x.cs
theorem Br.up {H H':Hp} (s:eW H H') {v:V} {x:j2} (h:Br H v x):Br H' v x:=by
 obtain ⟨t,nv,cv,e1,e2,e3,e4⟩:=h
 exact ⟨t,nv,cv,e1,s _ _ e2,e3.up s,e4.up s⟩
structure qo (m:List (Int×Int)):Prop where
 ck:Ck m
 le:∀ p∈m,1<=p.2
theorem qo.nil:qo []:=⟨Ck.nil,(fun _ z=>nomatch z)⟩
theorem qo.put {m:List (Int×Int)} (c:qo m) {k v:Int} (k0:0<=k) (k1:k < 63) (h:1<=v):qo (fJ m k v):=by
 refine ⟨c.ck.put k0 k1 (by omega),fun p hp=>?_⟩
 rcases nM _ _ _ _ hp with z | z
 ·rw [z]; exact h
 ·exact c.le p z
def Ae (S:List Int) (g:Int->Int):List (Int×Int):=S.map fun k=>(k,g k)
theorem Cp (S:List Int) (g:Int->Int):(Ae S g).map (·.1)=S:=by unfold Ae; rw [List.map_map]; exact List.map_id' _
theorem qo.of {m:List (Int×Int)} {S:List Int} (c:qo m) (pm:S.Perm (m.map (·.1))):qo (Ae S (ct m)):=by
 have at1:∀ p∈Ae S (ct m),∃ q∈m,q.1=p.1/\q.2=p.2:=fun p hp=>by
  unfold Ae at hp
  obtain ⟨k,hk,rfl⟩:=List.mem_map.mp hp
  obtain ⟨q,hq,e⟩:=List.mem_map.mp (pm.mem_iff.mp hk)
  refine ⟨q,hq,e,?_⟩
  show q.2=ct m k
  rw [← e]
  exact (AR c.ck.nd hq).symm
 refine ⟨⟨by rw [Cp]; exact pm.nodup_iff.mpr c.ck.nd,fun p hp=>?_,fun p hp=>?_⟩,fun p hp=>?_⟩
 all_goals obtain ⟨q,hq,e1,e2⟩:=at1 p hp
 ·rw [← e2]; exact c.ck.nn q hq
 ·rw [← e1]; exact c.ck.rg q hq
 ·rw [← e2]; exact c.le q hq
theorem F9 {m:Int} (m0:0 < m) (m1:m < 8):∃ k,k < 3/\bt m k=true:=by
 have h:(bt m 0 || bt m 1 || bt m 2)=true:=by
  refine G6 (P:=fun m=>0 < m->m < 8->(bt m 0 || bt m 1 || bt m 2)=true) (fun i=>?_) (by omega) (by omega) m0 m1
  revert i
  decide +kernel
 simp only [Bool.or_eq_true] at h
 rcases h with (h | h) | h
 ·exact ⟨0,by decide,h⟩
 ·exact ⟨1,by decide,h⟩
 ·exact ⟨2,by decide,h⟩
theorem vT (xs:List V) (k:Nat) (h:k<=xs.length):ja xs none (some (k:Int))=xs.take k:=by
 unfold ja
 have e1:HT.dF xs.length 0 none=0:=rfl
 have e2:HT.dF xs.length xs.length (some (k:Int))=k:=by
  show (if (k:Int) < 0 then ((k:Int) + (xs.length:Nat)).toNat else min (k:Int).toNat xs.length)=k
  rw [if_neg (by omega),Int.toNat_natCast]
  omega
 rw [e1,e2,List.drop_zero,Nat.sub_zero]
theorem Hz (j:Int) (k0:0<=j) (k1:j < 4):∃ kd,jG [V.str "own",V.str "heard",V.str "one",V.str "one"] j=some (V.str kd)/\(PyData.str kd).canLay0=true:=by
 rcases (by omega:j=0∨j=1∨j=2∨j=3) with rfl | rfl | rfl | rfl
 ·exact ⟨"own",rfl,by decide +kernel⟩
 ·exact ⟨"heard",rfl,by decide +kernel⟩
 ·exact ⟨"one",rfl,by decide +kernel⟩
 ·exact ⟨"one",rfl,by decide +kernel⟩
theorem eZ {α β:Type} {R:α->β->Prop}:∀ {xs:List α} {ys:List β} (k:Nat),Paired R xs ys->Paired R (xs.take k) (ys.take k)
 | _,_,0,_=>.nil
 | _,_,_ + 1,.nil=>.nil
 | _,_,k + 1,.cons r t=>.cons r (eZ k t)
def lO (K:PySem.W.Frag):Sp:=fun vs H Q _=>∃ (a b:Addr) (m n t:Int),vs=[.ref a,.ref b,.int m,.int n,.int t]/\∃ (ns hs:List Int),bb K H a (ns.map V.int)/\ns.length<=1000/\bb K H b (hs.map V.int)/\IT hs/\0 < m/\m < 8/\0<=t/\t<=900/\∀ H' l xs R,aE H H'->H l=none->H' l=some (.lst xs)->Paired (Br H') xs R->R.length<=5->(∀ x∈R,Wf x)->Q (.ref l) H'
theorem bO:aW ["_law_script","_law_hands_here","_law_mask","_law_number","_law_at","_law_members","_law_calls_here","_law_k","_law_cell","_law_caller","_law_kind","_law_counts_here","_law_name","_law_count","_law_causes"] ["_law_script","_law_hands_here","_law_mask","_law_number","_law_at"] (aF jE):=⟨rfl,rfl,rfl,by decide +kernel,rfl,by decide +kernel,by decide +kernel⟩
theorem sV {f dB:Addr} {fd cQ:FuncData} (F:cM K "_law_calls" "_law_calls" jE f fd)
  (cH:aT P w K mg base cy 1 dB cQ ["_law_script","_law_k"] (hG K)) (cF:dP K mg "_law_pick" dB cQ ["_law_script","_law_k"]) (dE:mg "len"=none) (qE:mg "max"=none) (dR:mg "range"=none) (rL:mg "sorted"=none) (mN:mg "tuple"=none):aT P w K mg base cy 2 f fd ["_law_script","_law_hands_here","_law_mask","_law_number","_law_at"] (lO K):=by
 refine F.ok bO (fun vs H Q E h=>?_) (fun cdv A outer s H vs Q E hr h=>?_)
 ·obtain ⟨a,b,m,n,t,rfl,_⟩:=h
  rfl
 obtain ⟨a,b,m,n,t,rfl,h⟩:=h
 have hu64:=hr.units
 have hu0:=hr.units0
 have hu:=bS hr
 refine ⟨_,(af (qu (i:=5) ["_law_hands_here","_law_mask","_law_k"] [some 1,some 2,none] bO.nd rfl (Or.inl rfl) rfl rfl (by kernel_rfl) (eE rfl dR (ae aa aj)) (fun _ _ _ _ _ nd=>aB (i:=2) nd rfl (Or.inl rfl)) (fun _ _ _ _ _=>(iO (aA bw (aq iY (aq kI (pv 1) (pv 2)) aa) aa (ax _)))) (fun _ _ _ _ _=>(aw (aM (K:=K) rfl) (pv 0) (pv 2) (fun _ _=>rfl))))
   (af (aC (i:=6) bO.nd rfl (Or.inl rfl) (bX aj))
   (af (cA PassesOwn.never rfl (eE rfl dR (ae (aq br (bI cH cF hr (ae (pv 0) (ae (pv 4) aj))) aa) aj)) (aB (i:=7) bO.nd rfl (Or.inl rfl))
   (af (aC (i:=8) bO.nd rfl (Or.inl rfl) (bI cH cF hr (ae (pv 0) (ae (aq bu (aq bu (pv 4) aa) (pv 7)) aj))))
   (af (aC (i:=9) bO.nd rfl (Or.inr rfl) (aw (aM (K:=K) rfl) (pv 5) (aq br (pv 8) (bj (bQ (K:=K) rfl) (by rfl) dE PySem.boot_len (ae (pv 5) aj))) (fun _ _=>rfl)))
   (af (aC (i:=10) bO.nd rfl (Or.inl rfl) (aw (aM (K:=K) rfl) (bX (ae aP (ae aP (ae aP (ae aP aj))))) (aq br (aq bM (pv 8) aa) aa) (fun _ _=>rfl)))
   (af (aC (i:=11) bO.nd rfl (Or.inr rfl) fi)
   (af (a8 (aA i6 (pv 10) aP (ax _)) (ai (cA PassesOwn.never rfl (bz (K:=K) rfl (gX ["_law_call"] [none] rfl rfl (by kernel_rfl) (bz (K:=K) rfl (cq (jf (K:=K) rfl) (pv 6) eS (bG (aq br (aq bM (pv 8) aa) (aq bu (pv 7) aa))))) (fun _ _ _ _ _ nd=>aB (i:=0) nd rfl (Or.inl rfl)) (fun _ _ _ _ _=>kU) (fun _ _ _ _ _=>(aw (ao (K:=K) rfl) (pv 0) aa (fun _ _=>rfl))))) (aB (i:=12) bO.nd rfl (Or.inl rfl))
   (ai (nG hu (pv 11) (aw (ao (K:=K) rfl) (pv 12) aa (fun _ _=>rfl)) (bj (jm rfl) (by rfl) qE PyProof.Rows.boot_max (ae aa (ae (aq oB (aw (ao (K:=K) rfl) (pv 12) aa (fun _ _=>rfl)) (aq bM (aq br (aq bM (pv 8) aa) aa) aa)) aj))) rfl)))) aJ)
   (af (aC (i:=13) bO.nd rfl (Or.inl rfl) (aq bu aa (bj (bQ (K:=K) rfl) (by rfl) dE PySem.boot_len (ae (gX ["_law_caller","_law_call"] [some 9,none] rfl rfl (by kernel_rfl) (bz (K:=K) rfl (pv 6)) (fun _ _ _ _ _ nd=>aB (i:=1) nd rfl (Or.inl rfl)) (fun _ _ _ _ _=>(iO (aA bw (aw (ao (K:=K) rfl) (aw (ao (K:=K) rfl) (pv 1) aa (fun _ _=>rfl)) aa (fun _ _=>rfl)) (pv 0) (ax _)))) (fun _ _ _ _ _=>(pv 1))) aj))))
   (af (aC (i:=14) bO.nd rfl (Or.inl rfl) (e8 (o5 (K:=K) rfl) (by rfl) mN PyProof.Rows.boot_tuple (ae (gX ["_law_counts_here","_law_hand"] [some 11,none] rfl rfl (by kernel_rfl) (bz (K:=K) rfl (bj (uO rfl) (by rfl) rL PyProof.Rows.boot_sorted (ae (pv 11) aj))) (fun _ _ _ _ _ nd=>aB (i:=1) nd rfl (Or.inl rfl)) (fun _ _ _ _ _=>kU) (fun _ _ _ _ _=>(cc (ae (pv 1) (ae (Du hu (pv 0) (pv 1) (fun _ _=>rfl)) aj))))) aj)))
   (ai (bU (cB (K:=K) rfl (eG PySem.F.plainAttrs_list PySem.F.slot_list_append PySem.F.type_list_append cu (pv 6) (ae (cc (ae (cc (ae (pv 3) (ae (pv 9) (ae (pv 13) aj)))) (ae (pv 10) (ae (aq oB (aq br (aq bM (aq gL (pv 8) (pv 8)) aa) (aq xZ aa aa)) aa) (ae (pv 14) aj))))) aj)))))))))))))
   (ai (aK (pv 6)))))),?_⟩
 obtain ⟨ns,hs,ha,la,hb,h4,m0,m1,t0,t1,kk⟩:=h
 have ln:=h4.ln
 clean_wf
 refine ⟨3,rfl,by decide,by decide,fun D hD=>?_⟩
 refine mG (fun i σ A=>∃ (v:Option V) (ms:List Int),σ=[some (.ref b),some (.int m),v]/\aE H A/\A D=some (.lst (ms.map V.int))/\ms.length<=i/\(∀ h∈ms,h∈hs)/\((∃ k,k < i/\bt m k=true)->ms≠[])) ⟨none,[],rfl,aN hD,au,Nat.le_refl _,(fun _ z=>nomatch z),fun z=>by obtain ⟨k,z,_⟩:=z; exact absurd z (Nat.not_lt_zero _)⟩ ?_ ?_
 ·rintro i σ A hi ⟨v,ms,rfl,sA,gD,lm,sb,ne⟩
  have hi4:i < 3:=hi
  have hbA:=sA.seq hb
  obtain ⟨h,hh⟩:∃ h,hs[i]?=some h:=⟨hs[i]'(by omega),List.getElem?_eq_getElem (by omega)⟩
  have ah:jG (hs.map V.int) (0 + (i:Int))=some (.int h):=by
   rw [Int.zero_add]; exact cR (by rw [List.getElem?_map,hh]; rfl)
  clean_wf
  rw [DA (by omega) i]
  refine dN (fun c=>?_) fun c=>?_
  ·clean_wf
   refine ⟨_,gD,aD (by rw [List.length_map]; omega),_,ms ++ [h],rfl,fun b o z=>?_,?_,?_,fun k hk=>?_,fun _ z=>?_⟩
   ·rw [aG (aI z hD)]
    exact sA b o z
   ·rw [au,List.map_append]; rfl
   ·rw [List.length_append]; exact Nat.succ_le_succ lm
   ·rcases List.mem_append.mp hk with z | z
    ·exact sb k z
    ·rw [List.mem_singleton.mp z]; exact List.mem_of_getElem? hh
   ·simp at z
  ·refine ⟨_,ms,rfl,sA,gD,by omega,sb,fun z=>ne ?_⟩
   obtain ⟨k,k1,k2⟩:=z
   refine ⟨k,?_,k2⟩
   by_cases e:k=i
   ·rw [e] at k2; exact absurd k2 c
   ·omega
 rintro σ A ⟨v,ms,rfl,sA,gD,lm,sb,ne⟩
 have lm:ms.length<=3:=lm
 have gD0:=gD
 have lmp:0 < ms.length:=List.length_pos_iff.mpr (ne (F9 m0 m1))
 clean_wf
 intro l B hl s1 g1
 have ha1:=(sA.trans s1).seq ha
 clean_wf
 refine ⟨a,_,rfl,ns,ha1,by omega,by omega,la,fun c0 B0 hc0 s2=>?_⟩
 have q6:=lit (c:=c0) (m:=6) (by decide)
 clean_wf
 refine ⟨_,rfl,by omega,by omega,?_⟩
 have hl0:H l=none:=sA.free hl
 have sm0:aE H B0:=sA.trans (s1.trans s2)
 refine hU (fun i σ A=>∃ (w7 w8 w9 w10 w11 w12 w13 w14:Option V) (xs:List V) (R:List j2),σ=[some (.ref a),some (.ref b),some (.int m),some (.int n),some (.int t),some (.ref D),some (.ref l),w7,w8,w9,w10,w11,w12,w13,w14]/\aE H A/\A D=some (.lst (ms.map V.int))/\A l=some (.lst xs)/\Paired (Br A) xs R/\R.length=i/\∀ x∈R,Wf x) ⟨none,none,none,none,none,none,none,none,[],[],rfl,sm0,s2 _ _ (s1 _ _ gD),s2 _ _ g1,.nil,rfl,(fun _ z=>nomatch z)⟩ ?_ ?_
 ·rintro i σ A hi ⟨w7,w8,w9,w10,w11,w12,w13,w14,xs,R,rfl,sA,gD,gl,hR,lR,kg⟩
  have hi6:i < 6:=by omega
  have haA:=sA.seq ha
  have lx:=Paired.length hR
  clean_wf
  refine ⟨a,_,rfl,ns,haA,by omega,by omega,la,fun c B hc sB=>?_⟩
  have gDB:=bb.of (K:=K) (sB _ _ gD)
  have glB:=sB _ _ gl
  have lq:=lit (c:=c) (m:=((ms.map V.int).length:Nat)) (by rw [List.length_map]; omega)
  obtain ⟨h,hh,ah⟩:∃ h,h∈ms/\jG (ms.map V.int) (c % ((ms.map V.int).length:Nat))=some (V.int h):=by
   have l1:=lq.1
   have l2:=lq.2
   generalize c % ((ms.map V.int).length:Nat)=j at l1 l2 ⊢
   rw [List.length_map] at l2
   exact ⟨ms[j.toNat]'(by omega),List.getElem_mem _,uS l1 (by rw [List.getElem?_map,List.getElem?_eq_getElem (by omega)]; rfl)⟩
  have hr:=h4.rg h (sb h hh)
  have k3':=lit (c:=c / 4) (m:=4) (by decide)
  obtain ⟨kd,hkd,lkd⟩:=Hz (c / 4 % 4) k3'.1 k3'.2
  clean_wf
  intro k0 A1 hk0 t1' gk1
  have sk1:bb K A1 k0 [V.str "own",V.str "heard",V.str "one",V.str "one"]:=bb.of gk1
  clean_wf
  intro d A2 hd t2 g2
  have q12:=lit (c:=c / 16) (m:=0 + (i:Int) + 1) (by omega)
  have hRB:Paired (Br B) xs R:=Paired.mapP hR fun _ _ y=>y.up (.same sB)
  have sB2:aE B A2:=t1'.trans t2
  have hdB:B d=none:=t1'.free hd
  refine bD (fun σ' A'=>∃ (u12:Option V) (mm:List (Int×Int)),σ'=[some (.ref a),some (.ref b),some (.int m),some (.int n),some (.int t),some (.ref D),some (.ref l),some (.int (0 + (i:Int))),some (.int c),some (.int h),some (.str kd),some (.ref d),u12,w13,w14]/\aE B A'/\A' d=some (.dK (dI mm))/\qo mm/\(kd="own"->mm=[])) ?_ fun N rest=>?_
  rotate_left
  ·have done:=rest _ A2 ⟨w12,[],rfl,sB2,g2,qo.nil,fun _=>rfl⟩
   have gl2:=bb.of (K:=K) (sB2 _ _ glB)
   clean_wf
   refine dN (fun nk=>?_) fun _=>?_
   ·have nk:kd≠"own":=by simpa using nk
    clean_wf
    intro q B3 hq s3 g3
    obtain ⟨j,ej⟩:∃ j:Nat,c / 16 % (0 + (i:Int) + 1)=(j:Int):=⟨(c / 16 % (0 + (i:Int) + 1)).toNat,by omega⟩
    rw [ej,vT xs j (by omega)] at g3
    refine ⟨q,rfl,⟨_,bb.of g3⟩,fun E hE=>?_⟩
    have sB3:aE B B3:=sB2.trans s3
    have hRj:Paired (Br B) (xs.take j) (R.take j):=eZ j hRB
    have lj:=Paired.length hRj
    refine dH (K:=K) (a:=q) (xs:=xs.take j) (fun i' σ A'=>∃ (v:Option V) (ys:List V),σ=[v]/\aE B3 A'/\A' E=some (.lst ys)/\ys.length=i'/\Paired (pP A') ys (((R.take j).take i').map j2.nm)) ⟨none,[],rfl,aN hE,au,rfl,.nil⟩ (fun i' σ A' _ z=>by obtain ⟨_,_,_,z,_⟩:=z; exact bb.of (z _ _ g3)) ?_ ?_
    ·rintro i' x σ A' hx ⟨v,ys,rfl,sA',gE,ly,py⟩
     obtain ⟨xk,hxk,kx⟩:=bH hRj hx
     obtain ⟨tt,nv,cv,rfl,f1,f2,f3⟩:=kx.up (.same (sB3.trans sA'))
     have st:=aZ.of (K:=K) f1
     have il:=(List.getElem?_eq_some_iff.mp hx).1
     have lt5:(xs.take j).length<=xs.length:=List.length_take_le' ..
     clean_wf
     have su:eW A' (upd A' E (.lst (ys ++ [nv]))):=fun u zs e=>by rw [aG (bK e gE (by intro z; cases z))]; exact e
     refine ⟨ys,gE,aD (by omega),_,_,rfl,fun b o z=>?_,au,by rw [List.length_append,ly]; rfl,?_⟩
     ·rw [aG (aI z hE)]
      exact sA' b o z
     ·rw [bx hxk,List.map_append]
      exact bE (Paired.mapP py fun _ _ y=>y.up su) (.cons (f2.up su) .nil)
    rintro σ A3 ⟨v,ys,rfl,sA3,gE,ly,py⟩
    rw [List.take_of_length_le (by omega)] at py
    refine ⟨E,rfl,⟨_,bb.of gE⟩,?_⟩
    refine bZ (K:=K) (a:=E) (xs:=ys) (fun i' σ A'=>∃ (u12:Option V) (mm:List (Int×Int)),σ=[some (.ref a),some (.ref b),some (.int m),some (.int n),some (.int t),some (.ref D),some (.ref l),some (.int (0 + (i:Int))),some (.int c),some (.int h),some (.str kd),some (.ref d),u12,w13,w14]/\aE B A'/\eW A3 A'/\A' E=some (.lst ys)/\A' d=some (.dK (dI mm))/\qo mm) ⟨w12,[],rfl,sB3.trans sA3,.refl _,gE,sA3 _ _ (s3 _ _ g2),qo.nil⟩ (fun i' σ A' _ z=>by obtain ⟨_,_,_,_,_,z,_⟩:=z; exact bb.of z) ?_ ?_
    ·rintro i' x σ A' hx ⟨u12,mm,rfl,sA',su',gE',gd',cau⟩
     obtain ⟨nm,hnm,tr⟩:=bH py hx
     obtain ⟨tt,rfl,f1⟩:=tr.up su'
     obtain ⟨xk,hxk,rfl⟩:=List.mem_map.mp (List.mem_of_getElem? hnm)
     have hxR:xk∈R:=List.mem_of_mem_take hxk
     have rg:=(kg xk hxR).c
     have st:=aZ.of (K:=K) f1
     have nd:=cau.ck.nd
     have lm:=cau.ck.len
     have e3:=lit (c:=c / 128) (m:=3) (by decide)
     clean_wf
     refine ⟨_,_,rfl,?_⟩
     clean_wf
     intro A4 b4 g4
     have nEd:E≠d:=bK gE' gd' (by intro z; cases z)
     refine ⟨_,_,rfl,b4.same sA' hdB,su'.trans (eW.but b4 gd' (by intro _ z; cases z)),b4.at nEd gE',g4,cau.put rg.1 rg.2 ?_⟩
     show 1<=(if xk.k - c / 128 % 3 / 2 > 1 then xk.k - c / 128 % 3 / 2 else 1)
     split <;> omega
    rintro σ A4 ⟨u12,mm,rfl,sA',su',gE',gd',cau⟩
    exact rest _ _ ⟨_,mm,rfl,sA',gd',cau,fun z=>absurd z nk⟩
   ·exact done
  rintro σ' A3 ⟨u12,mm,rfl,sB3,gd3,cau,own⟩
  have gl3:=sB3 _ _ glB
  have gl3':=bb.of (K:=K) gl3
  have hR3:Paired (Br A3) xs R:=Paired.mapP hRB fun _ _ y=>y.up (.same sB3)
  clean_wf
  intro E hE
  refine dH (K:=K) (a:=l) (xs:=xs) (fun i' σ A'=>∃ (v:Option V) (ys:List V),σ=[some (.int h),v]/\aE A3 A'/\A' E=some (.lst ys)/\ys.length<=i') ⟨none,[],rfl,aN hE,au,Nat.le_refl _⟩ (fun i' σ A' _ z=>by obtain ⟨_,_,_,z,_⟩:=z; exact bb.of (z _ _ gl3)) ?_ ?_
  ·rintro i' x σ A' hx ⟨v,ys,rfl,sA',gE,ly⟩
   obtain ⟨xk,hxk,kx⟩:=bH hR3 hx
   obtain ⟨tt,nv,cv,rfl,f1,⟨t3',rfl,f2⟩,f3⟩:=kx.up (.same sA')
   have st:=aZ.of (K:=K) f1
   have st2:=aZ.of (K:=K) f2
   have il':=(List.getElem?_eq_some_iff.mp hx).1
   clean_wf
   refine dN (fun e=>?_) fun e=>?_
   ·clean_wf
    refine ⟨ys,gE,aD (by omega),_,_,rfl,fun b o z=>?_,au,?_⟩
    ·rw [aG (aI z hE)]
     exact sA' b o z
    ·rw [List.length_append]; exact Nat.succ_le_succ ly
   ·exact ⟨_,ys,rfl,sA',gE,by omega⟩
  rintro σ A4 ⟨v,ys,rfl,sA4,gE,ly⟩
  have slE:=bb.of (K:=K) gE
  have gd4:=sA4 _ _ gd3
  clean_wf
  refine ⟨d,mm,rfl,.inl gd4,cau.ck.len,fun p T hp pT sT=>?_⟩
  have s5:=aN (o:=.lst (T.map V.int)) hp
  have g5:(upd A4 p (.lst (T.map V.int))) p=some (.lst (T.map V.int)):=au
  generalize upd A4 p (.lst (T.map V.int))=A5 at s5 g5 ⊢
  have lT:T.length < 64:=by rw [pT.length_eq,List.length_map]; exact cau.ck.len
  refine ⟨p,rfl,⟨_,bb.of g5⟩,fun E1 hE1=>?_⟩
  refine dH (K:=K) (a:=p) (xs:=T.map V.int) (fun i' σ A=>∃ v zs,σ=[some (.ref d),v]/\aE A5 A/\A E1=some (.lst zs)/\zs.length<=i'/\kW A zs (Ae (T.take i') (ct mm))) ⟨none,[],rfl,aN hE1,au,Nat.le_refl _,.nil⟩ ?_ ?_ ?_
  ·rintro i' σ A _ ⟨_,_,_,z,_⟩
   exact bb.of (z _ _ g5)
  ·rintro i' x σ A hx' ⟨v,zs,rfl,sA,hEx,lz,pz⟩
   obtain ⟨cl,hcl,rfl⟩:=uM hx'
   have hi':=(List.getElem?_eq_some_iff.mp hcl).1
   have hrA:=sA _ _ (s5 _ _ gd4)
   have hlc:lA mm cl=some (ct mm cl):=Ir (pT.mem_iff.mp (List.mem_of_getElem? hcl))
   clean_wf
   intro u A1 hu' sA1 gA1
   have hE1':=sA1 _ _ hEx
   refine ⟨zs,hE1',aD (by omega),_,_,rfl,fun b o z=>?_,au,by rw [List.length_append]; exact Nat.succ_le_succ lz,?_⟩
   ·rw [aG (aI z hE1)]
    exact sA1 _ _ (sA b o z)
   ·have kp:∀ a xs,A1 a=some (.tup xs)->(upd A1 E1 (.lst (zs ++ [V.ref u]))) a=some (.tup xs):=fun a xs z=>by
     rw [aG (bK z hE1' (by intro z; cases z))]
     exact z
    have e:Ae (T.take (i' + 1)) (ct mm)=Ae (T.take i') (ct mm) ++ [(cl,ct mm cl)]:=by
     unfold Ae
     rw [bx hcl,List.map_append]
     rfl
    rw [e]
    exact kW.snoc (pz.mono fun a xs z=>kp _ _ (sA1 _ _ z)) ⟨u,rfl,kp _ _ gA1⟩
  rintro σ A6 ⟨v6,zs,rfl,sA6,hEx,lz,pz⟩
  rw [show T.take (T.map V.int).length=T by rw [List.length_map,List.take_length]] at pz
  have cauT:=cau.of pT
  clean_wf
  intro u A7 hu7 s7 g7
  have h60:(0:Int) < (10:Int) ^ (60:Int).toNat:=Int.pow_pos (by decide)
  have gl7:=(sB3.trans (sA4.trans (s5.trans (sA6.trans s7)))) _ _ glB
  have mcc:vC c c:=.inl ⟨by omega,by omega⟩
  clean_wf
  intro z1 A8 hz1 s8 g8
  clean_wf
  intro z2 A9 hz2 s9 g9
  have s49:aE B A9:=sB3.trans (sA4.trans (s5.trans (sA6.trans (s7.trans (s8.trans s9)))))
  clean_wf
  refine qO (s49 _ _ glB) (aD (by omega)) fun A10 b10 g10=>?_
  have su:eW A9 A10:=eW.but b10 (s49 _ _ glB) (by intro _ z; cases z)
  have kz:Br A10 (.ref z2) ⟨n,h,1 + (ys.length:Nat),kd,c * c / 512 % 10 ^ (60:Int).toNat - 5,Ae T (ct mm)⟩:=⟨z2,.ref z1,.ref u,rfl,su _ _ g9,⟨z1,rfl,su _ _ (s9 _ _ g8)⟩,⟨u,zs,rfl,su _ _ (s9 _ _ (s8 _ _ g7)),pz.mono fun a xs z=>su _ _ (s9 _ _ (s8 _ _ (s7 _ _ z)))⟩⟩
  refine ⟨_,_,_,_,_,_,_,_,xs ++ [.ref z2],R ++ [⟨n,h,1 + (ys.length:Nat),kd,c * c / 512 % 10 ^ (60:Int).toNat - 5,Ae T (ct mm)⟩],rfl,b10.same (sA.trans (sB.trans s49)) hl0,b10.at ?_ (s49 _ _ (sB _ _ gD)),g10,bE (Paired.mapP hRB fun _ _ y=>y.up ((eW.same s49).trans su)) (.cons kz .nil),by rw [List.length_append,lR]; rfl,fun y hy=>?_⟩
  ·exact aI gD0 hl
  ·rcases List.mem_append.mp hy with z | z
   ·exact kg y z
   ·rw [List.mem_singleton.mp z]
    refine ⟨fun z=>?_,cauT.le,cauT.ck,hr,by show 1<=1 + ((ys.length:Nat):Int); omega,lkd⟩
    show Ae T (ct mm)=[]
    have e:=own z
    rw [e] at pT
    have:T=[]:=pT.eq_nil
    rw [this]
    rfl
 rintro σ A ⟨w7,w8,w9,w10,w11,w12,w13,w14,xs,R,rfl,sA,gD,gl,hR,lR,kg⟩
 clean_wf
 exact kk A l xs R sA hl0 gl hR (by omega) kg
end
end K81
namespace K81
open PySem L2
section
variable {P:Program} {w:World} {K:PySem.W.Frag} {mg:Str->Option Value} {base:Heap}
theorem hJ.mkT {H:Hp} {t:Addr} {nv cv:V} {x:j2} {why:Str} (h:H t=some (.tup [.str "take",nv,.str x.kd,.int x.wd,cv,.str why])) (hn:pP H nv x.nm) (hc:Cu H cv x.cs) (w:Wf x):hJ H (.ref t) (.T x why) :=
 ⟨t,nv,cv,rfl,h,hn,hc,w.ck.nd,by have:=w.ck.len; omega,by rw [w.pos]; exact w.ck,w.c,by have:=w.k; omega,w.kd⟩
structure sH (H:Hp) (a:Addr) (ls:List Addr) (ts:List cC):Prop where
 ln:ts.length=3
 ll:ls.length=3
 nd:ls.Nodup
 na:a∉ls
 xs:∃ ps:List Addr,H a=some (.lst (ps.map V.ref))/\ps.length=3/\∀ (i:Nat) p l t,ps[i]?=some p->ls[i]?=some l->ts[i]?=some t->H p=some (.tup [.int t.1,.ref l])
 ev:∀ (i:Nat) l t,ls[i]?=some l->ts[i]?=some t->∃ evs,H l=some (.lst evs)/\Paired (hJ H) evs t.2
 wf:∀ t∈ts,∀ e∈t.2,mK e
 rg:∀ t∈ts,0<=t.1/\t.1 < 63
theorem sH.same {H H':Hp} {a:Addr} {ls:List Addr} {ts:List cC} (h:sH H a ls ts) (s:aE H H'):sH H' a ls ts:=by
 obtain ⟨ps,p1,p2,p3⟩:=h.xs
 exact ⟨h.ln,h.ll,h.nd,h.na,⟨ps,s _ _ p1,p2,fun i p l t a b c=>s _ _ (p3 i p l t a b c)⟩,fun i l t a b=>by
  obtain ⟨evs,e1,e2⟩:=h.ev i l t a b
  exact ⟨evs,s _ _ e1,Paired.mapP e2 fun _ _ y=>y.up (.same s)⟩,h.wf,h.rg⟩
theorem sH.put {H H':Hp} {a l:Addr} {ls:List Addr} {ts:List cC} {i:Nat} {t:cC} {vs vs':List V} {es:List Ev} (h:sH H a ls ts) (hl:ls[i]?=some l) (ht:ts[i]?=some t) (b:mL l H H') (g:H l=some (.lst vs)) (g':H' l=some (.lst vs')) (pe:Paired (hJ H') vs' es) (we:∀ e∈es,mK e):sH H' a ls (ts.set i (t.1,es)):=by
 obtain ⟨ps,p1,p2,p3⟩:=h.xs
 have su:eW H H':=eW.but b g (by intro _ z; cases z)
 have il:=(List.getElem?_eq_some_iff.mp ht).1
 have na:a≠l:=fun z=>h.na (by rw [z]; exact List.mem_of_getElem? hl)
 have old:∀ (j:Nat) u,(ts.set i (t.1,es))[j]?=some u->(j=i/\u=(t.1,es))∨(j≠i/\ts[j]?=some u):=fun j u hu=>by
  by_cases e:i=j
  ·rw [← e,List.getElem?_set_self il] at hu
   exact .inl ⟨e.symm,(Option.some.inj hu).symm⟩
  ·rw [List.getElem?_set_ne e] at hu
   exact .inr ⟨fun z=>e z.symm,hu⟩
 have mem:∀ u∈ts.set i (t.1,es),u=(t.1,es)∨u∈ts:=fun u hu=>by
  obtain ⟨j,hj⟩:=List.getElem?_of_mem hu
  rcases old j u hj with z | z
  ·exact .inl z.2
  ·exact .inr (List.mem_of_getElem? z.2)
 refine ⟨by rw [List.length_set]; exact h.ln,h.ll,h.nd,h.na,⟨ps,b.at na p1,p2,fun j p l' u a1 a2 a3=>?_⟩,fun j l' u a1 a2=>?_,fun u hu=>?_,fun u hu=>?_⟩
 ·rcases old j u a3 with ⟨e,z⟩ | ⟨_,z⟩
  ·rw [z]; rw [e] at a1 a2; exact su _ _ (p3 i p l' t a1 a2 ht)
  ·exact su _ _ (p3 j p l' u a1 a2 z)
 ·rcases old j u a2 with ⟨e,z⟩ | ⟨e,z⟩
  ·rw [e,hl] at a1
   cases a1
   rw [z]
   exact ⟨vs',g',pe⟩
  ·obtain ⟨evs,e1,e2⟩:=h.ev j l' u a1 z
   have ne:l'≠l:=fun w=>e ((List.getElem?_inj (by rw [h.ll]; have:=(List.getElem?_eq_some_iff.mp a1).1; rw [h.ll] at this; exact this) h.nd).mp (by rw [a1,hl,w]))
   exact ⟨evs,b.at ne e1,Paired.mapP e2 fun _ _ y=>y.up su⟩
 ·rcases mem u hu with z | z
  ·rw [z]; exact we
  ·exact h.wf u z
 ·rcases mem u hu with z | z
  ·rw [z]; exact h.rg t (List.mem_of_getElem? ht)
  ·exact h.rg u z
theorem sH.at {H:Hp} {a:Addr} {ls:List Addr} {ts:List cC} (h:sH H a ls ts) {i:Nat} (hi:i < 3):∃ p l t evs ps,ls[i]?=some l/\ts[i]?=some t/\H a=some (.lst ps)/\ps.length=3/\ps[i]?=some (.ref p)/\H p=some (.tup [.int t.1,.ref l])/\H l=some (.lst evs)/\Paired (hJ H) evs t.2:=by
 obtain ⟨ps,p1,p2,p3⟩:=h.xs
 have h1:=List.getElem?_eq_getElem (l:=ls) (i:=i) (by rw [h.ll]; exact hi)
 have h2:=List.getElem?_eq_getElem (l:=ts) (i:=i) (by rw [h.ln]; exact hi)
 have h3:=List.getElem?_eq_getElem (l:=ps) (i:=i) (by rw [p2]; exact hi)
 obtain ⟨evs,e1,e2⟩:=h.ev i _ _ h1 h2
 exact ⟨_,_,_,evs,_,h1,h2,p1,by rw [List.length_map]; exact p2,by rw [List.getElem?_map,h3]; rfl,p3 i _ _ _ h3 h1 h2,e1,e2⟩
end
end K81
namespace K81
open PySem L2
section
variable {P:Program} {w:World} {K:PySem.W.Frag} {mg:Str->Option Value} {base:Heap}
def xX:Ev->PyData
 | .L n s=>.tuple [.str "list",.int n,.int s.1,.int s.2.1,.int s.2.2]
 | .T x why=>.tuple [.str "take",.tuple [.int x.nm.1,.int x.nm.2.1,.int x.nm.2.2],.str x.kd,.int x.wd,.tuple (x.cs.map pU),.str why]
 | .O n=>.tuple [.str "out",.int n]
theorem hJ.dp {H:Hp} {v:V} {e:Ev} (h:hJ H v e):Dp K H v (xX e):=by
 cases e with
 | L n s =>
  obtain ⟨t,rfl,ht,_⟩:=h
  exact .tup (aZ.of ht) (.cons (.str _) (.cons (.int _) (.cons (.int _) (.cons (.int _) (.cons (.int _) .nil)))))
 | T x why =>
  obtain ⟨t,nv,cv,rfl,ht,⟨t2,rfl,h2⟩,⟨t3,ys,rfl,h3,h4⟩,_⟩:=h
  exact .tup (aZ.of ht) (.cons (.str _) (.cons (.tup (aZ.of h2) (.cons (.int _) (.cons (.int _) (.cons (.int _) .nil)))) (.cons (.str _) (.cons (.int _) (.cons (.tup (aZ.of h3) h4.dps) (.cons (.str _) .nil))))))
 | O n =>
  obtain ⟨t,rfl,ht⟩:=h
  exact .tup (aZ.of ht) (.cons (.str _) (.cons (.int _) .nil))
theorem vb {H:Hp}:∀ {xs:List V} {es:List Ev},Paired (hJ H) xs es->vn K H xs (es.map xX)
 | _,_,.nil=>.nil
 | _,_,.cons h t=>.cons h.dp (vb t)
theorem iI {ds:List PyData} (h:PyData.canLayAll0 ds=true):(PyData.tuple ds).canLay0=true:=by
 first | (rw [PyData.canLay0.eq_5]; exact h) | (rw [PyData.canLay0.eq_6]; exact h) | (rw [PyData.canLay0.eq_7]; exact h)
theorem qk {ds:List PyData} (h:PyData.canLayAll0 ds=true):(PyData.list ds).canLay0=true:=by
 rw [PyData.canLay0.eq_5]; exact h
theorem fq:∀ {ds:List PyData},(∀ d∈ds,d.canLay0=true)->PyData.canLayAll0 ds=true
 | [],_=>rfl
 | d :: ds,h=>by rw [PyData.canLayAll0.eq_2,h d List.mem_cons_self,fq fun d hd=>h d (List.mem_cons_of_mem _ hd)]; rfl
theorem uL {k:Nat}:∀ {ds:List PyData},(∀ d∈ds,d.depth<=k)->PyData.depthAll ds<=k
 | [],_=>by rw [PyData.depthAll.eq_1]; omega
 | d :: ds,h=>by
  have e:PyData.depthAll (d :: ds)=max d.depth (PyData.depthAll ds):=rfl
  have:=h d List.mem_cons_self
  have:=uL (ds:=ds) fun d hd=>h d (List.mem_cons_of_mem _ hd)
  omega
theorem F2:(PyData.str "take").canLay0=true:=by decide +kernel
theorem Fq:(PyData.str "list").canLay0=true:=by decide +kernel
theorem Gh:(PyData.str "out").canLay0=true:=by decide +kernel
theorem nJ {e:Ev} (w:mK e):(xX e).canLay0=true:=by
 cases e with
 | L n s =>
  refine iI (fq fun d hd=>?_)
  simp only [List.mem_cons,List.not_mem_nil,or_false] at hd
  rcases hd with rfl | rfl | rfl | rfl | rfl
  ·exact Fq
  all_goals rfl
 | T x why =>
  refine iI (fq fun d hd=>?_)
  obtain ⟨wx,wy⟩:=w
  simp only [List.mem_cons,List.not_mem_nil,or_false] at hd
  rcases hd with rfl | rfl | rfl | rfl | rfl | rfl
  ·exact F2
  ·rfl
  ·exact wx.kd
  ·rfl
  ·exact iI (ju _)
  ·exact wy
 | O n =>
  refine iI (fq fun d hd=>?_)
  simp only [List.mem_cons,List.not_mem_nil,or_false] at hd
  rcases hd with rfl | rfl
  ·exact Gh
  ·rfl
theorem uk (e:Ev):(xX e).depth<=3:=by
 cases e with
 | L n s=>exact (by decide:1<=3)
 | T x why =>
  have e:(xX (.T x why)).depth=max 0 (max 1 (max 0 (max 0 (max (PyData.depthAll (x.cs.map pU) + 1) (max 0 0))))) + 1:=rfl
  rw [e]
  have:=uN x.cs
  omega
 | O n=>exact (by decide:1<=3)
theorem BQ (n:Int) (s t:Int×Int×Int):(xX (.L n s)).eqv (xX (.L n t))=decide (s=t):=by
 obtain ⟨a,b,c⟩:=s
 obtain ⟨d,e,f⟩:=t
 show (("list":Str) == "list" && (n == n && (a == d && (b == e && (c == f && true)))))=_
 rw [Bool.eq_iff_iff,decide_eq_true_iff]
 simp
end
end K81
namespace K81
open PySem L2
abbrev iZ:Stmt:=i7 31
section
variable {P:Program} {w:World} {K:PySem.W.Frag} {mg:Str->Option Value} {base:Heap}
def xM (es:List Ev):Prop:=∀ (i:Nat) x y,es[i]?=some (.T x y)->∃ c,(sn (es.take i)).c=some c
theorem EA (es:List Ev):∀ c,(sn es).c=some c->c.go=false:=by
 have key:∀ (es:List Ev) (s:Sn),(∀ c,s.c=some c->c.go=false)->∀ c,(es.foldl iX s).c=some c->c.go=false:=by
  intro es
  induction es with
  | nil=>intro s h; exact h
  | cons e es ih =>
   intro s h
   refine ih (iX s e) fun c hc=>?_
   cases e with
   | L n t=>cases hc; rfl
   | T x y =>
    have hc:(s.c.map fun c=>(⟨c.n,c.tk ++ [x],c.go⟩:Sd))=some c:=hc
    cases z:s.c with
    | none=>rw [z] at hc; cases hc
    | some c0=>rw [z] at hc; cases hc; exact h c0 z
   | O n=>exact h c hc
 exact key es DK fun c hc=>by cases hc
theorem yQ (es:List Ev):(sn es).b=true->∃ c,(sn es).c=some c:=by
 have key:∀ (es:List Ev) (s:Sn),(s.b=true->∃ c,s.c=some c)->(es.foldl iX s).b=true->∃ c,(es.foldl iX s).c=some c:=by
  intro es
  induction es with
  | nil=>intro s h; exact h
  | cons e es ih =>
   intro s h
   refine ih (iX s e) fun hb=>?_
   cases e with
   | L n t=>exact ⟨_,rfl⟩
   | T x y =>
    obtain ⟨c,hc⟩:=h hb
    exact ⟨_,by show (s.c.map fun c=>(⟨c.n,c.tk ++ [x],c.go⟩:Sd))=_; rw [hc]; rfl⟩
   | O n=>cases hb
 exact key es DK fun h=>by cases h
def DR (H:Hp) (v:V) (x:j2):Prop:=∃ y,hJ H v (.T x y)/\(PyData.str y).canLay0=true
theorem DR.up {H H':Hp} (s:eW H H') {v:V} {x:j2} (h:DR H v x):DR H' v x:=by
 obtain ⟨y,h,l⟩:=h
 exact ⟨y,h.up s,l⟩
def FN (f:Addr) (H:Hp) (v:V) (d:Sd):Prop:=∃ t l g evs,v=.ref t/\H t=some (.tup [.int d.n,.ref l,.ref g])/\H l=some (.lst evs)/\Paired (DR H) evs d.tk/\H g=some (.lst (if d.go=true then [.bl true] else []))/\l≠f/\g≠f
def wD (H:Hp) (v:V) (d:Sd):Prop:=∃ t l g evs,v=.ref t/\H t=some (.tup [.int d.n,.ref l,.ref g])/\H l=some (.lst evs)/\Paired (DR H) evs d.tk/\H g=some (.lst (if d.go=true then [.bl true] else []))
theorem FN.a {f:Addr} {H:Hp} {v:V} {d:Sd} (h:FN f H v d):wD H v d:=by
 obtain ⟨t,l,g,evs,a,b,c,d',e,_⟩:=h
 exact ⟨t,l,g,evs,a,b,c,d',e⟩
theorem wD.same {H H':Hp} (s:aE H H') {v:V} {d:Sd} (h:wD H v d):wD H' v d:=by
 obtain ⟨t,l,g,evs,a,b,c,d',e⟩:=h
 exact ⟨t,l,g,evs,a,s _ _ b,s _ _ c,Paired.mapP d' fun _ _ y=>y.up (.same s),s _ _ e⟩
def Jy (f:Addr) (H H':Hp):Prop:=∀ b o,b≠f->H b=some o->H' b=some o
theorem FN.kp {f:Addr} {H H':Hp} (s:Jy f H H') (su:eW H H') (nf:∀ xs,H f≠some (.tup xs)) {v:V} {d:Sd} (h:FN f H v d):FN f H' v d:=by
 obtain ⟨t,l,g,evs,a,b,c,d',e,n1,n2⟩:=h
 exact ⟨t,l,g,evs,a,s _ _ (fun z=>by rw [z] at b; exact nf _ b) b,s _ _ n1 c,Paired.mapP d' fun _ _ y=>y.up su,s _ _ n2 e,n1,n2⟩
theorem j9 {xs:List V} {v:V}:jG (xs ++ [v]) (-1)=some v:=by
 unfold jG
 have e1:yA (xs ++ [v]).length (-1)=some xs.length:=by
  rw [List.length_append]
  unfold yA
  rw [if_neg (by decide)]
  simp
  omega
 rw [e1]
 simp
def GP (f:Addr) (H0 A:Hp) (n:Nat) (xs:List V) (s:Sn):Prop:=match s.c with
 | none=>xs=[]/\s.l=[]
 | some c=>∃ A0 xs0 t l g evs,xs=xs0 ++ [.ref t]/\Jy f A0 A/\eW A0 A/\(∀ xs,A0 f≠some (.tup xs))/\Paired (FN f A0) xs0 s.l/\A0 l=none/\A0 g=none/\H0 l=none/\H0 g=none/\l≠g/\l≠f/\g≠f/\A t=some (.tup [.int c.n,.ref l,.ref g])/\A l=some (.lst evs)/\Paired (DR A) evs c.tk/\A g=some (.lst [])/\evs.length<=n
def fh (K:PySem.W.Frag):Sp:=fun vs H Q _=>∃ (a:Addr),vs=[.ref a]/\∃ evs es,bb K H a evs/\Paired (hJ H) evs es/\xM es/\es.length<=90/\(∀ e∈es,mK e)/\∀ H' t f xs,aE H H'->H f=none->H' t=some (.tup [.ref f,.bl (sn es).b])->H' f=some (.lst xs)->Paired (wD H') xs (sn es).all->Q (.ref t) H'
theorem df:aW ["_law_events","_law_found","_law_stands_here","_law_event"] ["_law_events"] (aF iZ):=⟨rfl,rfl,rfl,by decide +kernel,rfl,by decide +kernel,by decide +kernel⟩
theorem qI {f :Addr} {fd :FuncData} (F:cM K "_law_stands" "_law_stands" iZ f fd):aT P w K mg base cy 1 f fd ["_law_events"] (fh K):=by
 refine F.ok df (fun vs H Q E h=>?_) (fun cdv A outer s H vs Q E hr h=>?_)
 ·obtain ⟨a,rfl,_⟩:=h
  rfl
 obtain ⟨a,rfl,h⟩:=h
 have hu64:=hr.units
 have hu0:=hr.units0
 have hu:=bS hr
 refine ⟨_,(af (aC (i:=1) df.nd rfl (Or.inl rfl) (bX aj))
   (af (aC (i:=2) df.nd rfl (Or.inl rfl) oX)
   (af (cA PassesOwn.never rfl (bz (K:=K) rfl (pv 0)) (aB (i:=3) df.nd rfl (Or.inl rfl))
   (ai (a8 (aA bw (aw (ao (K:=K) rfl) (pv 3) aa (fun _ _=>rfl)) aP (ax _)) (af (a8 (je (K:=K) rfl (pv 2)) (ai (bU (cB (K:=K) rfl (eG PySem.F.plainAttrs_list PySem.F.slot_list_append PySem.F.type_list_append cu (aw (ao (K:=K) rfl) (aw (aM (K:=K) rfl) (pv 1) (eN c9 aa) (fun _ _=>rfl)) aa (fun _ _=>rfl)) (ae oX aj))))) aJ)
   (af (bU (cB (K:=K) rfl (eG PySem.F.plainAttrs_list PySem.F.slot_list_append PySem.F.type_list_append cu (pv 1) (ae (cc (ae (aw (ao (K:=K) rfl) (pv 3) aa (fun _ _=>rfl)) (ae (bX aj) (ae (bX aj) aj)))) aj))))
   (ai (aC (i:=2) df.nd rfl (Or.inl rfl) oX)))) (ai (a8 (aA bw (aw (ao (K:=K) rfl) (pv 3) aa (fun _ _=>rfl)) aP (ax _)) (ai (bU (cB (K:=K) rfl (eG PySem.F.plainAttrs_list PySem.F.slot_list_append PySem.F.type_list_append cu (aw (ao (K:=K) rfl) (aw (aM (K:=K) rfl) (pv 1) (eN c9 aa) (fun _ _=>rfl)) aa (fun _ _=>rfl)) (ae (pv 3) aj))))) (ai (aC (i:=2) df.nd rfl (Or.inl rfl) oX)))))))
   (ai (aK (cc (ae (pv 1) (ae (pv 2) aj)))))))),?_⟩
 obtain ⟨evs,es,ha,he,tk,le,we,kk⟩:=h
 have lev:=Paired.length he
 clean_wf
 intro f H1 hf s1 g1
 have ha1:=s1.seq ha
 clean_wf
 refine bZ (K:=K) (a:=a) (xs:=evs) (fun i σ A=>∃ v3 xs,σ=[some (.ref a),some (.ref f),some (.bl (sn (es.take i)).b),v3]/\aE H A/\A f=some (.lst xs)/\xs.length<=i/\GP f H A i xs (sn (es.take i))) ⟨none,[],rfl,s1,g1,Nat.le_refl _,rfl,rfl⟩ (fun i σ A _ z=>by obtain ⟨_,_,_,z,_⟩:=z; exact z.seq ha) ?_ ?_
 ·rintro i x σ A hx ⟨v3,xs,rfl,sA,gf,lx,st⟩
  obtain ⟨e,hei,hea⟩:=bH he hx
  have il:=(List.getElem?_eq_some_iff.mp hx).1
  have hea:=hea.up (.same sA)
  have esn:sn (es.take (i + 1))=iX (sn (es.take i)) e:=by rw [bx hei,za]
  rw [esn]
  have cgo:=EA (es.take i)
  have sbc:=yQ (es.take i)
  have wei:=we e (List.mem_of_getElem? hei)
  have tki:=fun x y (h:e=.T x y)=>tk i x y (by rw [hei,h])
  generalize sn (es.take i)=s at *
  cases e with
  | L n t =>
   obtain ⟨te,rfl,gt,p1,p2,p3⟩:=hea
   have ste:=aZ.of (K:=K) gt
   clean_wf
   rw [decide_eq_true (rfl:("list":Str)="list")]
   rw [if_pos rfl]
   refine bD (fun σ' A1=>σ'=[some (.ref a),some (.ref f),some (.bl s.b),some (.ref te)]/\aE H A1/\eW A A1/\A1 f=some (.lst xs)/\Paired (FN f A1) xs (s.l ++ (s.c.map fun c=>(⟨c.n,c.tk,c.go || s.b⟩:Sd)).toList)) ?_ fun N rest=>?_
   rotate_left
   ·unfold GP at st
    cases hc:s.c with
    | none =>
     rw [hc] at st rest
     have nb:s.b=false:=by
      cases z:s.b with
      | false=>rfl
      | true=>obtain ⟨c,e⟩:=sbc z; rw [hc] at e; cases e
     obtain ⟨rfl,e2⟩:=st
     rw [nb] at rest ⊢
     clean_wf
     exact rest _ A ⟨rfl,sA,.refl _,gf,by rw [e2]; exact .nil⟩
    | some c =>
     rw [hc] at st rest
     obtain ⟨A0,xs0,tc,l,g,ev,rfl,kp,su,nt,p0,l0,g0,hl0,hg0,nlg,nlf,ngf,at',al,pt,ag,lev'⟩:=st
     have cg:=cgo c hc
     have sfA:=bb.of (K:=K) gf
     have atl:jG (xs0 ++ [V.ref tc]) (-1)=some (.ref tc):=j9
     have stc:=aZ.of (K:=K) at'
     cases nb:s.b with
     | false =>
      rw [nb] at rest
      clean_wf
      refine rest _ A ⟨rfl,sA,.refl _,gf,bE (Paired.mapP p0 fun _ _ y=>y.kp kp su nt) (.cons ⟨tc,l,g,ev,rfl,at',al,pt,?_,nlf,ngf⟩ .nil)⟩
      rw [ag]
      show some (HO.lst [])=some (.lst (if (c.go || false)=true then _ else _))
      rw [cg]
      rfl
     | true =>
      rw [nb] at rest
      clean_wf
      intro A1 b1 g1'
      have su1:eW A A1:=eW.but b1 ag (by intro _ z; cases z)
      have kp1:Jy f A0 A1:=fun b o nb e=>b1.at (fun z=>by rw [z,g0] at e; cases e) (kp b o nb e)
      refine rest _ A1 ⟨rfl,b1.same sA hg0,su1,b1.at ngf.symm gf,bE (Paired.mapP p0 fun _ _ y=>y.kp kp1 (su.trans su1) nt) (.cons ⟨tc,l,g,ev,rfl,su1 _ _ at',b1.at nlg al,Paired.mapP pt fun _ _ y=>y.up su1,?_,nlf,ngf⟩ .nil)⟩
      rw [g1']
      show _=some (HO.lst (if (c.go || true)=true then _ else _))
      rw [Bool.or_true,if_pos rfl]
      rfl
   rintro σ' A1 ⟨rfl,sA1,su1,gf1,pm⟩
   have gt1:=su1 _ _ gt
   have ste1:=aZ.of (K:=K) gt1
   have ls:xs.length < sizeLine:=aD (by omega)
   clean_wf
   intro l' B1 hl' t1 gl'
   clean_wf
   intro g' B2 hg' t2 gg'
   clean_wf
   intro t' B3 ht' t3 gt'
   have t13:=t1.trans (t2.trans t3)
   have gf3:=t13 _ _ gf1
   clean_wf
   intro B4 b4 gf4
   have nlf:l'≠f:=fun z=>by rw [z,gf1] at hl'; cases hl'
   have ngf:g'≠f:=fun z=>by rw [z,t1 _ _ gf1] at hg'; cases hg'
   have nlg:l'≠g':=fun z=>by rw [← z,gl'] at hg'; cases hg'
   have su4:eW B3 B4:=eW.but b4 gf3 (by intro _ z; cases z)
   clean_wf
   refine ⟨_,_,rfl,b4.same (sA1.trans t13) hf,gf4,by rw [List.length_append]; exact Nat.succ_le_succ lx,A1,xs,t',l',g',[],rfl,fun b o nb e=>b4.at nb (t13 _ _ e),(eW.same t13).trans su4,(fun zs z=>by rw [gf1] at z; cases z),pm,hl',t1.free hg',sA1.free hl',sA1.free (t1.free hg'),nlg,nlf,ngf,su4 _ _ gt',b4.at nlf (t3 _ _ (t2 _ _ gl')),.nil,b4.at ngf (t3 _ _ gg'),Nat.zero_le _⟩
  | T q y =>
   obtain ⟨c,hc⟩:=tki q y rfl
   have he0:=hea
   obtain ⟨te,nv,cv,rfl,gt,_⟩:=hea
   have ste:=aZ.of (K:=K) gt
   unfold GP at st
   rw [hc] at st
   obtain ⟨A0,xs0,tc,l,g,ev,rfl,kp,su,nt,p0,l0,g0,hl0,hg0,nlg,nlf,ngf,at',al,pt,ag,lev'⟩:=st
   have sfA:=bb.of (K:=K) gf
   have atl:jG (xs0 ++ [V.ref tc]) (-1)=some (.ref tc):=j9
   have stc:=aZ.of (K:=K) at'
   have ls:ev.length < sizeLine:=aD (by omega)
   clean_wf
   rw [vx]
   clean_wf
   rw [decide_eq_true (rfl:("take":Str)="take")]
   clean_wf
   intro A1 b1 g1'
   have su1:eW A A1:=eW.but b1 al (by intro _ z; cases z)
   refine ⟨_,_,rfl,b1.same sA hl0,b1.at nlf.symm gf,by omega,?_⟩
   unfold GP
   show match (s.c.map fun c=>(⟨c.n,c.tk ++ [q],c.go⟩:Sd)) with
    | none=>_
    | some c=>_
   rw [hc]
   refine ⟨A0,xs0,tc,l,g,ev ++ [.ref te],rfl,fun b o nb e=>b1.at (fun z=>by rw [z,l0] at e; cases e) (kp b o nb e),su.trans su1,nt,p0,l0,g0,hl0,hg0,nlg,nlf,ngf,su1 _ _ at',g1',bE (Paired.mapP pt fun _ _ y=>y.up su1) (.cons ⟨y,he0.up su1,wei.2⟩ .nil),b1.at nlg.symm ag,?_⟩
   rw [List.length_append]; exact Nat.succ_le_succ lev'
  | O n =>
   obtain ⟨te,rfl,gt⟩:=hea
   have ste:=aZ.of (K:=K) gt
   clean_wf
   rw [vH]
   clean_wf
   rw [ur]
   clean_wf
   refine ⟨_,xs,rfl,sA,gf,by omega,?_⟩
   unfold GP at st ⊢
   show match s.c with
    | none=>_
    | some c=>_
   cases hc:s.c with
   | none=>rw [hc] at st; exact st
   | some c =>
    rw [hc] at st
    obtain ⟨A0,xs0,tc,l,g,ev,z1,kp,su,nt,p0,l0,g0,hl0,hg0,nlg,nlf,ngf,at',al,pt,ag,lev'⟩:=st
    exact ⟨A0,xs0,tc,l,g,ev,z1,kp,su,nt,p0,l0,g0,hl0,hg0,nlg,nlf,ngf,at',al,pt,ag,by omega⟩
 rintro σ A ⟨v3,xs,rfl,sA,gf,lx,st⟩
 rw [lev,List.take_length] at st ⊢
 have pa:Paired (wD A) xs (sn es).all:=by
  unfold GP at st
  unfold Sn.all
  cases hc:(sn es).c with
  | none =>
   rw [hc] at st
   rw [st.1,st.2]
   exact .nil
  | some c =>
   rw [hc] at st
   obtain ⟨A0,xs0,tc,l,g,ev,rfl,kp,su,nt,p0,l0,g0,hl0,hg0,nlg,nlf,ngf,at',al,pt,ag,lev'⟩:=st
   refine bE (Paired.mapP p0 fun _ _ y=>(y.kp kp su nt).a) (.cons ⟨tc,l,g,ev,rfl,at',al,pt,?_⟩ .nil)
   rw [EA es c hc]
   exact ag
 clean_wf
 intro t H2 ht s2 g2
 exact kk H2 t f xs (sA.trans s2) hf g2 (s2 _ _ gf) (Paired.mapP pa fun _ _ y=>y.same s2)
end
end K81
namespace K81
open PySem L2
abbrev i4:Stmt:=i7 32
abbrev j4:Stmt:=i7 33
section
variable {P:Program} {w:World} {K:PySem.W.Frag} {mg:Str->Option Value} {base:Heap}
def hV (K:PySem.W.Frag):Sp:=fun vs H Q _=>∃ (a:Addr),vs=[.ref a]/\∃ evs tk,bb K H a evs/\Paired (DR H) evs tk/\(∀ x∈tk,Wf x)/\∀ H' d,aE H H'->H d=none->H' d=some (.dK (dI (a9 tk)))->Q (.ref d) H'
theorem hZ:aW ["_law_takes","_law_found","_law_event"] ["_law_takes"] (aF i4):=⟨rfl,rfl,rfl,by decide +kernel,rfl,by decide +kernel,by decide +kernel⟩
theorem sh {f :Addr} {fd :FuncData} (F:cM K "_law_counts" "_law_counts" i4 f fd):aT P w K mg base cy 1 f fd ["_law_takes"] (hV K):=by
 refine F.ok hZ (fun vs H Q E h=>?_) (fun cdv A outer s H vs Q E hr h=>?_)
 ·obtain ⟨a,rfl,_⟩:=h
  rfl
 obtain ⟨a,rfl,h⟩:=h
 have hu64:=hr.units
 have hu0:=hr.units0
 have hu:=bS hr
 refine ⟨_,(af (aC (i:=1) hZ.nd rfl (Or.inl rfl) fi)
   (af (cA PassesOwn.never rfl (bz (K:=K) rfl (pv 0)) (aB (i:=2) hZ.nd rfl (Or.inl rfl))
   (ai (nG hu (pv 1) (aw (ao (K:=K) rfl) (aw (ao (K:=K) rfl) (pv 2) aa (fun _ _=>rfl)) aa (fun _ _=>rfl)) (aw (ao (K:=K) rfl) (aw (ao (K:=K) rfl) (pv 2) aa (fun _ _=>rfl)) aa (fun _ _=>rfl)) rfl)))
   (ai (aK (pv 1))))),?_⟩
 obtain ⟨evs,tk,ha,he,wf,kk⟩:=h
 clean_wf
 intro d H1 hd s1 g1
 have ha1:=s1.seq ha
 clean_wf
 refine bZ (K:=K) (a:=a) (xs:=evs) (fun i σ A=>∃ v,σ=[some (.ref a),some (.ref d),v]/\aE H A/\A d=some (.dK (dI (a9 (tk.take i))))) ⟨none,rfl,s1,g1⟩ (fun i σ A _ z=>by obtain ⟨_,_,z,_⟩:=z; exact z.seq ha) ?_ ?_
 ·rintro i x σ A hx ⟨v,rfl,sA,gd⟩
  obtain ⟨q,hq,y,hy,_⟩:=bH he hx
  obtain ⟨t,nv,cv,rfl,gt,⟨u,rfl,gu⟩,_⟩:=hy.up (.same sA)
  have st:=aZ.of (K:=K) gt
  have su:=aZ.of (K:=K) gu
  have ck:=nZ (l:=tk.take i) fun x hx=>wf x (List.mem_of_mem_take hx)
  have nd:=ck.nd
  have lm:=ck.len
  clean_wf
  intro A1 b1 g1'
  refine ⟨_,rfl,b1.same sA hd,?_⟩
  rw [bx hq,pC]
  exact g1'
 rintro σ A ⟨v,rfl,sA,gd⟩
 rw [Paired.length he,List.take_length] at gd
 clean_wf
 exact kk A d sA hd gd
def jK (K:PySem.W.Frag):Sp:=fun vs H Q _=>∃ (a:Addr),vs=[.ref a]/\∃ evs tk,bb K H a evs/\Paired (DR H) evs tk/\tk.length<=90/\∀ H' l ys,aE H H'->H l=none->H' l=some (.lst ys)->Paired (pP H') ys (bp tk)->Q (.ref l) H'
theorem vm:aW ["_law_takes"] ["_law_takes"] (aF j4):=⟨rfl,rfl,rfl,by decide +kernel,rfl,by decide +kernel,by decide +kernel⟩
theorem uF {f :Addr} {fd :FuncData} (F:cM K "_law_ones" "_law_ones" j4 f fd):aT P w K mg base cy 1 f fd ["_law_takes"] (jK K):=by
 refine F.ok vm (fun vs H Q E h=>?_) (fun cdv A outer s H vs Q E hr h=>?_)
 ·obtain ⟨a,rfl,_⟩:=h
  rfl
 obtain ⟨a,rfl,h⟩:=h
 have hu64:=hr.units
 have hu0:=hr.units0
 have hu:=bS hr
 refine ⟨_,(ai (aK (gX ["_law_event"] [none] rfl rfl (by kernel_rfl) (bz (K:=K) rfl (pv 0)) (fun _ _ _ _ _ nd=>aB (i:=0) nd rfl (Or.inl rfl)) (fun _ _ _ _ _=>(iO (aA bw (aw (ao (K:=K) rfl) (pv 0) aa (fun _ _=>rfl)) aP (ax _)))) (fun _ _ _ _ _=>(aw (ao (K:=K) rfl) (pv 0) aa (fun _ _=>rfl)))))),?_⟩
 obtain ⟨evs,tk,ha,he,le,kk⟩:=h
 have lev:=Paired.length he
 clean_wf
 intro D hD
 refine dH (K:=K) (a:=a) (xs:=evs) (fun i σ A=>∃ v ys,σ=[v]/\aE H A/\A D=some (.lst ys)/\ys.length<=i/\Paired (pP A) ys (bp (tk.take i))) ⟨none,[],rfl,aN hD,au,Nat.le_refl _,.nil⟩ (fun i σ A _ z=>by obtain ⟨_,_,_,z,_⟩:=z; exact z.seq ha) ?_ ?_
 ·rintro i x σ A hx ⟨v,ys,rfl,sA,gD,ly,py⟩
  obtain ⟨q,hq,y,hy,_⟩:=bH he hx
  obtain ⟨t,nv,cv,rfl,gt,hn,_⟩:=hy.up (.same sA)
  have st:=aZ.of (K:=K) gt
  have il:=(List.getElem?_eq_some_iff.mp hx).1
  have eo:bp (tk.take (i + 1))=if oa q=true then bp (tk.take i) ++ [q.nm] else bp (tk.take i):=by rw [bx hq,mH]
  clean_wf
  refine dN (fun c=>?_) fun c=>?_
  ·have c:oa q=true:=c
   rw [if_pos c] at eo
   clean_wf
   have su:eW A (upd A D (.lst (ys ++ [nv]))):=fun u zs e=>by rw [aG (bK e gD (by intro z; cases z))]; exact e
   refine ⟨ys,gD,aD (by omega),_,_,rfl,fun b o z=>?_,au,by rw [List.length_append]; exact Nat.succ_le_succ ly,?_⟩
   ·rw [aG (aI z hD)]
    exact sA b o z
   ·rw [eo]
    exact bE (Paired.mapP py fun _ _ y=>y.up su) (.cons (hn.up su) .nil)
  ·have c:¬ oa q=true:=c
   rw [if_neg c] at eo
   exact ⟨_,ys,rfl,sA,gD,by omega,by rw [eo]; exact py⟩
 rintro σ A ⟨v,ys,rfl,sA,gD,ly,py⟩
 rw [lev,List.take_length] at py
 exact kk A D ys sA hD gD py
end
end K81
namespace K81
open PySem L2
section
variable {P:Program} {w:World} {K:PySem.W.Frag} {mg:Str->Option Value} {base:Heap}
def F3 (H:Hp) (v:V) (es:List Ev):Prop:=∃ l evs,v=.ref l/\H l=some (.lst evs)/\Paired (hJ H) evs es
theorem F3.same {H H':Hp} (s:aE H H') {v:V} {es:List Ev} (h:F3 H v es):F3 H' v es:=by
 obtain ⟨l,evs,a,b,c⟩:=h
 exact ⟨l,evs,a,s _ _ b,Paired.mapP c fun _ _ y=>y.up (.same s)⟩
theorem Bq {es:List Ev} (h:∀ e∈es,mK e):BD (sn es).all:=by
 have key:∀ (es:List Ev) (s:Sn),(∀ e∈es,mK e)->BD ([] ++ s.all)->BD ([] ++ (es.foldl iX s).all):=by
  intro es
  induction es with
  | nil=>intro s _ w; exact w
  | cons e es ih=>intro s h w; exact ih (iX s e) (fun e' he'=>h e' (List.mem_cons_of_mem _ he')) (yW w (h e List.mem_cons_self))
 exact key es DK h (fun d hd=>nomatch hd)
theorem yd (es:List Ev):∀ d∈(sn es).all,d.tk.length<=es.length:=by
 have key:∀ (es:List Ev) (s:Sn) (n:Nat),(∀ d∈s.all,d.tk.length<=n)->∀ d∈(es.foldl iX s).all,d.tk.length<=n + es.length:=by
  intro es
  induction es with
  | nil=>intro s n h d hd; have:=h d hd; simpa using this
  | cons e es ih =>
   intro s n h d hd
   have:=ih (iX s e) (n + 1) (fun d hd=>?_) d hd
   ·rw [List.length_cons]; omega
   ·cases e with
    | L m t =>
     have hd:d∈(s.l ++ (s.c.map fun c=>(⟨c.n,c.tk,c.go || s.b⟩:Sd)).toList) ++ [⟨m,[],false⟩]:=hd
     rcases List.mem_append.mp hd with z | z
     ·rcases List.mem_append.mp z with z | z
      ·have:=h d (by unfold Sn.all; exact List.mem_append_left _ z); omega
      ·cases hc:s.c with
       | none=>rw [hc] at z; cases z
       | some c =>
        rw [hc] at z
        have e:d=⟨c.n,c.tk,c.go || s.b⟩:=by simpa using z
        have:=h c (by unfold Sn.all; rw [hc]; simp)
        rw [e]; show c.tk.length<=n + 1; omega
     ·rw [List.mem_singleton.mp z]; exact Nat.zero_le _
    | T q y =>
     have hd:d∈s.l ++ (s.c.map fun c=>(⟨c.n,c.tk ++ [q],c.go⟩:Sd)).toList:=hd
     rcases List.mem_append.mp hd with z | z
     ·have:=h d (by unfold Sn.all; exact List.mem_append_left _ z); omega
     ·cases hc:s.c with
      | none=>rw [hc] at z; cases z
      | some c =>
       rw [hc] at z
       have e:d=⟨c.n,c.tk ++ [q],c.go⟩:=by simpa using z
       have:=h c (by unfold Sn.all; rw [hc]; simp)
       rw [e]; show (c.tk ++ [q]).length<=n + 1
       rw [List.length_append,List.length_singleton]; omega
    | O m=>have:=h d hd; omega
 intro d hd
 have:=key es DK 0 (fun d hd=>nomatch hd) d hd
 omega
theorem Jo (es:List Ev) (h:es.length<=90):(sn es).all.length<=900:=by
 have key:∀ (es:List Ev) (s:Sn),(es.foldl iX s).all.length<=s.all.length + es.length:=by
  intro es
  induction es with
  | nil=>intro s; exact Nat.le_refl _
  | cons e es ih =>
   intro s
   have:=ih (iX s e)
   have h2:(iX s e).all.length<=s.all.length + 1:=by
    unfold Sn.all
    cases e with
    | L n t =>
     show ((s.l ++ (s.c.map fun c=>(⟨c.n,c.tk,c.go || s.b⟩:Sd)).toList) ++ (some (⟨n,[],false⟩:Sd)).toList).length<=_
     cases hc:s.c <;> simp
    | T q y =>
     show (s.l ++ (s.c.map fun c=>(⟨c.n,c.tk ++ [q],c.go⟩:Sd)).toList).length<=_
     cases hc:s.c <;> simp
    | O n=>exact Nat.le_succ _
   have e3:List.foldl iX s (e :: es)=List.foldl iX (iX s e) es:=rfl
   rw [e3,List.length_cons]
   omega
 have:=key es DK
 have e0:DK.all.length=0:=rfl
 unfold sn
 omega
theorem Ex {H:Hp}:∀ {evs:List V} {tk:List j2},Paired (DR H) evs tk->(∀ x∈tk,Wf x)->∃ ds,mE K H evs ds/\∀ d∈ds,d.canLay0=true/\d.depth<=3
 | _,_,.nil,_=>⟨[],.nil,(fun _ z=>nomatch z)⟩
 | _,_,.cons h t,w=>by
  obtain ⟨y,he,ly⟩:=h
  obtain ⟨ds,h1,h2⟩:=Ex t fun x hx=>w x (List.mem_cons_of_mem _ hx)
  have wx:mK (.T _ y):=⟨w _ List.mem_cons_self,ly⟩
  refine ⟨xX (.T _ y) :: ds,.cons (.p he.dp) h1,fun d hd=>?_⟩
  rcases List.mem_cons.mp hd with e | e
  ·rw [e]; exact ⟨nJ wx,uk _⟩
  ·exact h2 d e
theorem Iz {H:Hp} {v:V} {d:Sd} (h:wD H v d) (w:∀ x∈d.tk,Wf x):∃ dd,Dz K H v dd/\dd.canLay0=true:=by
 obtain ⟨t,l,g,evs,rfl,h1,h2,h3,h4⟩:=h
 obtain ⟨ds,q1,q2⟩:=Ex (K:=K) h3 w
 have hg:mE K H (if d.go=true then [.bl true] else []) (if d.go=true then [.bool true] else []):=by
  split
  ·exact .cons (.p (.bool _)) .nil
  ·exact .nil
 refine ⟨.tuple [.int d.n,.list ds,.list (if d.go=true then [.bool true] else [])],.t (aZ.of h1) (.cons (.p (.int _)) (.cons (.l (bb.of h2) q1) (.cons (.l (bb.of h4) hg) .nil))),iI (fq fun e he=>?_)⟩
 simp only [List.mem_cons,List.not_mem_nil,or_false] at he
 rcases he with rfl | rfl | rfl
 ·rfl
 ·exact qk (fq fun d hd=>(q2 d hd).1)
 ·split <;> rfl
theorem BF {H:Hp}:∀ {xs:List V} {ds:List Sd},Paired (wD H) xs ds->BD ds->∃ dd,mE K H xs dd/\PyData.canLayAll0 dd=true
 | _,_,.nil,_=>⟨[],.nil,rfl⟩
 | _,_,.cons h t,w=>by
  obtain ⟨d1,a1,a2⟩:=Iz (K:=K) h (w _ List.mem_cons_self)
  obtain ⟨dd,b1,b2⟩:=BF t fun d hd=>w d (List.mem_cons_of_mem _ hd)
  exact ⟨d1 :: dd,.cons a1 b1,by rw [PyData.canLayAll0.eq_2,a2,b2]; rfl⟩
theorem GZ {m:Int} (m0:0<=m) (h:Int):decide (Builtin.bitAnd (m / 2 ^ h.toNat) 1=0)=!jx m h:=by
 unfold jx
 obtain ⟨k,rfl⟩:=Int.eq_ofNat_of_zero_le m0
 generalize h.toNat=i
 have e:((k:Int) / 2 ^ i)=((k / 2 ^ i:Nat):Int):=by
  rw [Int.natCast_ediv]
  simp
 rw [e,qx (Int.natCast_nonneg _) (by decide),Int.toNat_natCast,Int.toNat_natCast,show Int.toNat 1=1 from rfl,Nat.and_one_is_mod,Nat.testBit_eq_decide_div_mod_eq]
 by_cases z:k / 2 ^ i % 2=1
 ·rw [decide_eq_true z,decide_eq_false (by omega)]; rfl
 ·rw [decide_eq_false z,decide_eq_true (by omega)]; rfl
end
end K81
namespace K81
open PySem L2
abbrev fF:Stmt:=i7 34
section
variable {P:Program} {w:World} {K:PySem.W.Frag} {mg:Str->Option Value} {base:Heap}
structure Ew (K:PySem.W.Frag) (H:Hp) (a b:Addr) (ahs:List (List Ev)) (mine:List Ev) (SD:List Sd):Prop where
 xs:∃ xs,bb K H a xs/\Paired (F3 H) xs (ahs ++ [mine])
 ys:∃ ys,bb K H b ys/\Paired (wD H) ys SD
 tk:xM mine
 ln:mine.length<=90
 we:∀ es∈ahs ++ [mine],∀ e∈es,mK e
 ds:∀ d∈SD,d.tk.length<=90
 wf:BD SD
theorem Ew.same {H H':Hp} {a b:Addr} {ahs:List (List Ev)} {mine:List Ev} {SD:List Sd} (h:Ew K H a b ahs mine SD) (s:aE H H'):Ew K H' a b ahs mine SD:=by
 obtain ⟨xs,h1,h2⟩:=h.xs
 obtain ⟨ys,h3,h4⟩:=h.ys
 exact ⟨⟨xs,s.seq h1,Paired.mapP h2 fun _ _ y=>y.same s⟩,⟨ys,s.seq h3,Paired.mapP h4 fun _ _ y=>y.same s⟩,h.tk,h.ln,h.we,h.ds,h.wf⟩
theorem Ew.last {H:Hp} {a b:Addr} {ahs:List (List Ev)} {mine:List Ev} {SD:List Sd} (h:Ew K H a b ahs mine SD):∃ xs l evs,bb K H a xs/\Paired (F3 H) xs (ahs ++ [mine])/\jG xs (-1)=some (.ref l)/\H l=some (.lst evs)/\Paired (hJ H) evs mine/\∀ e∈mine,mK e:=by
 obtain ⟨xs,h1,h2⟩:=h.xs
 have ll:=Paired.length h2
 rw [List.length_append,List.length_singleton] at ll
 obtain ⟨x,hx,l,evs,rfl,g,p⟩:=gZ h2 (i:=ahs.length) (y:=mine) (by rw [List.getElem?_append_right (Nat.le_refl _),Nat.sub_self]; rfl)
 have e:xs=xs.take ahs.length ++ [.ref l]:=by
  conv=>lhs; rw [← List.take_length (l:=xs),ll,bx hx]
 refine ⟨xs,l,evs,h1,h2,?_,g,p,h.we mine (List.mem_append_right _ (List.mem_singleton.mpr rfl))⟩
 rw [e]
 exact j9
theorem qi {H:Hp} {ms:List V} {s:Sn} {c:Sd} (pm:Paired (wD H) ms s.all) (hc:s.c=some c):∃ v,jG ms (-1)=some v/\wD H v c:=by
 unfold Sn.all at pm
 rw [hc] at pm
 have ll:=Paired.length pm
 have pm:Paired (wD H) ms (s.l ++ [c]):=pm
 have ll:ms.length=s.l.length + 1:=by rw [ll,List.length_append]; rfl
 obtain ⟨x,hx,clean_wf⟩:=gZ pm (i:=s.l.length) (y:=c) (by rw [List.getElem?_append_right (Nat.le_refl _),Nat.sub_self]; rfl)
 refine ⟨x,?_,clean_wf⟩
 have e:ms=ms.take s.l.length ++ [x]:=by
  conv=>lhs; rw [← List.take_length (l:=ms),ll,bx hx]
 rw [e]
 exact j9
theorem kL {α:Type} {l:List α} {p:α->Bool} {i:Nat} {x:α} (h:l[i]?=some x) (a:(l.take i).any p=false):(l.take (i + 1)).any p=p x:=by
 rw [bx h,List.any_append,a]
 simp
theorem uY {α:Type} {l:List α} {p:α->Bool} {i:Nat} {x:α} (h:l[i]?=some x) (a:p x=true):l.any p=true:=List.any_eq_true.mpr ⟨x,List.mem_of_getElem? h,a⟩
def iN (K:PySem.W.Frag):Sp:=fun vs H Q _=>∃ (hand:Int) (a b:Addr) (ev:V),vs=[.int hand,.ref a,.ref b,ev]/\∃ ahs mine SD n t,Ew K H a b ahs mine SD/\hJ H ev (.L n t)/\0<=hand/\∀ H',aE H H'->Q (oS (ph hand (ahs ++ [mine]).flatten SD (sn mine) n t)) H'
theorem aO:aW ["_law_hand","_law_ahead","_law_stood","_law_event","_law_mine","_law_stands_here","_law_ways","_law_events","_law_one","_law_taken","_law_ones_here","_law_number","_law_takes","_law_goes"] ["_law_hand","_law_ahead","_law_stood","_law_event"] (aF fF):=⟨rfl,rfl,rfl,by decide +kernel,rfl,by decide +kernel,by decide +kernel⟩
theorem nF {f cG eP fX:Addr} {fd cj dW e9:FuncData} (F:cM K "_law_list_rule" "_law_list_rule" fF f fd)
  (dM:aT P w K mg base cy 1 cG cj ["_law_events"] (fh K)) (dJ:dP K mg "_law_stands" cG cj ["_law_events"])
  (fS:aT P w K mg base cy 1 eP dW ["_law_takes"] (hV K)) (fP:dP K mg "_law_counts" eP dW ["_law_takes"])
  (fV:aT P w K mg base cy 1 fX e9 ["_law_takes"] (jK K)) (fY:dP K mg "_law_ones" fX e9 ["_law_takes"]) (dE:mg "len"=none):aT P w K mg base cy 2 f fd ["_law_hand","_law_ahead","_law_stood","_law_event"] (iN K):=by
 refine F.ok aO (fun vs H Q E h=>?_) (fun cdv A outer s H vs Q E hr h=>?_)
 ·obtain ⟨hand,a,b,ev,rfl,_⟩:=h
  rfl
 obtain ⟨hand,a,b,ev,rfl,h⟩:=h
 have hu64:=hr.units
 have hu0:=hr.units0
 have hu:=bS hr
 refine ⟨_,(af (iW (bI dM dJ hr (ae (aw (aM (K:=K) rfl) (pv 1) (eN c9 aa) (fun _ _=>rfl)) aj)) (cY (K:=K) (n:=2) rfl rfl (aS (aB (i:=4) aO.nd rfl (Or.inl rfl)) (aS (aB (i:=5) aO.nd rfl (Or.inl rfl)) cX))))
   (af (a8 (PW.pt (rO (aA (ia (K:=K) rfl hu64) (gX ["_law_event","_law_one"] [some 3,none] rfl rfl (by kernel_rfl) (bz (K:=K) rfl (pv 4)) (fun _ _ _ _ _ nd=>aB (i:=1) nd rfl (Or.inl rfl)) (fun _ _ _ _ _=>(iO (aA Ce (aw (ao (K:=K) rfl) (pv 1) aa (fun _ _=>rfl)) (aw (ao (K:=K) rfl) (pv 0) aa (fun _ _=>rfl)) (ax _)))) (fun _ _ _ _ _=>(pv 1))) (bX aj) (ax _)) (oj (PW.pt (eX (je (K:=K) rfl (pv 5)) (fR (aA i6 (aq bu (aw (ao (K:=K) rfl) (aw (aM (K:=K) rfl) (pv 4) (eN c9 aa) (fun _ _=>rfl)) aa (fun _ _=>rfl)) aa) (aw (ao (K:=K) rfl) (pv 3) aa (fun _ _=>rfl)) (ax _)))))))) (ai (aK aP)) aJ)
   (af (aC (i:=6) aO.nd rfl (Or.inl rfl) (aw (ao (K:=K) rfl) (pv 3) aa (fun _ _=>rfl)))
   (af (a8 (je (K:=K) rfl (pv 5)) (ai (aC (i:=6) aO.nd rfl (Or.inl rfl) (aw (ao (K:=K) rfl) (pv 3) aa (fun _ _=>rfl)))) aJ)
   (af (a8 (PW.pt (rO (aA bw (aq iY (aq kI (aw (ao (K:=K) rfl) (pv 3) aa (fun _ _=>rfl)) (pv 0)) aa) aa (ax _)) (oj (aA bw (aq iY (aq kI (pv 6) (pv 0)) aa) aa (ax _))))) (ai (aK aP)) aJ)
   (af (cA PassesOwn.never rfl (bz (K:=K) rfl (pv 1)) (aB (i:=7) aO.nd rfl (Or.inl rfl))
   (ai (cA PassesOwn.never rfl (bz (K:=K) rfl (pv 7)) (aB (i:=8) aO.nd rfl (Or.inl rfl))
   (ai (a8 (PW.pt (eX (aA bw (aw (ao (K:=K) rfl) (pv 8) aa (fun _ _=>rfl)) aP (ax _)) (eX (aA bw (aw (ao (K:=K) rfl) (pv 8) aa (fun _ _=>rfl)) (aw (ao (K:=K) rfl) (pv 3) aa (fun _ _=>rfl)) (ax _)) (fR (aA (ia (K:=K) rfl hu64) (pv 8) (pv 3) (ax _)))))) (ai (aK aP)) aJ)))))
   (af (a8 (sF (je (K:=K) rfl (pv 5))) (ai (aK dy)) aJ)
   (af (aC (i:=9) aO.nd rfl (Or.inl rfl) (aw (ao (K:=K) rfl) (aw (aM (K:=K) rfl) (pv 4) (eN c9 aa) (fun _ _=>rfl)) aa (fun _ _=>rfl)))
   (af (aC (i:=10) aO.nd rfl (Or.inl rfl) (bI fV fY hr (ae (pv 9) aj)))
   (af (cA PassesOwn.never rfl (bz (K:=K) rfl (pv 2)) (cY (K:=K) (n:=3) rfl rfl (aS (aB (i:=11) aO.nd rfl (Or.inl rfl)) (aS (aB (i:=12) aO.nd rfl (Or.inl rfl)) (aS (aB (i:=13) aO.nd rfl (Or.inl rfl)) cX))))
   (ai (a8 (PW.pt (eX (aA bw (pv 11) (aw (ao (K:=K) rfl) (aw (aM (K:=K) rfl) (pv 4) (eN c9 aa) (fun _ _=>rfl)) aa (fun _ _=>rfl)) (ax _)) (fR (aA xm (bj (bQ (K:=K) rfl) (by rfl) dE PySem.boot_len (ae (bI fV fY hr (ae (pv 12) aj)) aj)) (bj (bQ (K:=K) rfl) (by rfl) dE PySem.boot_len (ae (pv 10) aj)) (ax _))))) (ai (aK aP)) aJ)))
   (af (cA PassesOwn.never rfl (bz (K:=K) rfl (pv 2)) (cY (K:=K) (n:=3) rfl rfl (aS (aB (i:=11) aO.nd rfl (Or.inl rfl)) (aS (aB (i:=12) aO.nd rfl (Or.inl rfl)) (aS (aB (i:=13) aO.nd rfl (Or.inl rfl)) cX))))
   (ai (a8 (PW.pt (eX (aA bw (pv 11) (aw (ao (K:=K) rfl) (aw (aM (K:=K) rfl) (pv 4) (eN c9 aa) (fun _ _=>rfl)) aa (fun _ _=>rfl)) (ax _)) (eX (aA (ia (K:=K) rfl hu64) (pv 13) (bX aj) (ax _)) (fR (aA (AQ hu0) (bI fS fP hr (ae (pv 12) aj)) (bI fS fP hr (ae (pv 9) aj)) (ax _)))))) (ai (aK aP)) aJ)))
   (ai (aK dy))))))))))))),?_⟩
 obtain ⟨ahs,mine,SD,n,t,AI,he,h0,kk⟩:=h
 obtain ⟨xs,l,evs,ha,hx,al,gl,pl,wm⟩:=AI.last
 have sl:=bb.of (K:=K) gl
 have he':=he
 obtain ⟨te,rfl,gt,p1,p2,p3⟩:=he
 have ste:=aZ.of (K:=K) gt
 have kk:∀ o H',ph hand (ahs ++ [mine]).flatten SD (sn mine) n t=o->aE H H'->Q (oS o) H':=fun o H' h s=>h ▸ kk H' s
 refine bD (fun σ' H1=>∃ f ms,σ'=[some (.int hand),some (.ref a),some (.ref b),some (.ref te),some (.ref f),some (.bl (sn mine).b),none,none,none,none,none,none,none,none]/\aE H H1/\H1 f=some (.lst ms)/\Paired (wD H1) ms (sn mine).all) ?_ fun N rest=>?_
 rotate_left
 ·clean_wf
  refine ⟨l,rfl,evs,mine,sl,pl,AI.tk,AI.ln,wm,fun H1 t1 f ms s1 hf g1 gf pm=>?_⟩
  have st1:=aZ.of (K:=K) g1
  clean_wf
  exact rest _ _ ⟨f,ms,rfl,s1,gf,pm⟩
 rintro σ' H1 ⟨f,ms,rfl,s1,gf,pm⟩
 have sf:=bb.of (K:=K) gf
 have wfm:=Bq wm
 have lsn:=yd mine
 have lm:=Paired.length pm
 have eR:ph hand (ahs ++ [mine]).flatten SD (sn mine) n t=ph hand (ahs ++ [mine]).flatten SD (sn mine) n t:=rfl
 conv at eR=>lhs; unfold ph
 have bc:=yQ mine
 generalize hs:sn mine=s at *
 refine bD (fun σ' H2=>σ'=[some (.int hand),some (.ref a),some (.ref b),some (.ref te),some (.ref f),some (.bl s.b),none,none,none,none,none,none,none,none]/\aE H1 H2/\pO s n=false) ?_ fun N rest=>?_
 rotate_left
 ·have gt1:=s1 _ _ gt
  have ste1:=aZ.of (K:=K) gt1
  clean_wf
  intro E hE
  refine dH (K:=K) (a:=f) (xs:=ms) (fun i σ A=>∃ v ys,σ=[some (.ref te),v]/\aE H1 A/\A E=some (.lst ys)/\ys.length<=i/\Paired (wD H1) ys ((s.all.take i).filter fun d=>decide (n<=d.n))) ⟨none,[],rfl,aN hE,au,Nat.le_refl _,.nil⟩ (fun i σ A _ z=>by obtain ⟨_,_,_,z,_⟩:=z; exact z.seq sf) ?_ ?_
  ·rintro i x σ A hx' ⟨v,ys,rfl,sA,gE,ly,py⟩
   obtain ⟨d,hd,sd⟩:=bH pm hx'
   have sd0:=sd
   obtain ⟨td,ld,gd,ed,rfl,e1,_⟩:=sd.same sA
   have std:=aZ.of (K:=K) e1
   have ste2:=aZ.of (K:=K) (sA _ _ gt1)
   have il:=(List.getElem?_eq_some_iff.mp hx').1
   have lal:s.all.length<=900:=by rw [← hs]; exact Jo mine AI.ln
   have eF:(s.all.take (i + 1)).filter (fun d=>decide (n<=d.n))=if n<=d.n then (s.all.take i).filter (fun d=>decide (n<=d.n)) ++ [d] else (s.all.take i).filter (fun d=>decide (n<=d.n)):=by
    rw [bx hd,List.filter_append]
    by_cases c:n<=d.n
    ·rw [if_pos c,List.filter_cons,if_pos (decide_eq_true c)]; rfl
    ·rw [if_neg c,List.filter_cons,if_neg (by rw [decide_eq_false c]; exact Bool.false_ne_true)]; exact List.append_nil _
   clean_wf
   refine dN (fun c=>?_) fun c=>?_
   ·have c:=of_decide_eq_true c
    rw [if_pos c] at eF
    clean_wf
    refine ⟨ys,gE,aD (by omega),_,_,rfl,fun b o z=>?_,au,by rw [List.length_append]; exact Nat.succ_le_succ ly,by rw [eF]; exact bE py (.cons sd0 .nil)⟩
    rw [aG (aI z hE)]
    exact sA b o z
   ·have c:=of_decide_eq_false (Bool.eq_false_iff.mpr c)
    rw [if_neg c] at eF
    exact ⟨_,ys,rfl,sA,gE,by omega,by rw [eF]; exact py⟩
  rintro σ A ⟨v,ys,rfl,sA,gE,ly,py⟩
  rw [lm,List.take_length] at py
  obtain ⟨dd,z1,z2⟩:=BF (K:=K) (Paired.mapP py fun _ _ y=>y.same sA) (fun d hd=>wfm d (List.mem_filter.mp hd).1)
  have lpy:=Paired.length py
  have gfA:=sA _ _ gf
  have sfA:=bb.of (K:=K) gfA
  have gtA:=sA _ _ gt1
  have steA:=aZ.of (K:=K) gtA
  clean_wf
  intro e0 A1 he0 t1 ge0
  have sm:∀ {xs:List V} {ds:List PyData},mE K A xs ds->mE K A1 xs ds:=fun h=>h.same t1
  refine kJ (bb.of (t1 _ _ gE)) (sm z1) z2 (bb.of ge0) ?_
  have eAny:(!ys.isEmpty)=s.all.any fun d=>decide (n<=d.n):=by
   rw [Bool.eq_iff_iff,Bool.not_eq_true',List.isEmpty_eq_false_iff,List.any_eq_true]
   constructor
   ·intro h
    have:0 < ((s.all.filter fun d=>decide (n<=d.n))).length:=by rw [← lpy]; exact List.length_pos_iff.mpr h
    obtain ⟨d,hd⟩:=List.exists_mem_of_length_pos this
    exact ⟨d,(List.mem_filter.mp hd).1,(List.mem_filter.mp hd).2⟩
   ·rintro ⟨d,h1,h2⟩
    have:d∈s.all.filter fun d=>decide (n<=d.n):=List.mem_filter.mpr ⟨h1,h2⟩
    refine List.length_pos_iff.mp ?_
    rw [lpy]
    exact List.length_pos_of_mem this
  rw [eAny]
  have sA1:aE H1 A1:=sA.trans t1
  cases b1:s.all.any fun d=>decide (n<=d.n) with
  | true =>
   have en:pO s n=true:=by unfold pO; rw [b1]; rfl
   clean_wf
   exact kk (some "number") A1 (by rw [← eR,if_pos en]) (s1.trans sA1)
  | false =>
   clean_wf
   cases b2:s.b with
   | false =>
    have en:pO s n=false:=by unfold pO; rw [b1,b2]; rfl
    rw [b2] at rest
    clean_wf
    exact rest _ A1 ⟨rfl,sA1,en⟩
   | true =>
    rw [b2] at rest
    obtain ⟨c,hc⟩:=bc b2
    obtain ⟨vc,ac,tc,lc,gc,ec,rfl,q1,q2,q3,q4⟩:=qi pm hc
    have stc:=aZ.of (K:=K) (sA1 _ _ q1)
    have sf1:=bb.of (K:=K) (sA1 _ _ gf)
    have ste1':=aZ.of (K:=K) (sA1 _ _ gt1)
    have en:pO s n=decide (c.n + 1≠n):=by
     unfold pO
     rw [b1,b2,Bool.false_or,Bool.true_and,hc]
    clean_wf
    by_cases e:c.n + 1=n
    ·rw [decide_eq_true e]
     clean_wf
     exact rest _ A1 ⟨rfl,sA1,by rw [en]; exact decide_eq_false (fun z=>z e)⟩
    ·rw [decide_eq_false e]
     clean_wf
     exact kk (some "number") A1 (by rw [← eR,if_pos (by rw [en]; exact decide_eq_true e)]) (s1.trans sA1)
 rintro σ' H2 ⟨rfl,s2,en⟩
 rw [if_neg (by rw [en]; exact Bool.false_ne_true)] at eR
 have s02:=s1.trans s2
 have gt2:=s02 _ _ gt
 have ste2:=aZ.of (K:=K) gt2
 have gf2:=s2 _ _ gf
 have sf2:=bb.of (K:=K) gf2
 have pm2:Paired (wD H2) ms s.all:=Paired.mapP pm fun _ _ y=>y.same s2
 have AI2:=AI.same s02
 have he2:=he'.up (.same s02)
 refine bD (fun σ' H3=>H2=H3/\σ'=[some (.int hand),some (.ref a),some (.ref b),some (.ref te),some (.ref f),some (.bl s.b),some (.int t.2.2),none,none,none,none,none,none,none]) ?_ fun N rest=>?_
 rotate_left
 ·clean_wf
  exact rest _ _ ⟨rfl,rfl⟩
 rintro σ' _ ⟨rfl,rfl⟩
 refine bD (fun σ' H3=>H2=H3/\σ'=[some (.int hand),some (.ref a),some (.ref b),some (.ref te),some (.ref f),some (.bl s.b),some (.int (if s.b=true then t.2.1 else t.2.2)),none,none,none,none,none,none,none]) ?_ fun N rest=>?_
 rotate_left
 ·cases b2:s.b with
  | false=>rw [b2] at rest; clean_wf; exact rest _ _ ⟨rfl,rfl⟩
  | true=>rw [b2] at rest; clean_wf; exact rest _ _ ⟨rfl,rfl⟩
 rintro σ' _ ⟨rfl,rfl⟩
 have w0':0<=(if s.b=true then t.2.1 else t.2.2):=by split <;> assumption
 generalize hw:(if s.b=true then t.2.1 else t.2.2)=wy at *
 refine bD (fun σ' H3=>H2=H3/\σ'=[some (.int hand),some (.ref a),some (.ref b),some (.ref te),some (.ref f),some (.bl s.b),some (.int wy),none,none,none,none,none,none,none]/\(!jx t.1 hand || !jx wy hand)=false) ?_ fun N rest=>?_
 rotate_left
 ·clean_wf
  rw [GZ p1 hand]
  cases y1:jx t.1 hand with
  | false =>
   clean_wf
   exact kk (some "hands") H2 (by rw [← eR,y1]; rfl) s02
  | true =>
   clean_wf
   rw [GZ w0' hand]
   cases y2:jx wy hand with
   | false =>
    clean_wf
    exact kk (some "hands") H2 (by rw [← eR,y1,y2]; rfl) s02
   | true =>
    clean_wf
    exact rest _ _ ⟨rfl,rfl,by rw [y1,y2]; rfl⟩
 rintro σ' _ ⟨rfl,rfl,eh⟩
 rw [if_neg (by rw [eh]; exact Bool.false_ne_true)] at eR
 obtain ⟨xs2,ha2,hx2⟩:=AI2.xs
 have lx2:=Paired.length hx2
 refine bD (fun σ' H3=>H2=H3/\(∃ v7 v8,σ'=[some (.int hand),some (.ref a),some (.ref b),some (.ref te),some (.ref f),some (.bl s.b),some (.int wy),v7,v8,none,none,none,none,none])/\(ahs ++ [mine]).flatten.any (ke n t)=false) ?_ fun N rest=>?_
 rotate_left
 ·clean_wf
  refine bZ (K:=K) (a:=a) (xs:=xs2) (fun i σ A=>H2=A/\(∃ v7 v8,σ=[some (.int hand),some (.ref a),some (.ref b),some (.ref te),some (.ref f),some (.bl s.b),some (.int wy),v7,v8,none,none,none,none,none])/\((ahs ++ [mine]).take i).flatten.any (ke n t)=false) ⟨rfl,⟨none,none,rfl⟩,rfl⟩ (fun i σ A _ z=>by rw [← z.1]; exact ha2) ?_ ?_
  ·rintro i x σ _ hxi ⟨rfl,⟨v7,v8,rfl⟩,no⟩
   obtain ⟨es,hes,l',evs',rfl,gl',pe⟩:=bH hx2 hxi
   have sl':=bb.of (K:=K) gl'
   have wes:=AI2.we es (List.mem_of_getElem? hes)
   clean_wf
   refine bZ (K:=K) (a:=l') (xs:=evs') (fun j σ A=>H2=A/\(∃ v8,σ=[some (.int hand),some (.ref a),some (.ref b),some (.ref te),some (.ref f),some (.bl s.b),some (.int wy),some (.ref l'),v8,none,none,none,none,none])/\(es.take j).any (ke n t)=false) ⟨rfl,⟨v8,rfl⟩,rfl⟩ (fun i σ A _ z=>by rw [← z.1]; exact sl') ?_ ?_
   ·rintro j y σ _ hyj ⟨rfl,⟨v8',rfl⟩,no2⟩
    obtain ⟨e,hej,hea⟩:=bH pe hyj
    have we':=wes e (List.mem_of_getElem? hej)
    have step:=kL hej no2
    have dpe:=hea.dp (K:=K)
    cases e with
    | L m u =>
     obtain ⟨tu,rfl,gu,_⟩:=hea
     have stu:=aZ.of (K:=K) gu
     have eo:ke n t (.L m u)=(decide (m=n) && decide (u≠t)):=rfl
     clean_wf
     rw [decide_eq_true (rfl:("list":Str)="list")]
     clean_wf
     by_cases em:m=n
     ·rw [decide_eq_true em]
      clean_wf
      have dpt:=he2.dp (K:=K)
      refine ⟨xX (.L m u),xX (.L n t),.p dpe,.p dpt,nJ we',nJ (e:=.L n t) ⟨p1,p2,p3⟩,by have:=uk (.L m u); omega,?_⟩
      rw [em,BQ]
      by_cases eu:u=t
      ·rw [decide_eq_true eu]
       clean_wf
       exact ⟨rfl,⟨_,rfl⟩,by rw [step,eo,eu]; simp⟩
      ·rw [decide_eq_false eu]
       clean_wf
       refine kk (some "lists") H2 ?_ s02
       have:(ahs ++ [mine]).flatten.any (ke n t)=true:=by
        rw [List.any_eq_true]
        exact ⟨.L m u,List.mem_flatten.mpr ⟨es,List.mem_of_getElem? hes,List.mem_of_getElem? hej⟩,by rw [eo,decide_eq_true em,decide_eq_true eu]; rfl⟩
       rw [← eR,if_pos this]
     ·rw [decide_eq_false em]
      clean_wf
      exact ⟨rfl,⟨_,rfl⟩,by rw [step,eo,decide_eq_false em]; rfl⟩
    | T q w1 =>
     obtain ⟨tu,nv,cv,rfl,gu,_⟩:=hea
     have stu:=aZ.of (K:=K) gu
     clean_wf
     rw [vx]
     clean_wf
     exact ⟨rfl,⟨_,rfl⟩,by rw [step]; rfl⟩
    | O m =>
     obtain ⟨tu,rfl,gu⟩:=hea
     have stu:=aZ.of (K:=K) gu
     clean_wf
     rw [vH]
     clean_wf
     exact ⟨rfl,⟨_,rfl⟩,by rw [step]; rfl⟩
   rintro σ _ ⟨rfl,⟨v8',rfl⟩,no2⟩
   rw [Paired.length pe,List.take_length] at no2
   exact ⟨rfl,⟨_,_,rfl⟩,by rw [bx hes,List.flatten_append,List.any_append,no,List.flatten_singleton,no2]; rfl⟩
  rintro σ _ ⟨rfl,⟨v7,v8,rfl⟩,no⟩
  rw [lx2,List.take_length] at no
  exact rest _ _ ⟨rfl,⟨_,_,rfl⟩,no⟩
 rintro σ' _ ⟨rfl,⟨v7,v8,rfl⟩,el⟩
 rw [if_neg (by rw [el]; exact Bool.false_ne_true)] at eR
 cases b2:s.b with
 | false =>
  refine cK ?_
  clean_wf
  exact kk none H2 (by rw [← eR,b2]; rfl) s02
 | true =>
  obtain ⟨c,hc⟩:=bc b2
  rw [if_pos b2,hc] at eR
  dsimp only at eR
  obtain ⟨vc,ac,tc,lc,gc,ec,rfl,q1,q2,q3,q4⟩:=qi pm2 hc
  have cin:c∈s.all:=by unfold Sn.all; rw [hc]; simp
  have ltk:=lsn c cin
  have mln:=AI.ln
  have wtk:=wfm c cin
  have stc:=aZ.of (K:=K) q1
  have slc:=bb.of (K:=K) q2
  refine cK ?_
  clean_wf
  refine ⟨lc,rfl,ec,c.tk,slc,q3,by omega,fun H3 lo ys3 s3 hlo glo po=>?_⟩
  have s03:=s02.trans s3
  obtain ⟨sy,hsy,psy⟩:=(AI2.same s3).ys
  have lsy:=Paired.length psy
  have lo3:=Paired.length po
  have gf3:=s3 _ _ gf2
  refine bD (fun σ' H4=>(∃ v11 v12 v13,σ'=[some (.int hand),some (.ref a),some (.ref b),some (.ref te),some (.ref f),some (.bl true),some (.int wy),v7,v8,some (.ref lc),some (.ref lo),v11,v12,v13])/\aE H3 H4/\SD.any (rC c)=false) ?_ fun N rest=>?_
  rotate_left
  ·clean_wf
   refine bZ (K:=K) (a:=b) (xs:=sy) (fun i σ A=>(∃ v11 v12 v13,σ=[some (.int hand),some (.ref a),some (.ref b),some (.ref te),some (.ref f),some (.bl true),some (.int wy),v7,v8,some (.ref lc),some (.ref lo),v11,v12,v13])/\aE H3 A/\(SD.take i).any (rC c)=false) ⟨⟨none,none,none,rfl⟩,.refl _,rfl⟩ (fun i σ A _ z=>z.2.1.seq hsy) ?_ ?_
   ·rintro i x σ A hxi ⟨⟨v11,v12,v13,rfl⟩,sA,no⟩
    obtain ⟨d,hd,sd⟩:=bH psy hxi
    have step:=kL hd no
    have dm:=List.mem_of_getElem? hd
    have ld:=AI.ds d dm
    obtain ⟨td,ldd,gdd,edd,rfl,e1,e2,e3,e4⟩:=sd.same sA
    have std:=aZ.of (K:=K) e1
    have sld:=bb.of (K:=K) e2
    have sfA:=bb.of (K:=K) (sA _ _ gf3)
    have stcA:=aZ.of (K:=K) ((s3.trans sA) _ _ q1)
    have eo:rC c d=(decide (d.n=c.n) && decide ((bp c.tk).length < (bp d.tk).length)):=rfl
    clean_wf
    by_cases en':d.n=c.n
    ·rw [decide_eq_true en']
     clean_wf
     refine ⟨ldd,rfl,edd,d.tk,sld,e3,ld,fun A1 lo1 yo1 t1 hlo1 glo1 po1=>?_⟩
     have l1:=Paired.length po1
     have sl1:=bb.of (K:=K) glo1
     have sl2:=bb.of (K:=K) ((sA.trans t1) _ _ glo)
     clean_wf
     by_cases lt:(bp c.tk).length < (bp d.tk).length
     ·rw [decide_eq_true (show ((ys3.length:Nat):Int) < ((yo1.length:Nat):Int) by omega)]
      clean_wf
      refine kk (some "one") A1 ?_ (s03.trans (sA.trans t1))
      rw [← eR,if_pos (uY hd (by rw [eo,decide_eq_true en',decide_eq_true lt]; rfl))]
     ·rw [decide_eq_false (show ¬ ((ys3.length:Nat):Int) < ((yo1.length:Nat):Int) by omega)]
      clean_wf
      exact ⟨⟨_,_,_,rfl⟩,sA.trans t1,by rw [step,eo,decide_eq_false lt,Bool.and_false]⟩
    ·rw [decide_eq_false en']
     clean_wf
     exact ⟨⟨_,_,_,rfl⟩,sA,by rw [step,eo,decide_eq_false en']; rfl⟩
   rintro σ A ⟨⟨v11,v12,v13,rfl⟩,sA,no⟩
   rw [lsy,List.take_length] at no
   exact rest _ _ ⟨⟨_,_,_,rfl⟩,sA,no⟩
  rintro σ' H4 ⟨⟨v11,v12,v13,rfl⟩,s4,eo1⟩
  rw [if_neg (by rw [eo1]; exact Bool.false_ne_true)] at eR
  have s04:=s03.trans s4
  have hsy4:=s4.seq hsy
  clean_wf
  refine bZ (K:=K) (a:=b) (xs:=sy) (fun i σ A=>(∃ v11 v12 v13,σ=[some (.int hand),some (.ref a),some (.ref b),some (.ref te),some (.ref f),some (.bl true),some (.int wy),v7,v8,some (.ref lc),some (.ref lo),v11,v12,v13])/\aE H4 A/\(SD.take i).any (r6 c)=false) ⟨⟨_,_,_,rfl⟩,.refl _,rfl⟩ (fun i σ A _ z=>z.2.1.seq hsy4) ?_ ?_
  ·rintro i x σ A hxi ⟨⟨v11,v12,v13,rfl⟩,sA,no⟩
   obtain ⟨d,hd,sd⟩:=bH psy hxi
   have step:=kL hd no
   have dm:=List.mem_of_getElem? hd
   have s4A:=s4.trans sA
   obtain ⟨td,ldd,gdd,edd,rfl,e1,e2,e3,e4⟩:=sd.same s4A
   have std:=aZ.of (K:=K) e1
   have sfA:=bb.of (K:=K) (s4A _ _ gf3)
   have stcA:=aZ.of (K:=K) ((s3.trans s4A) _ _ q1)
   have eo:r6 c d=(decide (d.n=c.n) && (d.go && !fz (a9 d.tk) (a9 c.tk))):=rfl
   clean_wf
   by_cases en':d.n=c.n
   ·rw [decide_eq_true en']
    clean_wf
    intro z0 A0 hz0 t0 gz0
    have hg:mE K A0 (if d.go=true then [.bl true] else []) (if d.go=true then [.bool true] else []):=by
     split
     ·exact .cons (.p (.bool _)) .nil
     ·exact .nil
    refine kJ (bb.of (t0 _ _ e4)) hg (by split <;> rfl) (bb.of gz0) ?_
    cases dg:d.go with
    | false =>
     rw [if_neg Bool.false_ne_true]
     clean_wf
     exact ⟨⟨_,_,_,rfl⟩,sA.trans t0,by rw [step,eo,dg,Bool.false_and,Bool.and_false]⟩
    | true =>
     rw [if_pos rfl,show (![V.bl true].isEmpty)=true from rfl]
     clean_wf
     refine ⟨ldd,rfl,edd,d.tk,bb.of (t0 _ _ e2),Paired.mapP e3 fun _ _ y=>y.up (.same t0),AI.wf d dm,fun A1 d1 t1 hd1 gd1=>?_⟩
     have lcA1:=(s3.trans (s4A.trans (t0.trans t1))) _ _ q2
     clean_wf
     refine ⟨lc,rfl,ec,c.tk,bb.of lcA1,Paired.mapP q3 fun _ _ y=>y.up (.same (s3.trans (s4A.trans (t0.trans t1)))),wtk,fun A2 d2 t2 hd2 gd2=>?_⟩
     refine ⟨d1,d2,a9 d.tk,a9 c.tk,rfl,rfl,.inl (t2 _ _ gd1),.inl gd2,?_⟩
     cases sb:fz (a9 d.tk) (a9 c.tk) with
     | true =>
      clean_wf
      exact ⟨⟨_,_,_,rfl⟩,sA.trans (t0.trans (t1.trans t2)),by rw [step,eo,dg,sb]; simp⟩
     | false =>
      clean_wf
      refine kk (some "together") A2 ?_ (s04.trans (sA.trans (t0.trans (t1.trans t2))))
      rw [← eR,if_pos (uY hd (by rw [eo,decide_eq_true en',dg,sb]; rfl))]
   ·rw [decide_eq_false en']
    clean_wf
    exact ⟨⟨_,_,_,rfl⟩,sA,by rw [step,eo,decide_eq_false en']; rfl⟩
  rintro σ A ⟨⟨v11,v12,v13,rfl⟩,sA,no⟩
  rw [lsy,List.take_length] at no
  clean_wf
  exact kk none A (by rw [← eR,if_neg (by rw [no]; exact Bool.false_ne_true)]) (s04.trans sA)
end
end K81
namespace K81
open PySem L2
abbrev fG:Stmt:=i7 35
section
variable {P:Program} {w:World} {K:PySem.W.Frag} {mg:Str->Option Value} {base:Heap}
theorem pP.dz {H:Hp} {v:V} {p:sL} (h:pP H v p):Dz K H v (BK p):=by
 obtain ⟨t,rfl,e⟩:=h
 exact .p (.tup (aZ.of e) (.cons (.int _) (.cons (.int _) (.cons (.int _) .nil))))
theorem xw.dz {H:Hp} {v:V} {p:zF} (h:xw H v p):Dz K H v (Af p):=by
 obtain ⟨t,cv,rfl,e,⟨u,xs,rfl,e2,e3⟩,_⟩:=h
 exact .p (.tup (aZ.of e) (.cons (.str _) (.cons (.int _) (.cons (.tup (aZ.of e2) e3.dps) .nil))))
theorem CD {H:Hp} {v u:V} {Q:VK} {m t:sL} (h1:pP H v m) (h2:pP H u t) (q:Q (.bl (decide (m=t))) H):Df K v u H Q :=
 ⟨BK m,BK t,h1.dz,h2.dz,rfl,rfl,by have:=uo m; omega,by rw [t8]; exact q⟩
theorem Dt {H:Hp} {v u:V} {Q:VK} {m t:sL} (h1:pP H v m) (h2:pP H u t) (q:Q (.bl (!decide (m=t))) H):zQ K v u H Q :=
 ⟨BK m,BK t,h1.dz,h2.dz,rfl,rfl,by have:=uo m; omega,by rw [t8]; exact q⟩
theorem Dm {H:Hp} {v u:V} {Q:VK} {m t:zF} (h1:xw H v m) (h2:xw H u t) (q:Q (.bl (!decide (m=t))) H):zQ K v u H Q:=by
 have l1:(PyData.str m.1).canLay0=true:=by obtain ⟨_,_,_,_,_,l⟩:=h1; exact l
 have l2:(PyData.str t.1).canLay0=true:=by obtain ⟨_,_,_,_,_,l⟩:=h2; exact l
 exact ⟨Af m,Af t,h1.dz,h2.dz,qm l1,qm l2,by have:=zj m; omega,by rw [zk]; exact q⟩
theorem vN {H:Hp}:∀ {xs:List V} {ds:List PyData},vn K H xs ds->mE K H xs ds
 | _,_,.nil=>.nil
 | _,_,.cons h t=>.cons (.p h) (vN t)
def iV (K:PySem.W.Frag):Sp:=fun vs H Q _=>∃ (a b:Addr) (ev:V),vs=[.ref a,.ref b,ev]/\∃ ahs mine SD x y,Ew K H a b ahs mine SD/\hJ H ev (.T x y)/\Wf x/\∀ H',aE H H'->Q (oS (lH (ahs ++ [mine]).flatten SD (sn mine) x)) H'
theorem bh:aW ["_law_ahead","_law_stood","_law_event","_law_mine","_law_stands_here","_law_counts_here","_law_events","_law_one","_law_j","_law_number","_law_takes","_law_goes","_law_ones_here"] ["_law_ahead","_law_stood","_law_event"] (aF fG):=⟨rfl,rfl,rfl,by decide +kernel,rfl,by decide +kernel,by decide +kernel⟩
theorem mU {f cG eP fX:Addr} {fd cj dW e9:FuncData} (F:cM K "_law_take_rule" "_law_take_rule" fG f fd)
  (dM:aT P w K mg base cy 1 cG cj ["_law_events"] (fh K)) (dJ:dP K mg "_law_stands" cG cj ["_law_events"])
  (fS:aT P w K mg base cy 1 eP dW ["_law_takes"] (hV K)) (fP:dP K mg "_law_counts" eP dW ["_law_takes"])
  (fV:aT P w K mg base cy 1 fX e9 ["_law_takes"] (jK K)) (fY:dP K mg "_law_ones" fX e9 ["_law_takes"]) (dE:mg "len"=none):aT P w K mg base cy 2 f fd ["_law_ahead","_law_stood","_law_event"] (iV K):=by
 refine F.ok bh (fun vs H Q E h=>?_) (fun cdv A outer s H vs Q E hr h=>?_)
 ·obtain ⟨a,b,ev,rfl,_⟩:=h
  rfl
 obtain ⟨a,b,ev,rfl,h⟩:=h
 have hu64:=hr.units
 have hu0:=hr.units0
 have hu:=bS hr
 refine ⟨_,(af (iW (bI dM dJ hr (ae (aw (aM (K:=K) rfl) (pv 0) (eN c9 aa) (fun _ _=>rfl)) aj)) (cY (K:=K) (n:=2) rfl rfl (aS (aB (i:=3) bh.nd rfl (Or.inl rfl)) (aS (aB (i:=4) bh.nd rfl (Or.inl rfl)) cX))))
   (af (a8 (PW.pt (rO (sF (je (K:=K) rfl (pv 4))) (oj (aA i6 (aw (ao (K:=K) rfl) (aw (aM (K:=K) rfl) (pv 3) (eN c9 aa) (fun _ _=>rfl)) aa (fun _ _=>rfl)) (aw (ao (K:=K) rfl) (aw (ao (K:=K) rfl) (pv 2) aa (fun _ _=>rfl)) aa (fun _ _=>rfl)) (ax _))))) (ai (aK aP)) aJ)
   (af (aC (i:=5) bh.nd rfl (Or.inr rfl) (bI fS fP hr (ae (aw (ao (K:=K) rfl) (aw (aM (K:=K) rfl) (pv 3) (eN c9 aa) (fun _ _=>rfl)) aa (fun _ _=>rfl)) aj)))
   (af (a8 (aA i6 (aq bu (ij hu (pv 5) (aw (ao (K:=K) rfl) (aw (ao (K:=K) rfl) (pv 2) aa (fun _ _=>rfl)) aa (fun _ _=>rfl)) aa ⟨rfl,rfl,rfl,rfl⟩) aa) (aw (ao (K:=K) rfl) (aw (ao (K:=K) rfl) (pv 2) aa (fun _ _=>rfl)) aa (fun _ _=>rfl)) (ax _)) (ai (aK aP)) aJ)
   (af (a8 (aA (ia (K:=K) rfl hu64) (gX ["_law_counts_here","_law_pair"] [some 5,none] rfl rfl (by kernel_rfl) (zf (K:=K) rfl (aw (ao (K:=K) rfl) (pv 2) aa (fun _ _=>rfl))) (fun _ _ _ _ _ nd=>aB (i:=1) nd rfl (Or.inl rfl)) (fun _ _ _ _ _=>(iO (aA y7 (ij hu (pv 0) (aw (ao (K:=K) rfl) (pv 1) aa (fun _ _=>rfl)) aa ⟨rfl,rfl,rfl,rfl⟩) (aw (ao (K:=K) rfl) (pv 1) aa (fun _ _=>rfl)) (ax _)))) (fun _ _ _ _ _=>(pv 1))) (bX aj) (ax _)) (ai (aK aP)) aJ)
   (af (cA PassesOwn.never rfl (bz (K:=K) rfl (pv 0)) (aB (i:=6) bh.nd rfl (Or.inl rfl))
   (ai (cA PassesOwn.never rfl (bz (K:=K) rfl (pv 6)) (aB (i:=7) bh.nd rfl (Or.inl rfl))
   (ai (a8 (PW.pt (eX (aA bw (aw (ao (K:=K) rfl) (pv 7) aa (fun _ _=>rfl)) aP (ax _)) (eX (aA (uz (K:=K) rfl hu64) (aw (ao (K:=K) rfl) (pv 7) aa (fun _ _=>rfl)) (aw (ao (K:=K) rfl) (pv 2) aa (fun _ _=>rfl)) (ax _)) (fR (aA (ia (K:=K) rfl hu64) (cq (iM (K:=K) rfl) (pv 7) (bG aa) (bG aa)) (cq (iM (K:=K) rfl) (pv 2) (bG aa) (bG aa)) (ax _)))))) (ai (aK aP)) aJ)))))
   (af (a8 (aA i6 (aw (ao (K:=K) rfl) (pv 2) aa (fun _ _=>rfl)) aP (ax _)) (ai (aK dy)) aJ)
   (af (aC (i:=8) bh.nd rfl (Or.inl rfl) (bj (bQ (K:=K) rfl) (by rfl) dE PySem.boot_len (ae (bI fV fY hr (ae (aw (ao (K:=K) rfl) (aw (aM (K:=K) rfl) (pv 3) (eN c9 aa) (fun _ _=>rfl)) aa (fun _ _=>rfl)) aj)) aj)))
   (af (cA PassesOwn.never rfl (bz (K:=K) rfl (pv 1)) (cY (K:=K) (n:=3) rfl rfl (aS (aB (i:=9) bh.nd rfl (Or.inl rfl)) (aS (aB (i:=10) bh.nd rfl (Or.inl rfl)) (aS (aB (i:=11) bh.nd rfl (Or.inl rfl)) cX))))
   (af (aC (i:=12) bh.nd rfl (Or.inl rfl) (bI fV fY hr (ae (pv 10) aj)))
   (af (a8 (PW.pt (eX (aA bw (pv 9) (aw (ao (K:=K) rfl) (aw (ao (K:=K) rfl) (pv 2) aa (fun _ _=>rfl)) aa (fun _ _=>rfl)) (ax _)) (eX (aA xm (bj (bQ (K:=K) rfl) (by rfl) dE PySem.boot_len (ae (pv 12) aj)) (pv 8) (ax _)) (fR (aA (ia (K:=K) rfl hu64) (aw (aM (K:=K) rfl) (pv 12) (pv 8) (fun _ _=>rfl)) (aw (ao (K:=K) rfl) (pv 2) aa (fun _ _=>rfl)) (ax _)))))) (ai (aK aP)) aJ)
   (ai (a8 (PW.pt (eX (aA bw (pv 9) (aw (ao (K:=K) rfl) (aw (ao (K:=K) rfl) (pv 2) aa (fun _ _=>rfl)) aa (fun _ _=>rfl)) (ax _)) (eX (aA Ez (bj (bQ (K:=K) rfl) (by rfl) dE PySem.boot_len (ae (pv 12) aj)) (pv 8) (ax _)) (fR (aA (ia (K:=K) rfl hu64) (pv 11) (bX aj) (ax _)))))) (ai (aK aP)) aJ)))))
   (ai (aK dy))))))))))),?_⟩
 obtain ⟨ahs,mine,SD,x,y,AI,he,wx,kk⟩:=h
 obtain ⟨xs,l,evs,ha,hx,al,gl,pl,wm⟩:=AI.last
 have sl:=bb.of (K:=K) gl
 have he':=he
 obtain ⟨te,nv,cv,rfl,gt,⟨nt,rfl,gn⟩,⟨ct',cxs,rfl,gc,pcs⟩,_⟩:=he
 have ste:=aZ.of (K:=K) gt
 have kk:∀ o H',lH (ahs ++ [mine]).flatten SD (sn mine) x=o->aE H H'->Q (oS o) H':=fun o H' h s=>h ▸ kk H' s
 refine bD (fun σ' H1=>∃ f ms,σ'=[some (.ref a),some (.ref b),some (.ref te),some (.ref f),some (.bl (sn mine).b),none,none,none,none,none,none,none,none]/\aE H H1/\H1 f=some (.lst ms)/\Paired (wD H1) ms (sn mine).all) ?_ fun N rest=>?_
 rotate_left
 ·clean_wf
  refine ⟨l,rfl,evs,mine,sl,pl,AI.tk,AI.ln,wm,fun H1 t1 f ms s1 hf g1 gf pm=>?_⟩
  have st1:=aZ.of (K:=K) g1
  clean_wf
  exact rest _ _ ⟨f,ms,rfl,s1,gf,pm⟩
 rintro σ' H1 ⟨f,ms,rfl,s1,gf,pm⟩
 have sf:=bb.of (K:=K) gf
 have wfm:=Bq wm
 have lsn:=yd mine
 have mln:=AI.ln
 have eR:lH (ahs ++ [mine]).flatten SD (sn mine) x=lH (ahs ++ [mine]).flatten SD (sn mine) x:=rfl
 conv at eR=>lhs; unfold lH
 have bc:=yQ mine
 generalize hs:sn mine=s at *
 have gt1:=s1 _ _ gt
 have ste1:=aZ.of (K:=K) gt1
 have gn1:=s1 _ _ gn
 have stn1:=aZ.of (K:=K) gn1
 cases b2:s.b with
 | false =>
  refine cK ?_
  clean_wf
  refine kk (some "number") H1 ?_ s1
  rw [← eR,b2]
  cases hc:s.c <;> rfl
 | true =>
  obtain ⟨c,hc⟩:=bc b2
  rw [hc,b2] at eR
  dsimp only at eR
  obtain ⟨vc,ac,tc,lc,gc',ec,rfl,q1,q2,q3,q4⟩:=qi pm hc
  have cin:c∈s.all:=by unfold Sn.all; rw [hc]; simp
  have ltk:=lsn c cin
  have wtk:=wfm c cin
  have stc:=aZ.of (K:=K) q1
  have slc:=bb.of (K:=K) q2
  refine bD (fun σ' H3=>H1=H3/\σ'=[some (.ref a),some (.ref b),some (.ref te),some (.ref f),some (.bl true),none,none,none,none,none,none,none,none]/\c.n=x.n) ?_ fun N rest=>?_
  rotate_left
  ·clean_wf
   by_cases en:c.n=x.n
   ·rw [decide_eq_true (show c.n=x.nm.1 from en)]
    clean_wf
    exact rest _ _ ⟨rfl,rfl,en⟩
   ·rw [decide_eq_false (show ¬ c.n=x.nm.1 from en)]
    clean_wf
    refine kk (some "number") H1 ?_ s1
    rw [← eR,if_pos (by rw [show decide (c.n≠x.n)=true from decide_eq_true en]; rfl)]
  rintro σ' _ ⟨rfl,rfl,en⟩
  rw [if_neg (by rw [show decide (c.n≠x.n)=false from decide_eq_false (fun z=>z en)]; exact Bool.false_ne_true)] at eR
  refine bD (fun σ' H3=>∃ d,σ'=[some (.ref a),some (.ref b),some (.ref te),some (.ref f),some (.bl true),some (.ref d),none,none,none,none,none,none,none]/\aE H1 H3/\H3 d=some (.dK (dI (a9 c.tk)))) ?_ fun N rest=>?_
  rotate_left
  ·clean_wf
   refine ⟨lc,rfl,ec,c.tk,slc,q3,wtk,fun H3 d t1 hd gd=>?_⟩
   clean_wf
   exact rest _ _ ⟨d,rfl,t1,gd⟩
  rintro σ' H2 ⟨d,rfl,s2,gd⟩
  have s02:=s1.trans s2
  have gt2:=s02 _ _ gt
  have ste2:=aZ.of (K:=K) gt2
  have stn2:=aZ.of (K:=K) (s02 _ _ gn)
  have gcs2:=s02 _ _ gc
  have stcs2:=aZ.of (K:=K) gcs2
  have ck:=nZ wtk
  have nd:=ck.nd
  refine bD (fun σ' H3=>H2=H3/\σ'=[some (.ref a),some (.ref b),some (.ref te),some (.ref f),some (.bl true),some (.ref d),none,none,none,none,none,none,none]/\ct (a9 c.tk) x.c + 1=x.k) ?_ fun N rest=>?_
  rotate_left
  ·clean_wf
   by_cases e:ct (a9 c.tk) x.c + 1=x.k
   ·rw [decide_eq_true (show (lA (a9 c.tk) x.nm.2.1).getD 0 + 1=x.nm.2.2 from e)]
    clean_wf
    exact rest _ _ ⟨rfl,rfl,e⟩
   ·rw [decide_eq_false (show ¬ (lA (a9 c.tk) x.nm.2.1).getD 0 + 1=x.nm.2.2 from e)]
    clean_wf
    refine kk (some "row") H2 ?_ s02
    rw [← eR,if_pos (decide_eq_true e)]
  rintro σ' _ ⟨rfl,rfl,er⟩
  rw [if_neg (by rw [show decide (ct (a9 c.tk) x.c + 1≠x.k)=false from decide_eq_false (fun z=>z er)]; exact Bool.false_ne_true)] at eR
  have pcs2:kW H2 cxs x.cs:=i8 s02 pcs
  have lcs:=Paired.length pcs2
  have lck:=wx.ck.len
  refine bD (fun σ' H3=>σ'=[some (.ref a),some (.ref b),some (.ref te),some (.ref f),some (.bl true),some (.ref d),none,none,none,none,none,none,none]/\aE H2 H3/\(x.cs.any fun p=>decide (ct (a9 c.tk) p.1 < p.2))=false) ?_ fun N rest=>?_
  rotate_left
  ·clean_wf
   intro E hE
   refine vA (K:=K) (a:=ct') (xs:=cxs) (fun i σ A=>∃ v ys,σ=[some (.ref d),v]/\aE H2 A/\A E=some (.lst ys)/\ys.length<=i/\kW H2 ys ((x.cs.take i).filter fun p=>decide (ct (a9 c.tk) p.1 < p.2))) ⟨none,[],rfl,aN hE,au,Nat.le_refl _,.nil⟩ (fun i σ A _ z=>by obtain ⟨_,_,_,z,_⟩:=z; exact q9 z stcs2) ?_ ?_
   ·rintro i v0 σ A hx' ⟨v,ys,rfl,sA,gE,ly,py⟩
    obtain ⟨p,hp,tp,rfl,gp⟩:=bH pcs2 hx'
    have gpA:=sA _ _ gp
    have iX:=aZ.of (K:=K) gpA
    have gdA:=sA _ _ gd
    have il:=(List.getElem?_eq_some_iff.mp hx').1
    have eF:(x.cs.take (i + 1)).filter (fun p=>decide (ct (a9 c.tk) p.1 < p.2))=if ct (a9 c.tk) p.1 < p.2 then (x.cs.take i).filter (fun p=>decide (ct (a9 c.tk) p.1 < p.2)) ++ [p] else (x.cs.take i).filter (fun p=>decide (ct (a9 c.tk) p.1 < p.2)):=by
     rw [bx hp,List.filter_append]
     by_cases c':ct (a9 c.tk) p.1 < p.2
     ·rw [if_pos c',List.filter_cons,if_pos (decide_eq_true c')]; rfl
     ·rw [if_neg c',List.filter_cons,if_neg (by rw [decide_eq_false c']; exact Bool.false_ne_true)]; exact List.append_nil _
    clean_wf
    refine dN (fun c'=>?_) fun c'=>?_
    ·have c':ct (a9 c.tk) p.1 < p.2:=of_decide_eq_true c'
     rw [if_pos c'] at eF
     clean_wf
     refine ⟨ys,gE,aD (by omega),_,_,rfl,fun b o z=>?_,au,by rw [List.length_append]; exact Nat.succ_le_succ ly,by rw [eF]; exact kW.snoc py ⟨tp,rfl,gp⟩⟩
     rw [aG (aI z hE)]
     exact sA b o z
    ·have c':¬ ct (a9 c.tk) p.1 < p.2:=of_decide_eq_false (Bool.eq_false_iff.mpr c')
     rw [if_neg c'] at eF
     exact ⟨_,ys,rfl,sA,gE,by omega,by rw [eF]; exact py⟩
   rintro σ A ⟨v,ys,rfl,sA,gE,ly,py⟩
   rw [lcs,List.take_length] at py
   have lpy:=Paired.length py
   clean_wf
   intro e0 A1 he0 t1 ge0
   have sA1:=sA.trans t1
   refine kJ (bb.of (t1 _ _ gE)) (vN (i8 sA1 py).dps) (ju _) (bb.of ge0) ?_
   have eAny:(!ys.isEmpty)=x.cs.any fun p=>decide (ct (a9 c.tk) p.1 < p.2):=by
    rw [Bool.eq_iff_iff,Bool.not_eq_true',List.isEmpty_eq_false_iff,List.any_eq_true]
    constructor
    ·intro h
     have:0 < ((x.cs.filter fun p=>decide (ct (a9 c.tk) p.1 < p.2))).length:=by rw [← lpy]; exact List.length_pos_iff.mpr h
     obtain ⟨d,hd⟩:=List.exists_mem_of_length_pos this
     exact ⟨d,(List.mem_filter.mp hd).1,(List.mem_filter.mp hd).2⟩
    ·rintro ⟨d,h1,h2⟩
     have:d∈x.cs.filter fun p=>decide (ct (a9 c.tk) p.1 < p.2):=List.mem_filter.mpr ⟨h1,h2⟩
     refine List.length_pos_iff.mp ?_
     rw [lpy]
     exact List.length_pos_of_mem this
   rw [eAny]
   cases b1:x.cs.any fun p=>decide (ct (a9 c.tk) p.1 < p.2) with
   | true =>
    clean_wf
    exact kk (some "causes") A1 (by rw [← eR,if_pos b1]) (s02.trans sA1)
   | false =>
    clean_wf
    exact rest _ A1 ⟨rfl,sA1,b1⟩
  rintro σ' H3 ⟨rfl,s3,ecs⟩
  rw [if_neg (by rw [ecs]; exact Bool.false_ne_true)] at eR
  have s03:=s02.trans s3
  have gt3:=s03 _ _ gt
  have ste3:=aZ.of (K:=K) gt3
  have stn3:=aZ.of (K:=K) (s03 _ _ gn)
  have AI3:=AI.same s03
  have he3:=he'.up (.same s03)
  have tn3:pP H3 (.ref nt) x.nm:=⟨nt,rfl,s03 _ _ gn⟩
  have cs3:Cu H3 (.ref ct') x.cs:=⟨ct',cxs,rfl,s03 _ _ gc,i8 s03 pcs⟩
  obtain ⟨xs3,ha3,hx3⟩:=AI3.xs
  have lx3:=Paired.length hx3
  refine bD (fun σ' H4=>(∃ v6 v7,σ'=[some (.ref a),some (.ref b),some (.ref te),some (.ref f),some (.bl true),some (.ref d),v6,v7,none,none,none,none,none])/\aE H3 H4/\(ahs ++ [mine]).flatten.any (kB x)=false) ?_ fun N rest=>?_
  rotate_left
  ·clean_wf
   refine bZ (K:=K) (a:=a) (xs:=xs3) (fun i σ A=>(∃ v6 v7,σ=[some (.ref a),some (.ref b),some (.ref te),some (.ref f),some (.bl true),some (.ref d),v6,v7,none,none,none,none,none])/\aE H3 A/\((ahs ++ [mine]).take i).flatten.any (kB x)=false) ⟨⟨none,none,rfl⟩,.refl _,rfl⟩ (fun i σ A _ z=>z.2.1.seq ha3) ?_ ?_
   ·rintro i x0 σ A hxi ⟨⟨v6,v7,rfl⟩,sA,no⟩
    obtain ⟨es,hes,l',evs',rfl,gl',pe⟩:=bH hx3 hxi
    have glA:=sA _ _ gl'
    have sl':=bb.of (K:=K) glA
    have wes:=AI3.we es (List.mem_of_getElem? hes)
    clean_wf
    refine bZ (K:=K) (a:=l') (xs:=evs') (fun j σ B=>(∃ v7,σ=[some (.ref a),some (.ref b),some (.ref te),some (.ref f),some (.bl true),some (.ref d),some (.ref l'),v7,none,none,none,none,none])/\aE A B/\(es.take j).any (kB x)=false) ⟨⟨v7,rfl⟩,.refl _,rfl⟩ (fun i σ A _ z=>z.2.1.seq sl') ?_ ?_
    ·rintro j y0 σ B hyj ⟨⟨v7',rfl⟩,sB,no2⟩
     obtain ⟨e,hej,hea⟩:=bH pe hyj
     have s3B:=sA.trans sB
     have hea:=hea.up (.same s3B)
     have we':=wes e (List.mem_of_getElem? hej)
     have step:=kL hej no2
     have steB:=aZ.of (K:=K) (s3B _ _ gt3)
     cases e with
     | T q w1 =>
      obtain ⟨tu,nv,cv,rfl,gu,hn,hcv,_⟩:=hea
      have stu:=aZ.of (K:=K) gu
      have eo:kB x (.T q w1)=(decide (q.nm=x.nm) && decide (q.pt≠x.pt)):=rfl
      clean_wf
      rw [decide_eq_true (rfl:("take":Str)="take")]
      clean_wf
      refine CD hn (tn3.up (.same s3B)) ?_
      by_cases em:q.nm=x.nm
      ·rw [decide_eq_true em]
       clean_wf
       refine vW gu fun z1 B1 hz1 t1 gz1=>?_
       clean_wf
       refine vW (t1 _ _ (s3B _ _ gt3)) fun z2 B2 hz2 t2 gz2=>?_
       refine Dm (m:=q.pt) (t:=x.pt) ⟨z1,cv,rfl,t2 _ _ gz1,hcv.up (.same (t1.trans t2)),we'.1.kd⟩ ⟨z2,.ref ct',rfl,gz2,cs3.up (.same (s3B.trans (t1.trans t2))),wx.kd⟩ ?_
       by_cases eu:q.pt=x.pt
       ·rw [decide_eq_true eu]
        clean_wf
        exact ⟨⟨_,rfl⟩,sB.trans (t1.trans t2),by rw [step,eo,eu]; simp⟩
       ·rw [decide_eq_false eu]
        clean_wf
        refine kk (some "calls") B2 ?_ (s03.trans (s3B.trans (t1.trans t2)))
        have:(ahs ++ [mine]).flatten.any (kB x)=true:=by
         rw [List.any_eq_true]
         exact ⟨.T q w1,List.mem_flatten.mpr ⟨es,List.mem_of_getElem? hes,List.mem_of_getElem? hej⟩,by rw [eo,decide_eq_true em,decide_eq_true eu]; rfl⟩
        rw [← eR,if_pos this]
      ·rw [decide_eq_false em]
       clean_wf
       exact ⟨⟨_,rfl⟩,sB,by rw [step,eo,decide_eq_false em]; rfl⟩
     | L m u =>
      obtain ⟨tu,rfl,gu,_⟩:=hea
      have stu:=aZ.of (K:=K) gu
      clean_wf
      rw [DG]
      clean_wf
      exact ⟨⟨_,rfl⟩,sB,by rw [step]; rfl⟩
     | O m =>
      obtain ⟨tu,rfl,gu⟩:=hea
      have stu:=aZ.of (K:=K) gu
      clean_wf
      rw [ur]
      clean_wf
      exact ⟨⟨_,rfl⟩,sB,by rw [step]; rfl⟩
    rintro σ B ⟨⟨v7',rfl⟩,sB,no2⟩
    rw [Paired.length pe,List.take_length] at no2
    exact ⟨⟨_,_,rfl⟩,sA.trans sB,by rw [bx hes,List.flatten_append,List.any_append,no,List.flatten_singleton,no2]; rfl⟩
   rintro σ A ⟨⟨v6,v7,rfl⟩,sA,no⟩
   rw [lx3,List.take_length] at no
   exact rest _ _ ⟨⟨_,_,rfl⟩,sA,no⟩
  rintro σ' H4 ⟨⟨v6,v7,rfl⟩,s4,ecal⟩
  rw [if_neg (by rw [ecal]; exact Bool.false_ne_true)] at eR
  have s04:=s03.trans s4
  have gt4:=s04 _ _ gt
  have ste4:=aZ.of (K:=K) gt4
  by_cases ix:oa x=true
  ·rw [if_pos ix] at eR
   refine bD (fun σ' H5=>H4=H5/\σ'=[some (.ref a),some (.ref b),some (.ref te),some (.ref f),some (.bl true),some (.ref d),v6,v7,none,none,none,none,none]) ?_ fun N rest=>?_
   rotate_left
   ·clean_wf
    rw [decide_eq_true (show x.kd="one" from of_decide_eq_true ix)]
    clean_wf
    exact rest _ _ ⟨rfl,rfl⟩
   rintro σ' _ ⟨rfl,rfl⟩
   have s14:aE H1 H4:=s2.trans (s3.trans s4)
   have sf4:=bb.of (K:=K) (s14 _ _ gf)
   have stc4:=aZ.of (K:=K) (s14 _ _ q1)
   have slc4:=bb.of (K:=K) (s14 _ _ q2)
   clean_wf
   refine ⟨lc,rfl,ec,c.tk,slc4,Paired.mapP q3 fun _ _ y=>y.up (.same s14),by omega,fun H5 lo ys5 s5 hlo glo po=>?_⟩
   have lo5:=Paired.length po
   have sl5:=bb.of (K:=K) glo
   obtain ⟨sy,hsy,psy⟩:=(AI.same (s04.trans s5)).ys
   have lsy:=Paired.length psy
   have s05:=s04.trans s5
   clean_wf
   refine bZ (K:=K) (a:=b) (xs:=sy) (fun i σ A=>(∃ v9 v10 v11 v12,σ=[some (.ref a),some (.ref b),some (.ref te),some (.ref f),some (.bl true),some (.ref d),v6,v7,some (.int (ys5.length:Nat)),v9,v10,v11,v12])/\aE H5 A/\(SD.take i).any (oW x (bp c.tk).length)=false) ⟨⟨none,none,none,none,rfl⟩,.refl _,rfl⟩ (fun i σ A _ z=>z.2.1.seq hsy) ?_ ?_
   ·rintro i x0 σ A hxi ⟨⟨v9,v10,v11,v12,rfl⟩,sA,no⟩
    obtain ⟨d0,hd,sd⟩:=bH psy hxi
    have step:=kL hd no
    have dm:=List.mem_of_getElem? hd
    have ld:=AI.ds d0 dm
    obtain ⟨td,ldd,gdd,edd,rfl,e1,e2,e3,e4⟩:=sd.same sA
    have std:=aZ.of (K:=K) e1
    have sld:=bb.of (K:=K) e2
    have eo:oW x (bp c.tk).length d0=(decide (d0.n=x.n) && (if (bp c.tk).length < (bp d0.tk).length then decide ((bp d0.tk)[(bp c.tk).length]?≠some x.nm) else d0.go)):=rfl
    clean_wf
    refine ⟨ldd,rfl,edd,d0.tk,sld,e3,ld,fun A1 lo1 yo1 t1 hlo1 glo1 po1=>?_⟩
    have l1:=Paired.length po1
    have s5A:=sA.trans t1
    have steA:=aZ.of (K:=K) ((s05.trans s5A) _ _ gt)
    have stnA:=aZ.of (K:=K) ((s05.trans s5A) _ _ gn)
    have sl1:=bb.of (K:=K) glo1
    clean_wf
    by_cases en':d0.n=x.n
    ·rw [decide_eq_true (show d0.n=x.nm.1 from en')]
     rw [decide_eq_true en',Bool.true_and] at eo
     clean_wf
     by_cases lt:(bp c.tk).length < (bp d0.tk).length
     ·rw [if_pos lt] at eo
      rw [decide_eq_true (show ((ys5.length:Nat):Int) < ((yo1.length:Nat):Int) by omega)]
      obtain ⟨m,hm⟩:∃ m,(bp d0.tk)[(bp c.tk).length]?=some m:=⟨_,List.getElem?_eq_getElem lt⟩
      obtain ⟨vy,hvy,ty⟩:=gZ po1 hm
      have ay:jG yo1 ((ys5.length:Nat):Int)=some vy:=by rw [lo5]; exact cR hvy
      clean_wf
      refine Dt ty ⟨nt,rfl,(s05.trans s5A) _ _ gn⟩ ?_
      by_cases em:m=x.nm
      ·rw [decide_eq_true em]
       clean_wf
       rw [decide_eq_true (show d0.n=x.nm.1 from en')]
       clean_wf
       rw [decide_eq_false (show ¬ ((yo1.length:Nat):Int)<=((ys5.length:Nat):Int) by omega)]
       clean_wf
       exact ⟨⟨_,_,_,_,rfl⟩,s5A,by rw [step,eo,hm,em]; simp⟩
      ·rw [decide_eq_false em]
       clean_wf
       refine kk (some "one") A1 ?_ (s05.trans s5A)
       rw [← eR,if_pos (uY hd (by rw [eo,hm]; exact decide_eq_true (fun z=>em (Option.some.inj z))))]
     ·rw [if_neg lt] at eo
      rw [decide_eq_false (show ¬ ((ys5.length:Nat):Int) < ((yo1.length:Nat):Int) by omega)]
      clean_wf
      rw [decide_eq_true (show d0.n=x.nm.1 from en')]
      clean_wf
      rw [decide_eq_true (show ((yo1.length:Nat):Int)<=((ys5.length:Nat):Int) by omega)]
      clean_wf
      intro z0 A0 hz0 t0 gz0
      have hg:mE K A0 (if d0.go=true then [.bl true] else []) (if d0.go=true then [.bool true] else []):=by
       split
       ·exact .cons (.p (.bool _)) .nil
       ·exact .nil
      refine kJ (bb.of ((t1.trans t0) _ _ e4)) hg (by split <;> rfl) (bb.of gz0) ?_
      cases dg:d0.go with
      | false =>
       rw [if_neg Bool.false_ne_true]
       clean_wf
       exact ⟨⟨_,_,_,_,rfl⟩,s5A.trans t0,by rw [step,eo,dg]⟩
      | true =>
       rw [if_pos rfl,show (![V.bl true].isEmpty)=true from rfl]
       clean_wf
       refine kk (some "one") A0 ?_ (s05.trans (s5A.trans t0))
       rw [← eR,if_pos (uY hd (by rw [eo,dg]))]
    ·rw [decide_eq_false (show ¬ d0.n=x.nm.1 from en')]
     clean_wf
     rw [decide_eq_false (show ¬ d0.n=x.nm.1 from en')]
     clean_wf
     exact ⟨⟨_,_,_,_,rfl⟩,s5A,by rw [step,eo,decide_eq_false en']; rfl⟩
   rintro σ A ⟨⟨v9,v10,v11,v12,rfl⟩,sA,no⟩
   rw [lsy,List.take_length] at no
   clean_wf
   exact kk none A (by rw [← eR,if_neg (by rw [no]; exact Bool.false_ne_true)]) (s05.trans sA)
  ·rw [if_neg ix] at eR
   refine cK ?_
   clean_wf
   rw [decide_eq_false (show ¬ x.kd="one" from fun z=>ix (decide_eq_true z))]
   clean_wf
   exact kk none H4 (by rw [← eR]) s04
end
end K81
namespace K81
open PySem L2
abbrev j7:Stmt:=i7 36
section
variable {P:Program} {w:World} {K:PySem.W.Frag} {mg:Str->Option Value} {base:Heap}
structure HY (K:PySem.W.Frag) (H:Hp) (a:Addr) (ahs:List (List Ev)) (mine:List Ev):Prop where
 xs:∃ xs,bb K H a xs/\Paired (F3 H) xs (ahs ++ [mine])
 tk:∀ es∈ahs ++ [mine],xM es
 ln:∀ es∈ahs ++ [mine],es.length<=90
 we:∀ es∈ahs ++ [mine],∀ e∈es,mK e
 la:ahs.length<=4
theorem HY.same {H H':Hp} {a:Addr} {ahs:List (List Ev)} {mine:List Ev} (h:HY K H a ahs mine) (s:aE H H'):HY K H' a ahs mine:=by
 obtain ⟨xs,h1,h2⟩:=h.xs
 exact ⟨⟨xs,s.seq h1,Paired.mapP h2 fun _ _ y=>y.same s⟩,h.tk,h.ln,h.we,h.la⟩
def cN (es:List (List Ev)):List Sd:=(es.map fun e=>(sn e).all).flatten
theorem xl {es:List (List Ev)} {d:Sd} (h:d∈cN es):∃ e∈es,d∈(sn e).all:=by
 unfold cN at h
 obtain ⟨l,hl,hd⟩:=List.mem_flatten.mp h
 obtain ⟨e,he,rfl⟩:=List.mem_map.mp hl
 exact ⟨e,he,hd⟩
theorem IU (es:List Ev):(sn es).all.length<=es.length:=by
 have key:∀ (es:List Ev) (s:Sn),(es.foldl iX s).all.length<=s.all.length + es.length:=by
  intro es
  induction es with
  | nil=>intro s; exact Nat.le_refl _
  | cons e es ih =>
   intro s
   have:=ih (iX s e)
   have h2:(iX s e).all.length<=s.all.length + 1:=by
    unfold Sn.all
    cases e with
    | L n t =>
     show ((s.l ++ (s.c.map fun c=>(⟨c.n,c.tk,c.go || s.b⟩:Sd)).toList) ++ (some (⟨n,[],false⟩:Sd)).toList).length<=_
     cases hc:s.c <;> simp
    | T q y =>
     show (s.l ++ (s.c.map fun c=>(⟨c.n,c.tk ++ [q],c.go⟩:Sd)).toList).length<=_
     cases hc:s.c <;> simp
    | O n=>exact Nat.le_succ _
   have e3:List.foldl iX s (e :: es)=List.foldl iX (iX s e) es:=rfl
   rw [e3,List.length_cons]
   omega
 have:=key es DK
 have e0:DK.all.length=0:=rfl
 unfold sn
 omega
def mR (K:PySem.W.Frag):Sp:=fun vs H Q _=>∃ (hand:Int) (a:Addr) (ev:V),vs=[.int hand,.ref a,ev]/\∃ ahs mine e,HY K H a ahs mine/\hJ H ev e/\mK e/\0<=hand/\∀ H',aE H H'->Q (oS (tI hand (ahs ++ [mine]).flatten (cN (ahs ++ [mine])) (sn mine) e)) H'
theorem eD:aW ["_law_hand","_law_ahead","_law_event","_law_stood","_law_events","_law_mine","_law_stands_here"] ["_law_hand","_law_ahead","_law_event"] (aF j7):=⟨rfl,rfl,rfl,by decide +kernel,rfl,by decide +kernel,by decide +kernel⟩
theorem uP {f cG js jo:Addr} {fd cj iR iJ:FuncData} (F:cM K "_law_rule" "_law_rule" j7 f fd)
  (dM:aT P w K mg base cy 2 cG cj ["_law_events"] (fh K)) (dJ:dP K mg "_law_stands" cG cj ["_law_events"])
  (oP:aT P w K mg base cy 2 js iR ["_law_hand","_law_ahead","_law_stood","_law_event"] (iN K)) (oy:dP K mg "_law_list_rule" js iR ["_law_hand","_law_ahead","_law_stood","_law_event"])
  (oO:aT P w K mg base cy 2 jo iJ ["_law_ahead","_law_stood","_law_event"] (iV K)) (oK:dP K mg "_law_take_rule" jo iJ ["_law_ahead","_law_stood","_law_event"]):aT P w K mg base cy 3 f fd ["_law_hand","_law_ahead","_law_event"] (mR K):=by
 refine F.ok eD (fun vs H Q E h=>?_) (fun cdv A outer s H vs Q E hr h=>?_)
 ·obtain ⟨hand,a,ev,rfl,_⟩:=h
  rfl
 obtain ⟨hand,a,ev,rfl,h⟩:=h
 have hu64:=hr.units
 have hu0:=hr.units0
 have hu:=bS hr
 refine ⟨_,(af (aC (i:=3) eD.nd rfl (Or.inl rfl) (bX aj))
   (af (cA PassesOwn.never rfl (bz (K:=K) rfl (pv 1)) (aB (i:=4) eD.nd rfl (Or.inl rfl))
   (ai (aC (i:=3) eD.nd rfl (Or.inl rfl) (aq uj (pv 3) (aw (ao (K:=K) rfl) (bI dM dJ hr (ae (pv 4) aj)) aa (fun _ _=>rfl))))))
   (af (a8 (aA bw (aw (ao (K:=K) rfl) (pv 2) aa (fun _ _=>rfl)) aP (ax _)) (ai (aK (bI oP oy hr (ae (pv 0) (ae (pv 1) (ae (pv 3) (ae (pv 2) aj))))))) aJ)
   (af (a8 (aA bw (aw (ao (K:=K) rfl) (pv 2) aa (fun _ _=>rfl)) aP (ax _)) (ai (aK (bI oO oK hr (ae (pv 1) (ae (pv 3) (ae (pv 2) aj)))))) aJ)
   (af (iW (bI dM dJ hr (ae (aw (aM (K:=K) rfl) (pv 1) (eN c9 aa) (fun _ _=>rfl)) aj)) (cY (K:=K) (n:=2) rfl rfl (aS (aB (i:=5) eD.nd rfl (Or.inl rfl)) (aS (aB (i:=6) eD.nd rfl (Or.inl rfl)) cX))))
   (af (a8 (PW.pt (eX (je (K:=K) rfl (pv 6)) (fR (aA bw (aw (ao (K:=K) rfl) (aw (aM (K:=K) rfl) (pv 5) (eN c9 aa) (fun _ _=>rfl)) aa (fun _ _=>rfl)) (aw (ao (K:=K) rfl) (pv 2) aa (fun _ _=>rfl)) (ax _))))) (ai (aK dy)) aJ)
   (ai (aK aP)))))))),?_⟩
 obtain ⟨ahs,mine,e,AJ,he,we,h0,kk⟩:=h
 obtain ⟨xs,ha,hx⟩:=AJ.xs
 have lx:=Paired.length hx
 have la:=AJ.la
 clean_wf
 intro b0 H1 hb0 s1 g1
 have ha1:=s1.seq ha
 clean_wf
 refine bZ (K:=K) (a:=a) (xs:=xs) (fun i σ A=>∃ b v4 ys,σ=[some (.int hand),some (.ref a),some ev,some (.ref b),v4,none,none]/\aE H A/\A b=some (.lst ys)/\Paired (wD A) ys (cN ((ahs ++ [mine]).take i))/\ys.length<=90 * i) ⟨b0,none,[],rfl,s1,g1,.nil,Nat.le_refl _⟩ (fun i σ A _ z=>by obtain ⟨_,_,_,_,z,_⟩:=z; exact z.seq ha) ?_ ?_
 ·rintro i x σ A hxi ⟨b,v4,ys,rfl,sA,gb,pys,lys⟩
  obtain ⟨es,hes,l,evs,rfl,gl,pe⟩:=bH hx hxi
  have mem:=List.mem_of_getElem? hes
  have il:=(List.getElem?_eq_some_iff.mp hxi).1
  rw [lx,List.length_append,List.length_singleton] at il
  have ll:=AJ.ln es mem
  have l3:=IU es
  have slA:=bb.of (K:=K) (sA _ _ gl)
  clean_wf
  refine ⟨l,rfl,evs,es,slA,Paired.mapP pe fun _ _ y=>y.up (.same sA),AJ.tk es mem,ll,AJ.we es mem,fun A1 t1 f ms t1' hf g1' gf pm=>?_⟩
  have st1:=aZ.of (K:=K) g1'
  have lms:=Paired.length pm
  clean_wf
  refine yU (t1' _ _ gb) gf (by omega) fun b2 A2 hb2 t2 g2=>?_
  clean_wf
  refine ⟨b2,_,ys ++ ms,rfl,sA.trans (t1'.trans t2),g2,?_,by rw [List.length_append]; omega⟩
  have e:cN ((ahs ++ [mine]).take (i + 1))=cN ((ahs ++ [mine]).take i) ++ (sn es).all:=by
   unfold cN
   rw [bx hes,List.map_append,List.flatten_append]
   simp
  rw [e]
  exact bE (Paired.mapP pys fun _ _ y=>y.same (t1'.trans t2)) (Paired.mapP pm fun _ _ y=>y.same t2)
 rintro σ A ⟨b,v4,ys,rfl,sA,gb,pys,lys⟩
 rw [lx,List.take_length] at pys
 have mm:mine∈ahs ++ [mine]:=List.mem_append_right _ (List.mem_singleton.mpr rfl)
 have AI:Ew K A a b ahs mine (cN (ahs ++ [mine])):=⟨(AJ.same sA).xs,⟨ys,bb.of gb,pys⟩,AJ.tk mine mm,AJ.ln mine mm,AJ.we,fun d hd=>by
   obtain ⟨e',he',hd'⟩:=xl hd
   have:=yd e' d hd'
   have:=AJ.ln e' he'
   omega,fun d hd=>by
   obtain ⟨e',he',hd'⟩:=xl hd
   exact Bq (AJ.we e' he') d hd'⟩
 have heA:=he.up (.same sA)
 cases e with
 | L n t =>
  obtain ⟨te,rfl,gt,_⟩:=id heA
  have ste:=aZ.of (K:=K) gt
  refine cK ?_
  clean_wf
  rw [decide_eq_true (rfl:("list":Str)="list")]
  clean_wf
  exact ⟨hand,a,b,_,rfl,ahs,mine,_,n,t,AI,heA,h0,fun H' s=>kk H' (sA.trans s)⟩
 | T x y =>
  obtain ⟨te,nv,cv,rfl,gt,_⟩:=id heA
  have ste:=aZ.of (K:=K) gt
  refine cK ?_
  clean_wf
  rw [vx]
  clean_wf
  rw [decide_eq_true (rfl:("take":Str)="take")]
  clean_wf
  exact ⟨a,b,_,rfl,ahs,mine,_,x,y,AI,heA,we.1,fun H' s=>kk H' (sA.trans s)⟩
 | O n =>
  obtain ⟨te,rfl,gt⟩:=id heA
  have ste:=aZ.of (K:=K) gt
  obtain ⟨xs',l,evs,ha',hx',al,gl,pl,wm⟩:=AI.last
  have sl:=bb.of (K:=K) gl
  have bc:=yQ mine
  have kk:∀ o H',rP (sn mine) n=o->aE H H'->Q (oS o) H':=fun o H' h s=>h ▸ kk H' s
  refine cK ?_
  clean_wf
  rw [vH]
  clean_wf
  rw [ur]
  clean_wf
  refine ⟨l,rfl,evs,mine,sl,pl,AI.tk,AI.ln,wm,fun A1 t1 f ms t1' hf g1' gf pm=>?_⟩
  have st1:=aZ.of (K:=K) g1'
  have ste1:=aZ.of (K:=K) (t1' _ _ gt)
  have sf:=bb.of (K:=K) gf
  generalize sn mine=s at *
  clean_wf
  cases b2:s.b with
  | false =>
   clean_wf
   refine kk (some "number") A1 ?_ (sA.trans t1')
   unfold rP
   rw [b2]
   cases s.c <;> rfl
  | true =>
   obtain ⟨c,hc⟩:=bc b2
   obtain ⟨vc,ac,tc,lc,gc,ec,rfl,q1,q2,q3,q4⟩:=qi pm hc
   have stc:=aZ.of (K:=K) q1
   clean_wf
   by_cases en:c.n=n
   ·rw [decide_eq_true en]
    clean_wf
    refine kk none A1 ?_ (sA.trans t1')
    unfold rP
    rw [hc]
    show (if (s.b && decide (c.n=n))=true then none else some _)=none
    rw [b2,decide_eq_true en]
    rfl
   ·rw [decide_eq_false en]
    clean_wf
    refine kk (some "number") A1 ?_ (sA.trans t1')
    unfold rP
    rw [hc]
    show (if (s.b && decide (c.n=n))=true then none else some _)=_
    rw [b2,decide_eq_false en]
    rfl
end
end K81
namespace K81
open PySem L2
abbrev mF:Stmt:=i7 37
section
variable {P:Program} {w:World} {K:PySem.W.Frag} {mg:Str->Option Value} {base:Heap}
structure vw (ts:List cC):Prop where
 ln:ts.length<=3
 le:∀ t∈ts,t.2.length<=60
 we:∀ t∈ts,∀ e∈t.2,mK e
 rg:∀ t∈ts,0<=t.1/\t.1 < 63
theorem Di {es:List Ev} {e:Ev} (h:xM es) (c:∀ x y,e=.T x y->∃ c,(sn es).c=some c):xM (es ++ [e]):=by
 intro i x y hi
 rcases Nat.lt_or_ge i es.length with l | l
 ·rw [List.getElem?_append_left l] at hi
  rw [List.take_append_of_le_length (by omega)]
  exact h i x y hi
 ·rw [List.getElem?_append_right l] at hi
  have il:=(List.getElem?_eq_some_iff.mp hi).1
  rw [List.length_singleton] at il
  have e0:i=es.length:=by omega
  rw [e0,Nat.sub_self] at hi
  rw [e0,List.take_append_of_le_length (Nat.le_refl _),List.take_length]
  exact c x y (Option.some.inj hi)
theorem CI {hand:Int} {AE:List Ev} {SD:List Sd} {s:Sn} {x:j2} {y:Str} (h:tI hand AE SD s (.T x y)=none):∃ c,s.c=some c:=by
 have h:lH AE SD s x=none:=h
 unfold lH at h
 cases hc:s.c with
 | none=>rw [hc] at h; cases h
 | some c=>exact ⟨c,rfl⟩
theorem yx {hand:Int} {A:List Ev} {D:List Sd} {mine:List Ev} {e:Ev} {es:List Ev} {i:Nat}:kK hand A D mine (e :: es) i=match tI hand (A ++ mine) (D ++ (sn mine).all) (sn mine) e with
  | some s=>some (s,i)
  | none=>kK hand A D (mine ++ [e]) es (i + 1):=rfl
theorem wC (a b:List (List Ev)):cN (a ++ b)=cN a ++ cN b:=by unfold cN; rw [List.map_append,List.flatten_append]
theorem xr (a:List Ev):cN [a]=(sn a).all:=by unfold cN; simp
def kq (K:PySem.W.Frag):Sp:=fun vs H Q _=>∃ (a:Addr),vs=[.ref a]/\∃ xs ts,bb K H a xs/\Paired (sY H) xs ts/\vw ts/\∀ H' v,aE H H'->k6 H' v (vI [] [] ts)->Q v H'
theorem eY:aW ["_law_told_here","_law_ahead","_law_hand","_law_events","_law_place","_law_rule_here"] ["_law_told_here"] (aF mF):=⟨rfl,rfl,rfl,by decide +kernel,rfl,by decide +kernel,by decide +kernel⟩
theorem xu {f o4:Addr} {fd nB:FuncData} (F:cM K "_law_due" "_law_due" mF f fd)
  (wA:aT P w K mg base cy 3 o4 nB ["_law_hand","_law_ahead","_law_event"] (mR K)) (wK:dP K mg "_law_rule" o4 nB ["_law_hand","_law_ahead","_law_event"]) (dE:mg "len"=none) (dR:mg "range"=none):aT P w K mg base cy 4 f fd ["_law_told_here"] (kq K):=by
 refine F.ok eY (fun vs H Q E h=>?_) (fun cdv A outer s H vs Q E hr h=>?_)
 ·obtain ⟨a,rfl,_⟩:=h
  rfl
 obtain ⟨a,rfl,h⟩:=h
 have hu64:=hr.units
 have hu0:=hr.units0
 have hu:=bS hr
 refine ⟨_,(af (aC (i:=1) eY.nd rfl (Or.inl rfl) (bX aj))
   (af (cA PassesOwn.never rfl (bz (K:=K) rfl (pv 0)) (cY (K:=K) (n:=2) rfl rfl (aS (aB (i:=2) eY.nd rfl (Or.inl rfl)) (aS (aB (i:=3) eY.nd rfl (Or.inl rfl)) cX)))
   (af (cA PassesOwn.never rfl (eE rfl dR (ae (bj (bQ (K:=K) rfl) (by rfl) dE PySem.boot_len (ae (pv 3) aj)) aj)) (aB (i:=4) eY.nd rfl (Or.inl rfl))
   (af (aC (i:=5) eY.nd rfl (Or.inl rfl) (bI wA wK hr (ae (pv 2) (ae (aq uj (pv 1) (bX (ae (cq (jf (K:=K) rfl) (pv 3) eS (bG (pv 4))) aj))) (ae (aw (aM (K:=K) rfl) (pv 3) (pv 4) (fun _ _=>rfl)) aj)))))
   (ai (a8 (aA kX (pv 5) dy (ax _)) (ai (aK (cc (ae (pv 5) (ae (pv 2) (ae (pv 4) aj)))))) aJ))))
   (ai (bU (cB (K:=K) rfl (eG PySem.F.plainAttrs_list PySem.F.slot_list_append PySem.F.type_list_append cu (pv 1) (ae (pv 3) aj)))))))
   (ai (aK dy)))),?_⟩
 obtain ⟨xs,ts,ha,hx,td,kk⟩:=h
 have lx:=Paired.length hx
 have lt3:=td.ln
 clean_wf
 intro b H1 hb s1 g1
 have ha1:=s1.seq ha
 clean_wf
 refine bZ (K:=K) (a:=a) (xs:=xs) (fun i σ A=>∃ u2 u3 u4 u5 zs,σ=[some (.ref a),some (.ref b),u2,u3,u4,u5]/\aE H A/\A b=some (.lst zs)/\Paired (F3 H) zs ((ts.take i).map (·.2))/\(∀ es∈(ts.take i).map (·.2),xM es)/\vI [] [] ts=vI ((ts.take i).map (·.2)).flatten (cN ((ts.take i).map (·.2))) (ts.drop i)) ⟨none,none,none,none,[],rfl,s1,g1,.nil,(fun _ z=>nomatch z),rfl⟩ (fun i σ A _ z=>by obtain ⟨_,_,_,_,_,_,z,_⟩:=z; exact z.seq ha) ?_ ?_
 ·rintro i x σ A hxi ⟨u2,u3,u4,u5,zs,rfl,sA,gb,pz,tkz,dd⟩
  obtain ⟨t,hti,hsa⟩:=bH hx hxi
  have tm:=List.mem_of_getElem? hti
  have til:=(List.getElem?_eq_some_iff.mp hti).1
  have edi:ts.drop i=t :: ts.drop (i + 1):=by
   rw [List.drop_eq_getElem_cons til]
   rw [List.getElem?_eq_getElem til] at hti
   rw [Option.some.inj hti]
  rw [edi] at dd
  obtain ⟨p,l,evs,rfl,f1,f2,f3⟩:=hsa
  have lev:=Paired.length f3
  have le:=td.le t tm
  have we:=td.we t tm
  have rg:=td.rg t tm
  have st:=aZ.of (K:=K) (sA _ _ f1)
  have slA:=bb.of (K:=K) (sA _ _ f2)
  have lz:=Paired.length pz
  rw [List.length_map,List.length_take] at lz
  generalize hah:(ts.take i).map (·.2)=ahs at *
  have lah:ahs.length=min i ts.length:=by rw [← hah,List.length_map,List.length_take]
  clean_wf
  refine ⟨_,rfl,by omega,by omega,?_⟩
  refine hU (fun j σ B=>∃ u4 u5,σ=[some (.ref a),some (.ref b),some (.int t.1),some (.ref l),u4,u5]/\aE A B/\xM (t.2.take j)/\kK t.1 ahs.flatten (cN ahs) [] t.2 0=kK t.1 ahs.flatten (cN ahs) (t.2.take j) (t.2.drop j) j) ⟨u4,u5,rfl,.refl _,(fun i x y h=>by simp at h),rfl⟩ ?_ ?_
  ·rintro j σ B hj ⟨v4,v5,rfl,sB,tkj,dh⟩
   have jl:j < t.2.length:=by
    have:j < evs.length:=by simpa using hj
    omega
   obtain ⟨e,hej⟩:∃ e,t.2[j]?=some e:=⟨_,List.getElem?_eq_getElem jl⟩
   have ed:t.2.drop j=e :: t.2.drop (j + 1):=by
    rw [List.drop_eq_getElem_cons jl]
    rw [List.getElem?_eq_getElem jl] at hej
    rw [Option.some.inj hej]
   rw [ed,yx] at dh
   obtain ⟨ve,hve,hea⟩:=gZ f3 hej
   have sAB:=sA.trans sB
   have slB:=bb.of (K:=K) (sAB _ _ f2)
   have gbB:=sB _ _ gb
   have av:jG evs (0 + (j:Int))=some ve:=by rw [Int.zero_add]; exact cR hve
   clean_wf
   intro c1 B1 hc1 t1 gc1
   rw [Int.zero_add,vT evs j (by omega)] at gc1
   clean_wf
   intro c2 B2 hc2 t2 gc2
   clean_wf
   refine yU ((t1.trans t2) _ _ gbB) gc2 (by show zs.length + 1<=1000; omega) fun c3 B3 hc3 t3 gc3=>?_
   have s03:=sAB.trans (t1.trans (t2.trans t3))
   have slB3:=bb.of (K:=K) (s03 _ _ f2)
   clean_wf
   have AJ:HY K B3 c3 ahs (t.2.take j):=by
    refine ⟨⟨zs ++ [.ref c1],bb.of gc3,bE (Paired.mapP pz fun _ _ y=>y.same s03) (.cons ⟨c1,evs.take j,rfl,(t2.trans t3) _ _ gc1,Paired.mapP (eZ j f3) fun _ _ y=>y.up (.same s03)⟩ .nil)⟩,fun es h=>?_,fun es h=>?_,fun es h=>?_,by omega⟩
    ·rcases List.mem_append.mp h with z | z
     ·exact tkz es z
     ·rw [List.mem_singleton.mp z]; exact tkj
    ·rcases List.mem_append.mp h with z | z
     ·rw [← hah] at z
      obtain ⟨t',ht',rfl⟩:=List.mem_map.mp z
      have:=td.le t' (List.mem_of_mem_take ht')
      omega
     ·rw [List.mem_singleton.mp z,List.length_take]; omega
    ·rcases List.mem_append.mp h with z | z
     ·rw [← hah] at z
      obtain ⟨t',ht',rfl⟩:=List.mem_map.mp z
      exact td.we t' (List.mem_of_mem_take ht')
     ·rw [List.mem_singleton.mp z]; exact fun e he=>we e (List.mem_of_mem_take he)
   refine ⟨t.1,c3,ve,rfl,ahs,t.2.take j,e,AJ,hea.up (.same s03),we e (List.mem_of_getElem? hej),rg.1,fun B4 t4=>?_⟩
   have eA:(ahs ++ [t.2.take j]).flatten=ahs.flatten ++ t.2.take j:=by simp
   rw [eA,wC,xr]
   have sB4:=sB.trans (t1.trans (t2.trans (t3.trans t4)))
   cases dr:tI t.1 (ahs.flatten ++ t.2.take j) (cN ahs ++ (sn (t.2.take j)).all) (sn (t.2.take j)) e with
   | some s =>
    rw [dr] at dh
    clean_wf
    rw [show decide (oS (some s)=V.non)=false from Ah s]
    clean_wf
    intro o B5 ho t5 g5
    clean_wf
    refine kk B5 (.ref o) (sA.trans (sB4.trans t5)) ?_
    rw [dd]
    show k6 B5 _ (match kK t.1 ahs.flatten (cN ahs) [] t.2 0 with
     | some q=>some (q.1,t.1,q.2)
     | none=>_)
    rw [dh]
    rw [Int.zero_add] at g5
    exact ⟨o,rfl,g5⟩
   | none =>
    rw [dr] at dh
    clean_wf
    rw [show decide (oS none=V.non)=true from hX]
    clean_wf
    refine ⟨_,_,rfl,sB4,?_,?_⟩
    ·rw [bx hej]
     exact Di tkj fun x y ee=>by rw [ee] at dr; exact CI dr
    ·rw [dh,bx hej]
  rintro σ B ⟨v4,v5,rfl,sB,tkj,dh⟩
  have ej:((evs.length:Nat):Int).toNat=t.2.length:=by rw [Int.toNat_natCast]; exact lev
  rw [ej,List.take_length] at tkj
  rw [ej,List.drop_length] at dh
  have dh:kK t.1 ahs.flatten (cN ahs) [] t.2 0=none:=dh
  have gbB:=sB _ _ gb
  have ls:zs.length < sizeLine:=aD (by omega)
  dsimp only
  clean_wf
  intro B1 b1 g1'
  have e1:(ts.take (i + 1)).map (·.2)=ahs ++ [t.2]:=by rw [bx hti,List.map_append,hah]; rfl
  rw [e1]
  refine ⟨_,_,_,_,zs ++ [.ref l],rfl,b1.same (sA.trans sB) hb,g1',bE pz (.cons ⟨l,evs,rfl,f2,f3⟩ .nil),fun es h=>?_,?_⟩
  ·rcases List.mem_append.mp h with z | z
   ·exact tkz es z
   ·rw [List.mem_singleton.mp z]; exact tkj
  ·rw [dd]
   show (match kK t.1 ahs.flatten (cN ahs) [] t.2 0 with
    | some q=>some (q.1,t.1,q.2)
    | none=>vI (ahs.flatten ++ t.2) (cN ahs ++ (sn t.2).all) (ts.drop (i + 1)))=_
   rw [dh,wC,xr]
   simp
 rintro σ A ⟨u2,u3,u4,u5,zs,rfl,sA,gb,pz,tkz,dd⟩
 rw [List.drop_of_length_le (by omega)] at dd
 clean_wf
 exact kk A .non sA (by rw [dd]; rfl)
end
end K81
namespace K81
open PySem L2
abbrev lU:Stmt:=i7 38
section
variable {P:Program} {w:World} {K:PySem.W.Frag} {mg:Str->Option Value} {base:Heap}
def pk (K:PySem.W.Frag):Sp:=fun vs H Q _=>∃ (a:Addr) (d:V),vs=[.ref a,d]/\∃ xs ts o,bb K H a xs/\Paired (sY H) xs ts/\vw ts/\k6 H d (some o)/\∀ H' l ys,aE H H'->H' l=some (.lst ys)->Paired (sY H') ys (lu o.2.1 o.2.2 ts)->Q (.ref l) H'
theorem vQ {h:Int} {i:Nat} {t:cC}:∀ {ps ts:List cC},(∀ p∈ps,p.1≠h)->lu h i (ps ++ t :: ts)=if t.1=h then ps ++ [(t.1,t.2.take i)] else ps ++ t :: lu h i ts
 | [],ts,_=>by
  show (if t.1=h then _ else _)=_
  split <;> rfl
 | p :: ps,ts,hp=>by
  have e:=vQ (t:=t) (i:=i) (ts:=ts) (ps:=ps) fun q hq=>hp q (List.mem_cons_of_mem _ hq)
  show (if p.1=h then _ else p :: lu h i (ps ++ t :: ts))=_
  rw [if_neg (hp p List.mem_cons_self),e]
  split <;> rfl
theorem y8 {h:Int} {i:Nat}:∀ {ps:List cC},(∀ p∈ps,p.1≠h)->lu h i ps=ps
 | [],_=>rfl
 | p :: ps,hp=>by
  show (if p.1=h then _ else p :: lu h i ps)=_
  rw [if_neg (hp p List.mem_cons_self),y8 fun q hq=>hp q (List.mem_cons_of_mem _ hq)]
theorem xK (xs:List V) (k:Nat):ja xs none (some (k:Int))=xs.take k:=by
 unfold ja
 have e1:HT.dF xs.length 0 none=0:=rfl
 have e2:HT.dF xs.length xs.length (some (k:Int))=min k xs.length:=by
  show (if (k:Int) < 0 then ((k:Int) + (xs.length:Nat)).toNat else min (k:Int).toNat xs.length)=_
  rw [if_neg (by omega),Int.toNat_natCast]
 rw [e1,e2,List.drop_zero,Nat.sub_zero]
 rcases Nat.le_total k xs.length with h | h
 ·rw [Nat.min_eq_left h]
 ·rw [Nat.min_eq_right h,List.take_length,List.take_of_length_le h]
def F8 (D:Addr) (H:Hp) (v:V) (h:cC):Prop:=∃ t l evs,v=.ref t/\H t=some (.tup [.int h.1,.ref l])/\H l=some (.lst evs)/\l≠D/\Paired (hJ H) evs h.2
theorem F8.a {D:Addr} {H:Hp} {v:V} {h:cC} (x:F8 D H v h):sY H v h:=by
 obtain ⟨t,l,evs,e1,e2,e3,_,e4⟩:=x
 exact ⟨t,l,evs,e1,e2,e3,e4⟩
theorem F8.kp {D:Addr} {H H1 H2:Hp} {xs:List V} {v:V} {h:cC} (x:F8 D H v h) (s:aE H H1) (b:mL D H1 H2) (g:H1 D=some (.lst xs)):F8 D H2 v h:=by
 obtain ⟨t,l,evs,e1,e2,e3,ne,e4⟩:=x
 have su:eW H1 H2:=eW.but b g (by intro _ z; cases z)
 exact ⟨t,l,evs,e1,su _ _ (s _ _ e2),b.at ne (s _ _ e3),ne,Paired.mapP e4 fun _ _ y=>y.up ((eW.same s).trans su)⟩
theorem iT:aW ["_law_told_here","_law_due_here","_law_found","_law_hand","_law_events"] ["_law_told_here","_law_due_here"] (aF lU):=⟨rfl,rfl,rfl,by decide +kernel,rfl,by decide +kernel,by decide +kernel⟩
theorem wH {f :Addr} {fd :FuncData} (F:cM K "_law_cut" "_law_cut" lU f fd) (mw:mg "list"=none):aT P w K mg base cy 1 f fd ["_law_told_here","_law_due_here"] (pk K):=by
 refine F.ok iT (fun vs H Q E h=>?_) (fun cdv A outer s H vs Q E hr h=>?_)
 ·obtain ⟨a,d,rfl,_⟩:=h
  rfl
 obtain ⟨a,d,rfl,h⟩:=h
 have hu64:=hr.units
 have hu0:=hr.units0
 have hu:=bS hr
 refine ⟨_,(af (aC (i:=2) iT.nd rfl (Or.inl rfl) (bX aj))
   (af (cA PassesOwn.never rfl (bz (K:=K) rfl (pv 0)) (cY (K:=K) (n:=2) rfl rfl (aS (aB (i:=3) iT.nd rfl (Or.inl rfl)) (aS (aB (i:=4) iT.nd rfl (Or.inl rfl)) cX)))
   (af (a8 (aA bw (pv 3) (aw (ao (K:=K) rfl) (pv 1) aa (fun _ _=>rfl)) (ax _)) (ai (aK (aq uj (pv 2) (bX (ae (cc (ae (pv 3) (ae (cq (jf (K:=K) rfl) (pv 4) eS (bG (aw (ao (K:=K) rfl) (pv 1) aa (fun _ _=>rfl)))) aj))) aj))))) aJ)
   (ai (bU (cB (K:=K) rfl (eG PySem.F.plainAttrs_list PySem.F.slot_list_append PySem.F.type_list_append cu (pv 2) (ae (cc (ae (pv 3) (ae (e8 (my (K:=K) rfl) (by rfl) mw PyProof.Rows.boot_list (ae (pv 4) aj)) aj))) aj)))))))
   (ai (aK (pv 2))))),?_⟩
 obtain ⟨xs,ts,o,ha,hx,td,od,kk⟩:=h
 obtain ⟨dt,rfl,gd⟩:=od
 have lx:=Paired.length hx
 have lt3:=td.ln
 clean_wf
 intro b H1 hb s1 g1
 have ha1:=s1.seq ha
 clean_wf
 refine bZ (K:=K) (a:=a) (xs:=xs) (fun i σ A=>∃ u3 u4 zs,σ=[some (.ref a),some (.ref dt),some (.ref b),u3,u4]/\aE H A/\A b=some (.lst zs)/\Paired (F8 b A) zs (ts.take i)/\∀ p∈ts.take i,p.1≠o.2.1) ⟨none,none,[],rfl,s1,g1,.nil,(fun _ z=>nomatch z)⟩ (fun i σ A _ z=>by obtain ⟨_,_,_,_,z,_⟩:=z; exact z.seq ha) ?_ ?_
 ·rintro i x σ A hxi ⟨u3,u4,zs,rfl,sA,gb,pz,no⟩
  obtain ⟨t,hti,hsa⟩:=bH hx hxi
  have tm:=List.mem_of_getElem? hti
  have til:=(List.getElem?_eq_some_iff.mp hti).1
  obtain ⟨p,l,evs,rfl,f1,f2,f3⟩:=hsa.same sA
  have st:=aZ.of (K:=K) f1
  have sl:=bb.of (K:=K) f2
  have std:=aZ.of (K:=K) (sA _ _ gd)
  have lz:=Paired.length pz
  have lz2:=List.length_take_le i ts
  have lev:=Paired.length f3
  have le:=td.le t tm
  clean_wf
  by_cases e:t.1=o.2.1
  ·rw [decide_eq_true e]
   clean_wf
   intro c1 B1 hc1 t1 gc1
   rw [xK] at gc1
   clean_wf
   intro c2 B2 hc2 t2 gc2
   clean_wf
   intro c3 B3 hc3 t3 gc3
   have t13:=t1.trans (t2.trans t3)
   clean_wf
   refine yU (t13 _ _ gb) gc3 (by show zs.length + 1<=1000; omega) fun c4 B4 hc4 t4 gc4=>?_
   have t14:=t13.trans t4
   refine kk B4 c4 _ (sA.trans t14) gc4 ?_
   have ec:lu o.2.1 o.2.2 ts=ts.take i ++ [(t.1,t.2.take o.2.2)]:=by
    have e2:ts=ts.take i ++ t :: ts.drop (i + 1):=by
     have:=(List.take_append_drop (i + 1) ts).symm
     rw [bx hti,List.append_assoc] at this
     exact this
    conv=>lhs; rw [e2]
    rw [vQ no,if_pos e]
   rw [ec]
   exact bE (Paired.mapP pz fun _ _ y=>y.a.same t14) (.cons ⟨c2,c1,evs.take o.2.2,rfl,(t3.trans t4) _ _ gc2,(t2.trans (t3.trans t4)) _ _ gc1,Paired.mapP (eZ _ f3) fun _ _ y=>y.up (.same t14)⟩ .nil)
  ·rw [decide_eq_false e]
   clean_wf
   intro c1 B1 hc1 t1 gc1
   clean_wf
   intro c2 B2 hc2 t2 gc2
   have t12:=t1.trans t2
   have gbB:=t12 _ _ gb
   have ls:zs.length < sizeLine:=aD (by omega)
   clean_wf
   intro B3 b3 g3
   have su3:eW B2 B3:=eW.but b3 gbB (by intro _ z; cases z)
   have nc:c1≠b:=fun z=>by rw [z,gb] at hc1; cases hc1
   refine ⟨_,_,_,rfl,b3.same (sA.trans t12) hb,g3,?_,fun q hq=>?_⟩
   ·rw [bx hti]
    exact bE (Paired.mapP pz fun _ _ y=>y.kp t12 b3 gbB) (.cons ⟨c2,c1,evs,rfl,su3 _ _ gc2,b3.at nc (t2 _ _ gc1),nc,Paired.mapP f3 fun _ _ y=>y.up ((eW.same t12).trans su3)⟩ .nil)
   ·rw [bx hti] at hq
    rcases List.mem_append.mp hq with z | z
    ·exact no q z
    ·rw [List.mem_singleton.mp z]; exact e
 rintro σ A ⟨u3,u4,zs,rfl,sA,gb,pz,no⟩
 rw [lx,List.take_length] at pz no
 clean_wf
 exact kk A b zs sA gb (by rw [y8 no]; exact Paired.mapP pz fun _ _ y=>y.a)
end
end K81
namespace K81
open PySem L2
abbrev eJ:Stmt:=i7 27
section
variable {P:Program} {w:World} {K:PySem.W.Frag} {mg:Str->Option Value} {base:Heap}
def Ee (H:Hp) (te:Addr) (cell:Int) (σ:St) (A:Hp):Prop:=∃ n c k kd wd cs cv,σ=[some (.ref te),some (.int cell),some (.int n),some (.int c),some (.int k),some (.str kd),some (.int wd),some cv,some (.int (cell % 7))]/\aE H A/\Cu A cv cs/\(0<=c/\c < 63)/\1<=k/\(PyData.str kd).canLay0=true/\qo cs
theorem qo.drop {m:List (Int×Int)} (h:qo m) (k:Nat):qo (m.drop k):=by
 have sub:=List.drop_sublist k m
 exact ⟨⟨h.ck.nd.sublist (sub.map _),fun p hp=>h.ck.nn p (List.mem_of_mem_drop hp),fun p hp=>h.ck.rg p (List.mem_of_mem_drop hp)⟩,fun p hp=>h.le p (List.mem_of_mem_drop hp)⟩
theorem qo.up {m:List (Int×Int)} {p:Int×Int} (h:qo (m ++ [p])):qo (m ++ [(p.1,p.2 + 1)]):=by
 have hp:p∈m ++ [p]:=List.mem_append_right _ (List.mem_singleton.mpr rfl)
 have key:∀ q∈m ++ [(p.1,p.2 + 1)],q∈m ++ [p]∨q=(p.1,p.2 + 1):=fun q hq=>by
  rcases List.mem_append.mp hq with z | z
  ·exact .inl (List.mem_append_left _ z)
  ·exact .inr (List.mem_singleton.mp z)
 refine ⟨⟨?_,fun q hq=>?_,fun q hq=>?_⟩,fun q hq=>?_⟩
 ·have:=h.ck.nd
  rw [List.map_append] at this ⊢
  exact this
 ·rcases key q hq with z | z
  ·exact h.ck.nn q z
  ·rw [z]; have:=h.ck.nn p hp; show 0<=p.2 + 1; omega
 ·rcases key q hq with z | z
  ·exact h.ck.rg q z
  ·rw [z]; exact h.ck.rg p hp
 ·rcases key q hq with z | z
  ·exact h.le q z
  ·rw [z]; have:=h.le p hp; show 1<=p.2 + 1; omega
theorem Iw (j:Int) (k0:0<=j) (k1:j < 3):∃ kd,jG [V.str "own",V.str "heard",V.str "one"] j=some (V.str kd)/\(PyData.str kd).canLay0=true:=by
 rcases (by omega:j=0∨j=1∨j=2) with rfl | rfl | rfl
 ·exact ⟨"own",rfl,by decide +kernel⟩
 ·exact ⟨"heard",rfl,by decide +kernel⟩
 ·exact ⟨"one",rfl,by decide +kernel⟩
theorem oT {α β:Type} {R:α->β->Prop}:∀ {xs:List α} {ys:List β} (k:Nat),Paired R xs ys->Paired R (xs.drop k) (ys.drop k)
 | _,_,0,h=>h
 | _,_,_ + 1,.nil=>.nil
 | _,_,k + 1,.cons _ t=>oT k t
def gj (K:PySem.W.Frag):Sp:=fun vs H Q _=>∃ (ev:V) (cell:Int),vs=[ev,.int cell]/\∃ x y,hJ H ev (.T x y)/\Wf x/\(PyData.str y).canLay0=true/\0<=cell/\∀ H' v x',aE H H'->hJ H' v (.T x' y)->Wf x'->Q v H'
theorem aH:aW ["_law_event","_law_cell","_law_number","_law_caller","_law_count","_law_kind","_law_word","_law_causes","_law_way"] ["_law_event","_law_cell"] (aF eJ):=⟨rfl,rfl,rfl,by decide +kernel,rfl,by decide +kernel,by decide +kernel⟩
theorem kA {f :Addr} {fd :FuncData} (F:cM K "_law_call_changed" "_law_call_changed" eJ f fd) (qE:mg "max"=none):aT P w K mg base cy 1 f fd ["_law_event","_law_cell"] (gj K):=by
 refine F.ok aH (fun vs H Q E h=>?_) (fun cdv A outer s H vs Q E hr h=>?_)
 ·obtain ⟨ev,cell,rfl,_⟩:=h
  rfl
 obtain ⟨ev,cell,rfl,h⟩:=h
 have hu64:=hr.units
 have hu0:=hr.units0
 have hu:=bS hr
 refine ⟨_,(af (iW (aw (ao (K:=K) rfl) (pv 0) aa (fun _ _=>rfl)) (cY (K:=K) (n:=3) rfl rfl (aS (aB (i:=2) aH.nd rfl (Or.inl rfl)) (aS (aB (i:=3) aH.nd rfl (Or.inl rfl)) (aS (aB (i:=4) aH.nd rfl (Or.inl rfl)) cX)))))
   (af (iW (cq (um (K:=K) rfl) (pv 0) (bG aa) (bG aa)) (cY (K:=K) (n:=3) rfl rfl (aS (aB (i:=5) aH.nd rfl (Or.inl rfl)) (aS (aB (i:=6) aH.nd rfl (Or.inl rfl)) (aS (aB (i:=7) aH.nd rfl (Or.inl rfl)) cX)))))
   (af (aC (i:=8) aH.nd rfl (Or.inl rfl) (aq br (pv 1) aa))
   (af (a8 (aA bw (pv 8) aa (ax _)) (ai (aC (i:=2) aH.nd rfl (Or.inl rfl) (bj (jm rfl) (by rfl) qE PyProof.Rows.boot_max (ae aa (ae (aq oB (aq bu (pv 2) aa) (aq gL (aq br (aq bM (pv 1) aa) aa) aa)) aj))))) aJ)
   (af (a8 (aA bw (pv 8) aa (ax _)) (ai (aC (i:=3) aH.nd rfl (Or.inl rfl) (aq br (aq bu (aq bu (pv 3) aa) (aq br (aq bM (pv 1) aa) aa)) aa))) aJ)
   (af (a8 (aA bw (pv 8) aa (ax _)) (ai (aC (i:=4) aH.nd rfl (Or.inl rfl) (bj (jm rfl) (by rfl) qE PyProof.Rows.boot_max (ae aa (ae (aq oB (aq bu (pv 4) aa) (aq gL (aq br (aq bM (pv 1) aa) aa) aa)) aj))))) aJ)
   (af (a8 (aA bw (pv 8) aa (ax _)) (ai (aC (i:=5) aH.nd rfl (Or.inl rfl) (aw (aM (K:=K) rfl) (bX (ae aP (ae aP (ae aP aj)))) (aq br (aq bM (pv 1) aa) aa) (fun _ _=>rfl)))) aJ)
   (af (a8 (aA bw (pv 8) aa (ax _)) (ai (aC (i:=6) aH.nd rfl (Or.inl rfl) (aq bu (pv 6) aa))) aJ)
   (af (a8 (aA bw (pv 8) aa (ax _)) (ai (aC (i:=7) aH.nd rfl (Or.inl rfl) (cq (um (K:=K) rfl) (pv 7) (bG aa) eS))) aJ)
   (af (a8 (PW.pt (eX (aA bw (pv 8) aa (ax _)) (fR (aA (ia (K:=K) rfl hu64) (pv 7) (cc aj) (ax _))))) (ai (aC (i:=7) aH.nd rfl (Or.inl rfl) (aq (As (K:=K) rfl) (cq (um (K:=K) rfl) (pv 7) eS (bG (eN c9 aa))) (cc (ae (cc (ae (aw (ao (K:=K) rfl) (aw (ao (K:=K) rfl) (pv 7) (eN c9 aa) (fun _ _=>rfl)) aa (fun _ _=>rfl)) (ae (aq bu (aw (ao (K:=K) rfl) (aw (ao (K:=K) rfl) (pv 7) (eN c9 aa) (fun _ _=>rfl)) aa (fun _ _=>rfl)) aa) aj))) aj))))) aJ)
   (af (a8 (aA bw (pv 5) aP (ax _)) (ai (aC (i:=7) aH.nd rfl (Or.inl rfl) (cc aj))) aJ)
   (ai (aK (cc (ae aP (ae (cc (ae (pv 2) (ae (pv 3) (ae (pv 4) aj)))) (ae (pv 5) (ae (pv 6) (ae (pv 7) (ae (aw (ao (K:=K) rfl) (pv 0) aa (fun _ _=>rfl)) aj)))))))))))))))))))),?_⟩
 obtain ⟨x,y,he,wx,ly,c0,kk⟩:=h
 obtain ⟨te,nv,cv,rfl,gt,⟨nt,rfl,gn⟩,hcv,_⟩:=he
 have ste:=aZ.of (K:=K) gt
 have stn:=aZ.of (K:=K) gn
 refine bD (fun σ' A=>σ'=[some (.ref te),some (.int cell),some (.int x.n),some (.int x.c),some (.int x.k),none,none,none,none]/\H=A) ?_ fun N rest=>?_
 rotate_left
 ·clean_wf
  exact rest _ _ ⟨rfl,rfl⟩
 rintro σ' _ ⟨rfl,rfl⟩
 refine bD (fun σ' A=>σ'=[some (.ref te),some (.int cell),some (.int x.n),some (.int x.c),some (.int x.k),some (.str x.kd),some (.int x.wd),some cv,none]/\aE H A) ?_ fun N rest=>?_
 rotate_left
 ·clean_wf
  refine ⟨te,_,rfl,ste,fun z=>absurd z (by show ¬ ((2:Nat)=0/\(5:Nat)=6); decide),fun _ p hp=>?_⟩
  have s1:=aN (o:=.tup [.str x.kd,.int x.wd,cv]) hp
  have g1:(upd H p (.tup [.str x.kd,.int x.wd,cv])) p=some (.tup [.str x.kd,.int x.wd,cv]):=au
  show Ca K 3 _ (.ref p) _ (upd H p (.tup [.str x.kd,.int x.wd,cv])) _
  generalize upd H p (.tup [.str x.kd,.int x.wd,cv])=H1 at s1 g1 ⊢
  have st1:=aZ.of (K:=K) g1
  clean_wf
  exact rest _ _ ⟨rfl,s1⟩
 rintro σ' A ⟨rfl,sA⟩
 refine bD (Ee H te cell) ?_ fun N rest=>?_
 rotate_left
 ·clean_wf
  exact rest _ _ ⟨x.n,x.c,x.k,x.kd,x.wd,x.cs,cv,rfl,sA,hcv.up (.same sA),wx.c,wx.k,wx.kd,⟨wx.ck,wx.ps⟩⟩
 rintro σ' A ⟨n,c,k,kd,wd,cs,cv,rfl,sA,hcv,hc,hk,lk,cau⟩
 have m2:vC (cell / 7 % 2) 2:=.inr ⟨by decide,by decide⟩
 refine bD (Ee H te cell) ?_ fun N rest=>?_
 rotate_left
 ·clean_wf
  refine dN (fun _=>?_) fun _=>?_
  ·clean_wf
   refine ⟨_,_,rfl,?_⟩
   clean_wf
   exact rest _ _ ⟨_,c,k,kd,wd,cs,cv,rfl,sA,hcv,hc,hk,lk,cau⟩
  ·exact rest _ _ ⟨n,c,k,kd,wd,cs,cv,rfl,sA,hcv,hc,hk,lk,cau⟩
 rintro σ' A ⟨n,c,k,kd,wd,cs,cv,rfl,sA,hcv,hc,hk,lk,cau⟩
 refine bD (Ee H te cell) ?_ fun N rest=>?_
 rotate_left
 ·clean_wf
  refine dN (fun _=>?_) fun _=>?_
  ·clean_wf
   exact rest _ _ ⟨n,_,k,kd,wd,cs,cv,rfl,sA,hcv,lit (by decide),hk,lk,cau⟩
  ·exact rest _ _ ⟨n,c,k,kd,wd,cs,cv,rfl,sA,hcv,hc,hk,lk,cau⟩
 rintro σ' A ⟨n,c,k,kd,wd,cs,cv,rfl,sA,hcv,hc,hk,lk,cau⟩
 refine bD (Ee H te cell) ?_ fun N rest=>?_
 rotate_left
 ·clean_wf
  refine dN (fun _=>?_) fun _=>?_
  ·clean_wf
   refine ⟨_,_,rfl,?_⟩
   clean_wf
   refine rest _ _ ⟨n,c,_,kd,wd,cs,cv,rfl,sA,hcv,hc,?_,lk,cau⟩
   split <;> omega
  ·exact rest _ _ ⟨n,c,k,kd,wd,cs,cv,rfl,sA,hcv,hc,hk,lk,cau⟩
 rintro σ' A ⟨n,c,k,kd,wd,cs,cv,rfl,sA,hcv,hc,hk,lk,cau⟩
 have l3:=lit (c:=cell / 7) (m:=3) (by decide)
 obtain ⟨kd3,hkd3,lkd3⟩:=Iw (cell / 7 % 3) l3.1 l3.2
 refine bD (Ee H te cell) ?_ fun N rest=>?_
 rotate_left
 ·clean_wf
  refine dN (fun _=>?_) fun _=>?_
  ·clean_wf
   intro z1 A1 hz1 t1 gz1
   have sz1:=bb.of (K:=K) gz1
   clean_wf
   exact rest _ _ ⟨n,c,k,kd3,wd,cs,cv,rfl,sA.trans t1,hcv.up (.same t1),hc,hk,lkd3,cau⟩
  ·exact rest _ _ ⟨n,c,k,kd,wd,cs,cv,rfl,sA,hcv,hc,hk,lk,cau⟩
 rintro σ' A ⟨n,c,k,kd,wd,cs,cv,rfl,sA,hcv,hc,hk,lk,cau⟩
 refine bD (Ee H te cell) ?_ fun N rest=>?_
 rotate_left
 ·clean_wf
  refine dN (fun _=>?_) fun _=>?_
  ·clean_wf
   exact rest _ _ ⟨n,c,k,kd,_,cs,cv,rfl,sA,hcv,hc,hk,lk,cau⟩
  ·exact rest _ _ ⟨n,c,k,kd,wd,cs,cv,rfl,sA,hcv,hc,hk,lk,cau⟩
 rintro σ' A ⟨n,c,k,kd,wd,cs,cv,rfl,sA,hcv,hc,hk,lk,cau⟩
 refine bD (Ee H te cell) ?_ fun N rest=>?_
 rotate_left
 ·obtain ⟨tc,xs,rfl,gc,pc⟩:=id hcv
  have lpc:=Paired.length pc
  clean_wf
  refine dN (fun _=>?_) fun _=>?_
  ·clean_wf
   refine ⟨tc,xs,rfl,aZ.of gc,fun z=>?_,fun z p hp=>?_⟩
   ·exact rest _ _ ⟨n,c,k,kd,wd,cs,_,rfl,sA,hcv,hc,hk,lk,cau⟩
   ·have nx:1<=xs.length:=by
     refine Nat.pos_of_ne_zero fun w=>z ⟨?_,rfl⟩
     rw [w]; rfl
    have ec:ja xs (some 1) none=xs.drop 1:=by
     unfold ja
     have e2:HT.dF xs.length 0 (some 1)=1:=by
      show min (1:Int).toNat xs.length=1
      have:(1:Int).toNat=1:=rfl
      omega
     have e1:HT.dF xs.length xs.length none=xs.length:=rfl
     rw [e1,e2,List.take_of_length_le (by rw [List.length_drop]; omega)]
    rw [ec]
    have s1:=aN (o:=.tup (xs.drop 1)) hp
    have g1:(upd A p (.tup (xs.drop 1))) p=some (.tup (xs.drop 1)):=au
    generalize upd A p (.tup (xs.drop 1))=A1 at s1 g1 ⊢
    exact rest _ _ ⟨n,c,k,kd,wd,cs.drop 1,.ref p,rfl,sA.trans s1,⟨p,_,rfl,g1,oT 1 (i8 s1 pc)⟩,hc,hk,lk,cau.drop 1⟩
  ·exact rest _ _ ⟨n,c,k,kd,wd,cs,_,rfl,sA,hcv,hc,hk,lk,cau⟩
 rintro σ' A ⟨n,c,k,kd,wd,cs,cv,rfl,sA,hcv,hc,hk,lk,cau⟩
 refine bD (Ee H te cell) ?_ fun N rest=>?_
 rotate_left
 ·obtain ⟨tc,xs,rfl,gc,pc⟩:=id hcv
  have lpc:=Paired.length pc
  have stc:=aZ.of (K:=K) gc
  clean_wf
  refine dN (fun _=>?_) fun _=>?_
  ·clean_wf
   intro z1 A1 hz1 t1 gz1
   have pc1:=i8 t1 pc
   refine ⟨.tuple (cs.map pU),.tuple [],.p (.tup (aZ.of (t1 _ _ gc)) pc1.dps),.p (.tup (aZ.of gz1) .nil),iI (ju _),rfl,by have:(PyData.tuple []).depth=1:=rfl; omega,?_⟩
   rcases List.eq_nil_or_concat cs with e0 | ⟨m,p0,e0⟩
   ·subst e0
    refine ⟨false,rfl,?_⟩
    clean_wf
    exact rest _ _ ⟨n,c,k,kd,wd,[],_,rfl,sA.trans t1,hcv.up (.same t1),hc,hk,lk,cau⟩
   ·rw [List.concat_eq_append] at e0
    subst e0
    have eq1:(!(PyData.tuple ((m ++ [p0]).map pU)).eqv (.tuple []))=true:=by
     rw [List.map_append]
     cases m <;> rfl
    obtain ⟨vp,hvp,tp,rfl,gp⟩:=gZ pc1 (i:=m.length) (y:=p0) (by rw [List.getElem?_append_right (Nat.le_refl _),Nat.sub_self]; rfl)
    rw [List.length_append,List.length_singleton] at lpc
    have ex:xs=xs.take m.length ++ [.ref tp]:=by
     conv=>lhs; rw [← List.take_length (l:=xs),lpc,bx hvp]
    have px0:kW A1 (xs.take m.length) m:=by
     have:=eZ m.length pc1
     rwa [List.take_append_of_le_length (Nat.le_refl _),List.take_length] at this
    have lx0:(xs.take m.length).length=m.length:=Paired.length px0
    generalize xs.take m.length=xs0 at *
    subst ex
    have atl:jG (xs0 ++ [V.ref tp]) (-1)=some (.ref tp):=j9
    have gc1:=t1 _ _ gc
    refine ⟨true,by rw [eq1],?_⟩
    rw [if_pos rfl]
    clean_wf
    refine ⟨tc,_,rfl,aZ.of gc1,fun z=>?_,fun z p hp=>?_⟩
    ·have z2:=z.2
     have e2:HT.dF (xs0 ++ [V.ref tp]).length (xs0 ++ [V.ref tp]).length (some (-1))=xs0.length:=by
      rw [List.length_append,List.length_singleton]
      show ((-1:Int) + ((xs0.length + 1:Nat):Int)).toNat=xs0.length
      omega
     rw [e2,List.length_append,List.length_singleton] at z2
     omega
    have ec:ja (xs0 ++ [V.ref tp]) none (some (-1))=xs0:=by
     unfold ja
     have e2:HT.dF (xs0 ++ [V.ref tp]).length (xs0 ++ [V.ref tp]).length (some (-1))=xs0.length:=by
      rw [List.length_append,List.length_singleton]
      show ((-1:Int) + ((xs0.length + 1:Nat):Int)).toNat=xs0.length
      omega
     have e1:HT.dF (xs0 ++ [V.ref tp]).length 0 none=0:=rfl
     rw [e1,e2,List.drop_zero,Nat.sub_zero,List.take_left]
    rw [ec]
    have s2:=aN (o:=.tup xs0) hp
    have g2:(upd A1 p (.tup xs0)) p=some (.tup xs0):=au
    generalize upd A1 p (.tup xs0)=A2 at s2 g2 ⊢
    have stc2:=aZ.of (K:=K) (s2 _ _ gc1)
    have stp2:=aZ.of (K:=K) (s2 _ _ gp)
    clean_wf
    intro q1 A3 hq1 t3 gq1
    clean_wf
    intro q2 A4 hq2 t4 gq2
    have t24:=t3.trans t4
    have kp:aE A A4:=t1.trans (s2.trans t24)
    have cau':=cau.up
    refine ⟨p,q2,xs0,[.ref q1],rfl,rfl,aZ.of (t24 _ _ g2),aZ.of gq2,Nat.le_of_lt (aD (by show xs0.length + 1<=1000; have:=cau.ck.len; rw [List.length_append,List.length_singleton] at this; omega)),fun z=>?_,(fun _ z=>by cases z),fun z _ p3 hp3=>?_⟩
    ·have:m=[]:=List.length_eq_zero_iff.mp (by rw [← lx0,z]; rfl)
     subst this
     exact rest _ _ ⟨n,c,k,kd,wd,_,.ref q2,rfl,sA.trans kp,⟨q2,_,rfl,gq2,.cons ⟨q1,rfl,t4 _ _ gq1⟩ .nil⟩,hc,hk,lk,cau'⟩
    ·have s5:=aN (o:=.tup (xs0 ++ [.ref q1])) hp3
     have g5:(upd A4 p3 (.tup (xs0 ++ [.ref q1]))) p3=some (.tup (xs0 ++ [.ref q1])):=au
     generalize upd A4 p3 (.tup (xs0 ++ [.ref q1]))=A5 at s5 g5 ⊢
     exact rest _ _ ⟨n,c,k,kd,wd,_,.ref p3,rfl,sA.trans (kp.trans s5),⟨p3,_,rfl,g5,bE (i8 (s2.trans (t24.trans s5)) px0) (.cons ⟨q1,rfl,(t4.trans s5) _ _ gq1⟩ .nil)⟩,hc,hk,lk,cau'⟩
  ·clean_wf
   exact rest _ _ ⟨n,c,k,kd,wd,cs,_,rfl,sA,hcv,hc,hk,lk,cau⟩
 rintro σ' A ⟨n,c,k,kd,wd,cs,cv,rfl,sA,hcv,hc,hk,lk,cau⟩
 have steA:=aZ.of (K:=K) (sA _ _ gt)
 refine bD (fun σ' A1=>∃ cs cv,σ'=[some (.ref te),some (.int cell),some (.int n),some (.int c),some (.int k),some (.str kd),some (.int wd),some cv,some (.int (cell % 7))]/\aE A A1/\Cu A1 cv cs/\qo cs/\(kd="own"->cs=[])) ?_ fun N rest=>?_
 rotate_left
 ·clean_wf
  by_cases ko:kd="own"
  ·rw [decide_eq_true ko]
   clean_wf
   intro z1 A1 hz1 t1 gz1
   clean_wf
   exact rest _ _ ⟨[],.ref z1,rfl,t1,⟨z1,[],rfl,gz1,.nil⟩,qo.nil,fun _=>rfl⟩
  ·rw [decide_eq_false ko]
   clean_wf
   exact rest _ _ ⟨cs,cv,rfl,.refl _,hcv,cau,fun z=>absurd z ko⟩
 rintro σ' A1 ⟨cs,cv,rfl,t1,hcv,cau,own⟩
 have ste1:=aZ.of (K:=K) ((sA.trans t1) _ _ gt)
 clean_wf
 intro q1 A2 hq1 t2 gq1
 have ste2:=aZ.of (K:=K) ((sA.trans (t1.trans t2)) _ _ gt)
 clean_wf
 intro q2 A3 hq2 t3 gq2
 have wz:Wf ⟨n,c,k,kd,wd,cs⟩:=⟨own,cau.le,cau.ck,hc,hk,lk⟩
 exact kk A3 (.ref q2) ⟨n,c,k,kd,wd,cs⟩ (sA.trans (t1.trans (t2.trans t3))) (hJ.mkT gq2 ⟨q1,rfl,t3 _ _ gq1⟩ (hcv.up (.same (t2.trans t3))) wz) wz
end
end K81
namespace K81
open PySem L2
abbrev iz:Stmt:=i7 28
abbrev gK:Stmt:=i7 29
section
variable {P:Program} {w:World} {K:PySem.W.Frag} {mg:Str->Option Value} {base:Heap}
theorem FV {x y:Int} (x0:0<=x) (y0:0<=y):Builtin.bitOr x y=((x.toNat ||| y.toNat:Nat):Int):=by
 have nn:∀ z:Int,Builtin.bitNot (Builtin.bitNot z)=z:=fun z=>by unfold Builtin.bitNot; omega
 have ng:∀ z:Int,0<=z->decide (0<=Builtin.bitNot z)=false:=fun z h=>decide_eq_false (by unfold Builtin.bitNot; omega)
 unfold Builtin.bitOr
 have e:Builtin.bitAnd (Builtin.bitNot x) (Builtin.bitNot y)=Builtin.bitNot (((Builtin.bitNot (Builtin.bitNot x)).toNat ||| (Builtin.bitNot (Builtin.bitNot y)).toNat:Nat):Int):=by
  unfold Builtin.bitAnd
  rw [ng x x0,ng y y0]
 rw [e,nn,nn,nn]
theorem oU {x y:Int} (x0:0<=x) (y0:0<=y):0<=Builtin.bitXor x y:=by
 have e1:=FV x0 y0
 have e2:=qx x0 y0
 have h:x.toNat &&& y.toNat<=x.toNat ||| y.toNat:=Nat.le_trans Nat.and_le_left Nat.left_le_or
 show 0<=Builtin.bitOr x y - Builtin.bitAnd x y
 rw [e1,e2]
 omega
def jV (K:PySem.W.Frag):Sp:=fun vs H Q _=>∃ (hand:Int) (ev:V) (cell:Int),vs=[.int hand,ev,.int cell]/\∃ e,hJ H ev e/\mK e/\0<=hand/\hand < 63/\0<=cell/\∀ H' v e',aE H H'->hJ H' v e'->mK e'->Q v H'
theorem gN:aW ["_law_hand","_law_event","_law_cell","_law_parts","_law_at"] ["_law_hand","_law_event","_law_cell"] (aF iz):=⟨rfl,rfl,rfl,by decide +kernel,rfl,by decide +kernel,by decide +kernel⟩
theorem qf {f gW:Addr} {fd gw:FuncData} (F:cM K "_law_changed" "_law_changed" iz f fd)
  (k8:aT P w K mg base cy 1 gW gw ["_law_event","_law_cell"] (gj K)) (lg:dP K mg "_law_call_changed" gW gw ["_law_event","_law_cell"]) (mw:mg "list"=none) (qE:mg "max"=none) (mN:mg "tuple"=none):aT P w K mg base cy 2 f fd ["_law_hand","_law_event","_law_cell"] (jV K):=by
 refine F.ok gN (fun vs H Q E h=>?_) (fun cdv A outer s H vs Q E hr h=>?_)
 ·obtain ⟨hand,ev,cell,rfl,_⟩:=h
  rfl
 obtain ⟨hand,ev,cell,rfl,h⟩:=h
 have hu64:=hr.units
 have hu0:=hr.units0
 have hu:=bS hr
 refine ⟨_,(af (a8 (aA bw (aw (ao (K:=K) rfl) (pv 1) aa (fun _ _=>rfl)) aP (ax _)) (ai (aK (bI k8 lg hr (ae (pv 1) (ae (pv 2) aj))))) aJ)
   (af (a8 (aA bw (aw (ao (K:=K) rfl) (pv 1) aa (fun _ _=>rfl)) aP (ax _)) (ai (aK (cc (ae aP (ae (bj (jm rfl) (by rfl) qE PyProof.Rows.boot_max (ae aa (ae (aq oB (aq bu (aw (ao (K:=K) rfl) (pv 1) aa (fun _ _=>rfl)) aa) (aq gL (aq br (pv 2) aa) aa)) aj))) aj))))) aJ)
   (af (aC (i:=3) gN.nd rfl (Or.inl rfl) (e8 (my (K:=K) rfl) (by rfl) mw PyProof.Rows.boot_list (ae (pv 1) aj)))
   (af (aC (i:=4) gN.nd rfl (Or.inl rfl) (aq bu aa (aq br (aq br (pv 2) aa) aa)))
   (af (a8 (aA bw (pv 4) aa (ax _)) (ai (iW (bj (jm rfl) (by rfl) qE PyProof.Rows.boot_max (ae aa (ae (aq bu (aw (aM (K:=K) rfl) (pv 3) aa (fun _ _=>rfl)) (aw (aM (K:=K) rfl) (bX (ae aa (ae aa (ae (eN c9 aa) (ae aa aj))))) (aq br (aq bM (pv 2) aa) aa) (fun _ _=>rfl))) aj))) (uK (pv 3) aa ny))) (ai (a8 (aA xm (aq br (aq bM (pv 2) aa) aa) aa (ax _)) (ai (iW (aq Bc (aw (aM (K:=K) rfl) (pv 3) (pv 4) (fun _ _=>rfl)) (aq uf aa (pv 0))) (uK (pv 3) (pv 4) ny))) (ai (iW (aq Bc (aw (aM (K:=K) rfl) (pv 3) (pv 4) (fun _ _=>rfl)) (aq uf aa (aq br (aq bM (pv 2) aa) aa))) (uK (pv 3) (pv 4) ny))))))
   (ai (aK (e8 (o5 (K:=K) rfl) (by rfl) mN PyProof.Rows.boot_tuple (ae (pv 3) aj))))))))),?_⟩
 obtain ⟨e,he,we,h0,h1,c0,kk⟩:=h
 cases e with
 | T x y =>
  obtain ⟨te,nv,cv,rfl,gt,_⟩:=id he
  have ste:=aZ.of (K:=K) gt
  refine cK ?_
  clean_wf
  rw [decide_eq_true (rfl:("take":Str)="take")]
  clean_wf
  exact ⟨_,cell,rfl,x,y,he,we.1,we.2,c0,fun H' v x' s e w=>kk H' v _ s e ⟨w,we.2⟩⟩
 | O n =>
  obtain ⟨te,rfl,gt⟩:=id he
  have ste:=aZ.of (K:=K) gt
  have m2:vC (cell % 2) 2:=.inr ⟨by decide,by decide⟩
  refine cK ?_
  clean_wf
  rw [ur]
  clean_wf
  rw [decide_eq_true (rfl:("out":Str)="out")]
  clean_wf
  refine ⟨_,_,rfl,?_⟩
  clean_wf
  intro z1 A1 hz1 t1 gz1
  exact kk A1 _ (.O _) t1 ⟨z1,rfl,gz1⟩ True.intro
 | L n t =>
  obtain ⟨te,rfl,gt,p1,p2,p3⟩:=id he
  have ste:=aZ.of (K:=K) gt
  refine cK ?_
  clean_wf
  rw [DG]
  clean_wf
  rw [show decide (("list":Str)="out")=false by kernel_rfl]
  clean_wf
  intro lp A hlp sA glp
  have slp:=bb.of (K:=K) glp
  have q5:=lit (c:=cell) (m:=5) (by decide)
  have q4:=lit (c:=cell % 5) (m:=4) (by decide)
  have qa:1<=1 + cell % 5 % 4/\1 + cell % 5 % 4<=4:=by omega
  have fin:∀ (n' a b c:Int) (B:Hp),aE H B->B lp=some (.lst [.str "list",.int n',.int a,.int b,.int c])->0<=a->0<=b->0<=c->∀ p B2,B p=none->aE B B2->B2 p=some (.tup [.str "list",.int n',.int a,.int b,.int c])->Q (.ref p) B2:=fun n' a b c B sB gB a0 b0 c0 p B2 hp sB2 g2=>kk B2 _ (.L n' (a,b,c)) (sB.trans sB2) ⟨p,rfl,g2,a0,b0,c0⟩ ⟨a0,b0,c0⟩
  refine bD (fun σ' B=>σ'=[some (.int hand),some (.ref te),some (.int cell),some (.ref lp),some (.int (1 + cell % 5 % 4))]/\A=B) ?_ fun N rest=>?_
  rotate_left
  ·clean_wf
   exact rest _ _ ⟨rfl,rfl⟩
  rintro σ' _ ⟨rfl,rfl⟩
  generalize 1 + cell % 5 % 4=at' at *
  refine bD (fun σ' B=>σ'=[some (.int hand),some (.ref te),some (.int cell),some (.ref lp),some (.int at')]/\aE H B/\∃ n' a b c,B lp=some (.lst [.str "list",.int n',.int a,.int b,.int c])/\0<=a/\0<=b/\0<=c) ?_ fun N rest=>?_
  rotate_left
  ·have pw:∀ k:Nat,(0:Int)<=1 * 2 ^ k:=fun k=>by rw [Int.one_mul]; exact jH _
   have cp:Bj 1 hand:=⟨h0,by omega,by decide⟩
   have q63:=lit (c:=cell / 15) (m:=63) (by decide)
   have cp2:Bj 1 (cell / 15 % 63):=⟨q63.1,by omega,by decide⟩
   rcases (by omega:at'=1∨at'=2∨at'=3∨at'=4) with rfl | rfl | rfl | rfl
   ·have l4:=lit (c:=cell / 5) (m:=4) (by decide)
    obtain ⟨w,hw⟩:∃ w:Int,jG [V.int 1,V.int 2,V.int (-1),V.int 7] (cell / 5 % 4)=some (.int w):=by
     have a1:=l4.1
     have a2:=l4.2
     generalize cell / 5 % 4=j at a1 a2 ⊢
     rcases (by omega:j=0∨j=1∨j=2∨j=3) with rfl | rfl | rfl | rfl
     ·exact ⟨_,rfl⟩
     ·exact ⟨_,rfl⟩
     ·exact ⟨_,rfl⟩
     ·exact ⟨_,rfl⟩
    clean_wf
    rw [if_pos (decide_eq_true rfl)]
    clean_wf
    intro z1 A1 hz1 t1 gz1
    have sz:=bb.of (K:=K) gz1
    clean_wf
    refine ⟨_,_,rfl,?_⟩
    clean_wf
    refine kN (t1 _ _ glp) (k:=1) (j:=1) rfl fun A2 b2 g2=>?_
    exact rest _ _ ⟨rfl,b2.same (sA.trans t1) hlp,_,_,_,_,g2,p1,p2,p3⟩
   ·clean_wf
    rw [if_neg (show ¬ (decide ((2:Int)=1)=true) by decide)]
    clean_wf
    refine dN (fun _=>?_) fun _=>?_
    ·clean_wf
     refine kN glp (k:=2) (j:=2) rfl fun A2 b2 g2=>?_
     exact rest _ _ ⟨rfl,b2.same sA hlp,_,_,_,_,g2,oU p1 (pw _),p2,p3⟩
    ·clean_wf
     refine kN glp (k:=2) (j:=2) rfl fun A2 b2 g2=>?_
     exact rest _ _ ⟨rfl,b2.same sA hlp,_,_,_,_,g2,oU p1 (pw _),p2,p3⟩
   ·clean_wf
    rw [if_neg (show ¬ (decide ((3:Int)=1)=true) by decide)]
    clean_wf
    refine dN (fun _=>?_) fun _=>?_
    ·clean_wf
     refine kN glp (k:=3) (j:=3) rfl fun A2 b2 g2=>?_
     exact rest _ _ ⟨rfl,b2.same sA hlp,_,_,_,_,g2,p1,oU p2 (pw _),p3⟩
    ·clean_wf
     refine kN glp (k:=3) (j:=3) rfl fun A2 b2 g2=>?_
     exact rest _ _ ⟨rfl,b2.same sA hlp,_,_,_,_,g2,p1,oU p2 (pw _),p3⟩
   ·clean_wf
    rw [if_neg (show ¬ (decide ((4:Int)=1)=true) by decide)]
    clean_wf
    refine dN (fun _=>?_) fun _=>?_
    ·clean_wf
     refine kN glp (k:=4) (j:=4) rfl fun A2 b2 g2=>?_
     exact rest _ _ ⟨rfl,b2.same sA hlp,_,_,_,_,g2,p1,p2,oU p3 (pw _)⟩
    ·clean_wf
     refine kN glp (k:=4) (j:=4) rfl fun A2 b2 g2=>?_
     exact rest _ _ ⟨rfl,b2.same sA hlp,_,_,_,_,g2,p1,p2,oU p3 (pw _)⟩
  rintro σ' B ⟨rfl,sB,n',a,b,c,gB,a0,b0,c0'⟩
  have slB:=bb.of (K:=K) gB
  clean_wf
  intro p B2 hp sB2 g2
  exact fin n' a b c B sB gB a0 b0 c0' p B2 hp sB2 g2
def jb (K:PySem.W.Frag):Sp:=fun vs H Q _=>∃ (hand:Int) (a:Addr) (cell:Int),vs=[.int hand,.ref a,.int cell]/\∃ evs es,bb K H a evs/\Paired (hJ H) evs es/\(∀ e∈es,mK e)/\0<=hand/\hand < 63/\0<=cell/\∀ H' v e',aE H H'->hJ H' v e'->mK e'->Q v H'
theorem bR:aW ["_law_hand","_law_events","_law_cell","_law_number","_law_counts_here","_law_event","_law_caller","_law_kind"] ["_law_hand","_law_events","_law_cell"] (aF gK):=⟨rfl,rfl,rfl,by decide +kernel,rfl,by decide +kernel,by decide +kernel⟩
theorem ox {f :Addr} {fd :FuncData} (F:cM K "_law_new_call" "_law_new_call" gK f fd):aT P w K mg base cy 1 f fd ["_law_hand","_law_events","_law_cell"] (jb K):=by
 refine F.ok bR (fun vs H Q E h=>?_) (fun cdv A outer s H vs Q E hr h=>?_)
 ·obtain ⟨hand,a,cell,rfl,_⟩:=h
  rfl
 obtain ⟨hand,a,cell,rfl,h⟩:=h
 have hu64:=hr.units
 have hu0:=hr.units0
 have hu:=bS hr
 refine ⟨_,(af (aC (i:=3) bR.nd rfl (Or.inl rfl) aa)
   (af (aC (i:=4) bR.nd rfl (Or.inl rfl) fi)
   (af (cA PassesOwn.never rfl (bz (K:=K) rfl (pv 1)) (aB (i:=5) bR.nd rfl (Or.inl rfl))
   (af (a8 (aA bw (aw (ao (K:=K) rfl) (pv 5) aa (fun _ _=>rfl)) aP (ax _)) (af (aC (i:=3) bR.nd rfl (Or.inl rfl) (aw (ao (K:=K) rfl) (pv 5) aa (fun _ _=>rfl)))
   (ai (aC (i:=4) bR.nd rfl (Or.inl rfl) fi))) aJ)
   (ai (a8 (aA bw (aw (ao (K:=K) rfl) (pv 5) aa (fun _ _=>rfl)) aP (ax _)) (ai (nG hu (pv 4) (aw (ao (K:=K) rfl) (aw (ao (K:=K) rfl) (pv 5) aa (fun _ _=>rfl)) aa (fun _ _=>rfl)) (aw (ao (K:=K) rfl) (aw (ao (K:=K) rfl) (pv 5) aa (fun _ _=>rfl)) aa (fun _ _=>rfl)) rfl)) aJ))))
   (af (aC (i:=6) bR.nd rfl (Or.inl rfl) (aw (aM (K:=K) rfl) (bX (ae (pv 0) (ae (aq br (pv 2) aa) aj))) (aq br (aq bM (pv 2) aa) aa) (fun _ _=>rfl)))
   (af (aC (i:=7) bR.nd rfl (Or.inl rfl) (aw (aM (K:=K) rfl) (bX (ae aP (ae aP (ae aP (ae aP aj))))) (aq br (aq bM (pv 2) aa) aa) (fun _ _=>rfl)))
   (ai (aK (cc (ae aP (ae (cc (ae (pv 3) (ae (pv 6) (ae (aq bu (ij hu (pv 4) (pv 6) aa ⟨rfl,rfl,rfl,rfl⟩) aa) aj)))) (ae (pv 7) (ae (pv 2) (ae (cc aj) (ae aP aj)))))))))))))),?_⟩
 obtain ⟨evs,es,ha,he,we,h0,h1,c0,kk⟩:=h
 clean_wf
 intro d H1 hd s1 g1
 have ha1:=s1.seq ha
 clean_wf
 refine bZ (K:=K) (a:=a) (xs:=evs) (fun i σ A=>∃ n d v5 m,σ=[some (.int hand),some (.ref a),some (.int cell),some (.int n),some (.ref d),v5,none,none]/\aE H A/\H d=none/\A d=some (.dK (dI m))/\qo m) ⟨0,d,none,[],rfl,s1,hd,g1,qo.nil⟩ (fun i σ A _ z=>by obtain ⟨_,_,_,_,_,z,_⟩:=z; exact z.seq ha) ?_ ?_
 ·rintro i x σ A hxi ⟨n,d,v5,m,rfl,sA,hd,gd,cau⟩
  obtain ⟨e,hei,hea⟩:=bH he hxi
  have hea:=hea.up (.same sA)
  have wei:=we e (List.mem_of_getElem? hei)
  cases e with
  | L q t =>
   obtain ⟨te,rfl,gt,_⟩:=hea
   have ste:=aZ.of (K:=K) gt
   clean_wf
   refine cK ?_
   clean_wf
   rw [decide_eq_true (rfl:("list":Str)="list")]
   clean_wf
   intro d2 A2 hd2 t2 gd2
   have ste2:=aZ.of (K:=K) (t2 _ _ gt)
   clean_wf
   rw [DG]
   clean_wf
   exact ⟨_,d2,_,[],rfl,sA.trans t2,sA.free hd2,gd2,qo.nil⟩
  | T q y =>
   obtain ⟨te,nv,cv,rfl,gt,⟨nt,rfl,gn⟩,_⟩:=hea
   have ste:=aZ.of (K:=K) gt
   have stn:=aZ.of (K:=K) gn
   have nd:=cau.ck.nd
   have lm:=cau.ck.len
   have wq:=wei.1
   clean_wf
   refine cK ?_
   clean_wf
   rw [vx]
   clean_wf
   rw [decide_eq_true (rfl:("take":Str)="take")]
   clean_wf
   intro A2 b2 g2
   exact ⟨_,d,_,_,rfl,b2.same sA hd,hd,g2,cau.put wq.c.1 wq.c.2 wq.k⟩
  | O q =>
   obtain ⟨te,rfl,gt⟩:=hea
   have ste:=aZ.of (K:=K) gt
   clean_wf
   refine cK ?_
   clean_wf
   rw [vH]
   clean_wf
   rw [ur]
   clean_wf
   exact ⟨_,d,_,m,rfl,sA,hd,gd,cau⟩
 rintro σ A ⟨n,d,v5,m,rfl,sA,hd,gd,cau⟩
 have l2:=lit (c:=cell / 63) (m:=2) (by decide)
 have l63:=lit (c:=cell) (m:=63) (by decide)
 obtain ⟨w,hw,rw0⟩:∃ w:Int,jG [V.int hand,V.int (cell % 63)] (cell / 63 % 2)=some (.int w)/\0<=w/\w < 63:=by
  have a1:=l2.1
  have a2:=l2.2
  generalize cell / 63 % 2=j at a1 a2 ⊢
  rcases (by omega:j=0∨j=1) with rfl | rfl
  ·exact ⟨_,rfl,h0,h1⟩
  ·exact ⟨_,rfl,l63⟩
 have l4:=lit (c:=cell / 126) (m:=4) (by decide)
 obtain ⟨kd,hkd,lkd⟩:∃ kd,jG [V.str "one",V.str "own",V.str "heard",V.str "one"] (cell / 126 % 4)=some (.str kd)/\(PyData.str kd).canLay0=true:=by
  have a1:=l4.1
  have a2:=l4.2
  generalize cell / 126 % 4=j at a1 a2 ⊢
  rcases (by omega:j=0∨j=1∨j=2∨j=3) with rfl | rfl | rfl | rfl
  ·exact ⟨"one",rfl,by decide +kernel⟩
  ·exact ⟨"own",rfl,by decide +kernel⟩
  ·exact ⟨"heard",rfl,by decide +kernel⟩
  ·exact ⟨"one",rfl,by decide +kernel⟩
 have cw:=cau.ck.ct w
 clean_wf
 intro z1 A1 hz1 t1 gz1
 have sz1:=bb.of (K:=K) gz1
 clean_wf
 intro z2 A2 hz2 t2 gz2
 have sz2:=bb.of (K:=K) gz2
 have gd2:=(t1.trans t2) _ _ gd
 clean_wf
 intro z3 A3 hz3 t3 gz3
 clean_wf
 intro z4 A4 hz4 t4 gz4
 clean_wf
 intro z5 A5 hz5 t5 gz5
 have wz:Wf ⟨n,w,ct m w + 1,kd,cell,[]⟩:=⟨fun _=>rfl,(fun _ z=>nomatch z),Ck.nil,rw0,by show 1<=ct m w + 1; omega,lkd⟩
 exact kk A5 _ (.T ⟨n,w,ct m w + 1,kd,cell,[]⟩ "ready") (sA.trans (t1.trans (t2.trans (t3.trans (t4.trans t5))))) (hJ.mkT gz5 ⟨z3,rfl,(t4.trans t5) _ _ gz3⟩ ⟨z4,[],rfl,t5 _ _ gz4,.nil⟩ wz) ⟨wz,by decide +kernel⟩
end
end K81
namespace K81
open PySem L2
abbrev jv:Stmt:=i7 30
section
variable {P:Program} {w:World} {K:PySem.W.Frag} {mg:Str->Option Value} {base:Heap}
theorem Aw (xs:List V) (k:Nat):ja xs none (some ((k:Int) + 1))=xs.take (k + 1):=xK xs (k + 1)
theorem zR {α:Type} {l:List α} {k:Nat} {x:α} (h:x∈l.eraseIdx k):x∈l:=List.mem_of_mem_eraseIdx h
theorem rq {α β:Type} {R:α->β->Prop}:∀ {xs:List α} {ys:List β} (k:Nat),Paired R xs ys->Paired R (xs.eraseIdx k) (ys.eraseIdx k)
 | _,_,_,.nil=>by rw [List.eraseIdx_nil,List.eraseIdx_nil]; exact .nil
 | _,_,0,.cons _ t=>t
 | _,_,k + 1,.cons h t=>.cons h (rq k t)
theorem rH {α β:Type} {R:α->β->Prop} {xs:List α} {ys:List β} {x:α} {y:β} (k:Nat) (h:Paired R xs ys) (r:R x y):Paired R (xs.take k ++ [x] ++ xs.drop k) (ys.take k ++ [y] ++ ys.drop k):=bE (bE (eZ k h) (.cons r .nil)) (oT k h)
theorem vV {α β:Type} {R:α->β->Prop} {x:α} {y:β} (r:R x y):∀ {xs:List α} {ys:List β} (k:Nat),Paired R xs ys->Paired R (xs.set k x) (ys.set k y)
 | _,_,_,.nil=>.nil
 | _,_,0,.cons _ t=>.cons r t
 | _,_,k + 1,.cons h t=>.cons h (vV r k t)
theorem BC {H:Hp} {Q:VK} {a b:Addr} {xs:List V} {ds:List PyData} (ha:bb K H a xs) (hx:mE K H xs ds) (hl:PyData.canLayAll0 ds=true) (hb:bb K H b []) (q:Q (.bl xs.isEmpty) H):Df K (.ref a) (.ref b) H Q:=by
 refine ⟨.list ds,.list [],.l ha hx,.l hb .nil,qk hl,rfl,by have:(PyData.list []).depth=1:=rfl; omega,?_⟩
 have e:(PyData.list ds).eqv (.list [])=xs.isEmpty:=by
  have:=hx.len
  cases ds with
  | nil=>rw [List.length_eq_zero_iff.mp this]; rfl
  | cons d ds =>
   cases xs with
   | nil=>simp at this
   | cons x xs=>rfl
 rw [e]
 exact q
theorem Fx {n j:Nat} (h:j < n):yA n (j:Int)=some j:=by
 unfold yA
 rw [if_pos (by omega),if_pos (by omega),Int.toNat_natCast]
def lF (K:PySem.W.Frag):Sp:=fun vs H Q _=>∃ (a:Addr) (cell:Int),vs=[.ref a,.int cell]/\∃ ls ts n,sH H a ls ts/\(∀ t∈ts,t.2.length<=n)/\n<=50/\0<=cell/\∀ H' ts',(∀ b o,b∉ls->H b=some o->H' b=some o)->sH H' a ls ts'->(∀ t∈ts',t.2.length<=n + 1)->Q .non H'
theorem cW:aW ["_law_told_here","_law_cell","_law_hand","_law_events","_law_at","_law_way","_law_others"] ["_law_told_here","_law_cell"] (aF jv):=⟨rfl,rfl,rfl,by decide +kernel,rfl,by decide +kernel,by decide +kernel⟩
theorem sI {f kD jX:Addr} {fd jR ji:FuncData} (F:cM K "_law_spoil" "_law_spoil" jv f fd)
  (rJ:aT P w K mg base cy 2 kD jR ["_law_hand","_law_event","_law_cell"] (jV K)) (qH:dP K mg "_law_changed" kD jR ["_law_hand","_law_event","_law_cell"])
  (pK:aT P w K mg base cy 2 jX ji ["_law_hand","_law_events","_law_cell"] (jb K)) (pW:dP K mg "_law_new_call" jX ji ["_law_hand","_law_events","_law_cell"]) (dE:mg "len"=none) (dR:mg "range"=none):aT P w K mg base cy 3 f fd ["_law_told_here","_law_cell"] (lF K):=by
 refine F.ok cW (fun vs H Q E h=>?_) (fun cdv A outer s H vs Q E hr h=>?_)
 ·obtain ⟨a,cell,rfl,_⟩:=h
  rfl
 obtain ⟨a,cell,rfl,h⟩:=h
 have hu64:=hr.units
 have hu0:=hr.units0
 have hu:=bS hr
 refine ⟨_,(af (iW (aw (aM (K:=K) rfl) (pv 0) (aq br (pv 1) aa) (fun _ _=>rfl)) (cY (K:=K) (n:=2) rfl rfl (aS (aB (i:=2) cW.nd rfl (Or.inl rfl)) (aS (aB (i:=3) cW.nd rfl (Or.inr rfl)) cX))))
   (af (a8 (aA (uz (K:=K) rfl hu64) (pv 3) (bX aj) (ax _)) (ai Dr) aJ)
   (af (aC (i:=4) cW.nd rfl (Or.inl rfl) (aq br (aq bM (pv 1) aa) (bj (bQ (K:=K) rfl) (by rfl) dE PySem.boot_len (ae (pv 3) aj))))
   (af (aC (i:=5) cW.nd rfl (Or.inl rfl) (aq br (aq bM (pv 1) aa) aa))
   (af (qu (i:=6) ["_law_events","_law_k"] [some 3,none] cW.nd rfl (Or.inl rfl) rfl rfl (by kernel_rfl) (eE rfl dR (ae (bj (bQ (K:=K) rfl) (by rfl) dE PySem.boot_len (ae (pv 3) aj)) aj)) (fun _ _ _ _ _ nd=>aB (i:=1) nd rfl (Or.inl rfl)) (fun _ _ _ _ _=>(iO (aA i6 (aw (ao (K:=K) rfl) (aw (aM (K:=K) rfl) (pv 0) (pv 1) (fun _ _=>rfl)) aa (fun _ _=>rfl)) aP (ax _)))) (fun _ _ _ _ _=>(pv 1)))
   (af (a8 (PW.pt (eX (aA xm (pv 5) aa (ax _)) (fR (aA (ia (K:=K) rfl hu64) (pv 6) (bX aj) (ax _))))) (ai (aC (i:=4) cW.nd rfl (Or.inl rfl) (aw (aM (K:=K) rfl) (pv 6) (aq br (aq bM (pv 1) aa) (bj (bQ (K:=K) rfl) (by rfl) dE PySem.boot_len (ae (pv 6) aj))) (fun _ _=>rfl)))) aJ)
   (ai (a8 (aA bw (pv 5) aa (ax _)) (ai (bU (vd (K:=K) rfl (eG PySem.F.plainAttrs_list PySem.F.slot_list_pop PySem.F.type_list_pop si (pv 3) (ae (pv 4) aj))))) (ai (a8 (aA bw (pv 5) aa (ax _)) (ai (bU (eG PySem.F.plainAttrs_list PySem.F.slot_list_insert PySem.F.type_list_insert oA (pv 3) (ae (pv 4) (ae (aw (aM (K:=K) rfl) (pv 3) (pv 4) (fun _ _=>rfl)) aj))))) (ai (a8 (aA bw (pv 5) aa (ax _)) (ai (bU (eG PySem.F.plainAttrs_list PySem.F.slot_list_insert PySem.F.type_list_insert oA (pv 3) (ae (aq bu (pv 4) aa) (ae (vd (K:=K) rfl (eG PySem.F.plainAttrs_list PySem.F.slot_list_pop PySem.F.type_list_pop si (pv 3) (ae (pv 4) aj))) aj))))) (ai (a8 (aA bw (pv 5) aa (ax _)) (ai (bU (cB (K:=K) rfl (eG PySem.F.plainAttrs_list PySem.F.slot_list_append PySem.F.type_list_append cu (pv 3) (ae (vd (K:=K) rfl (eG PySem.F.plainAttrs_list PySem.F.slot_list_pop PySem.F.type_list_pop si (pv 3) (ae (pv 4) aj))) aj))))) (ai (a8 (aA bw (pv 5) aa (ax _)) (ai (bU (cB (K:=K) rfl (eG PySem.F.plainAttrs_list PySem.F.slot_list_append PySem.F.type_list_append cu (aw (ao (K:=K) rfl) (aw (aM (K:=K) rfl) (pv 0) (aq br (aq bu (pv 1) aa) aa) (fun _ _=>rfl)) aa (fun _ _=>rfl)) (ae (aw (aM (K:=K) rfl) (pv 3) (pv 4) (fun _ _=>rfl)) aj))))) (ai (a8 (aA y7 (pv 5) aa (ax _)) (ai (bU (eG PySem.F.plainAttrs_list PySem.F.slot_list_insert PySem.F.type_list_insert oA (pv 3) (ae (aq bu (pv 4) aa) (ae (bI pK pW hr (ae (pv 2) (ae (cq (jf (K:=K) rfl) (pv 3) eS (bG (aq bu (pv 4) aa))) (ae (aq bM (pv 1) aa) aj)))) aj))))) (ai (iW (bI rJ qH hr (ae (pv 2) (ae (aw (aM (K:=K) rfl) (pv 3) (pv 4) (fun _ _=>rfl)) (ae (aq bM (pv 1) aa) aj)))) (uK (pv 3) (pv 4) ny))))))))))))))))))))),?_⟩
 obtain ⟨ls,ts,n,T,le,n50,c0,kk⟩:=h
 have l3:=lit (c:=cell) (m:=3) (by decide)
 obtain ⟨i,ei⟩:∃ i:Nat,cell % 3=(i:Int):=⟨(cell % 3).toNat,by omega⟩
 have i3:i < 3:=by omega
 obtain ⟨p,l,t,evs,ps,hl,ht,ga,lps,hp,gp,gl,pe⟩:=T.at i3
 have sa:=bb.of (K:=K) ga
 have iX:=aZ.of (K:=K) gp
 have sl:=bb.of (K:=K) gl
 have ap:jG ps (cell % 3)=some (.ref p):=by rw [ei]; exact cR hp
 have tm:=List.mem_of_getElem? ht
 have wt:=T.wf t tm
 have rg:=T.rg t tm
 have lt:=le t tm
 have lev:=Paired.length pe
 have lm:l∈ls:=List.mem_of_getElem? hl
 have il:=(List.getElem?_eq_some_iff.mp ht).1
 -- what is written at the end
 have fin:∀ (A A':Hp) (evs':List V) (es':List Ev),aE H A->mL l A A'->A' l=some (.lst evs')->Paired (hJ A') evs' es'->(∀ e∈es',mK e)->es'.length<=n + 1->Q .non A':=fun A A' evs' es' sA b g pe' we' le'=>by
  refine kk A' (ts.set i (t.1,es')) (fun b' o nb e=>b.at (fun z=>nb (by rw [z]; exact lm)) (sA _ _ e)) ((T.same sA).put hl ht b (sA _ _ gl) g pe' we') fun u hu=>?_
  rcases List.mem_or_eq_of_mem_set hu with z | z
  ·have:=le u z; omega
  ·rw [z]; exact le'
 refine bD (fun σ' A=>σ'=[some (.ref a),some (.int cell),some (.int t.1),some (.ref l),none,none,none]/\H=A) ?_ fun N rest=>?_
 rotate_left
 ·clean_wf
  exact rest _ _ ⟨rfl,rfl⟩
 rintro σ' _ ⟨rfl,rfl⟩
 have ed:∀ {A:Hp},aE H A->mE K A evs (t.2.map xX):=fun s=>vN (vb (Paired.mapP pe fun _ _ y=>y.up (.same s)))
 have elay:PyData.canLayAll0 (t.2.map xX)=true:=fq fun d hd=>by
  obtain ⟨e,he,rfl⟩:=List.mem_map.mp hd
  exact nJ (wt e he)
 refine bD (fun σ' A0=>σ'=[some (.ref a),some (.int cell),some (.int t.1),some (.ref l),none,none,none]/\aE H A0/\evs≠[]) ?_ fun N rest=>?_
 rotate_left
 ·clean_wf
  intro z0 A0 hz0 t0 gz0
  refine BC (t0.seq sl) (ed t0) elay (bb.of gz0) ?_
  refine ⟨_,rfl,?_⟩
  by_cases ne:evs=[]
  ·rw [ne,show ([]:List V).isEmpty=true from rfl,if_pos rfl]
   clean_wf
   exact kk A0 ts (fun b o _ e=>t0 _ _ e) (T.same t0) (fun u hu=>by have:=le u hu; omega)
  ·rw [show evs.isEmpty=false by cases evs with | nil=>exact absurd rfl ne | cons _ _=>rfl,if_neg Bool.false_ne_true]
   clean_wf
   exact rest _ _ ⟨rfl,t0,ne⟩
 rintro σ' A0 ⟨rfl,t0,ne⟩
 have lp:0 < evs.length:=List.length_pos_iff.mpr ne
 have sl0:=t0.seq sl
 have gl0:=t0 _ _ gl
 have pe0:Paired (hJ A0) evs t.2:=Paired.mapP pe fun _ _ y=>y.up (.same t0)
 have q3:=lit (c:=cell / 3) (m:=((evs.length:Nat):Int)) (by omega)
 have q12:=lit (c:=cell / 100) (m:=12) (by decide)
 refine bD (fun σ' A=>σ'=[some (.ref a),some (.int cell),some (.int t.1),some (.ref l),some (.int (cell / 3 % ((evs.length:Nat):Int))),none,none]/\A0=A) ?_ fun N rest=>?_
 rotate_left
 ·clean_wf
  exact rest _ _ ⟨rfl,rfl⟩
 rintro σ' _ ⟨rfl,rfl⟩
 refine bD (fun σ' A=>σ'=[some (.ref a),some (.int cell),some (.int t.1),some (.ref l),some (.int (cell / 3 % ((evs.length:Nat):Int))),some (.int (cell / 100 % 12)),none]/\A0=A) ?_ fun N rest=>?_
 rotate_left
 ·clean_wf
  exact rest _ _ ⟨rfl,rfl⟩
 rintro σ' _ ⟨rfl,rfl⟩
 generalize cell / 100 % 12=way at *
 obtain ⟨j0,ej0⟩:∃ j:Nat,cell / 3 % ((evs.length:Nat):Int)=(j:Int):=⟨(cell / 3 % ((evs.length:Nat):Int)).toNat,by omega⟩
 have hj0:j0 < evs.length:=by omega
 refine bD (fun σ' A=>∃ (E:Addr) (ks:List Int),σ'=[some (.ref a),some (.int cell),some (.int t.1),some (.ref l),some (.int j0),some (.int way),some (.ref E)]/\aE A0 A/\A E=some (.lst (ks.map V.int))/\(∀ k∈ks,0<=k/\k < ((evs.length:Nat):Int))/\ks.length<=100) ?_ fun N rest=>?_
 rotate_left
 ·rw [ej0]
  clean_wf
  refine ⟨_,rfl,by omega,by omega,fun E hE=>?_⟩
  refine mG (fun i σ A=>∃ (v:Option V) (ks:List Int),σ=[some (.ref l),v]/\aE A0 A/\A E=some (.lst (ks.map V.int))/\(∀ k∈ks,0<=k/\k < ((evs.length:Nat):Int))/\ks.length<=i) ⟨none,[],rfl,aN hE,au,(fun _ z=>nomatch z),Nat.le_refl _⟩ ?_ ?_
  ·rintro q σ A hq ⟨v,ks,rfl,sA,gE,rk,lk⟩
   have hq':q < evs.length:=by simpa using hq
   obtain ⟨e,he⟩:∃ e,t.2[q]?=some e:=⟨_,List.getElem?_eq_getElem (by omega)⟩
   obtain ⟨ve,hve,hea⟩:=gZ pe0 he
   have hea:=hea.up (.same sA)
   have slA:=sA.seq sl0
   have av:jG evs (0 + (q:Int))=some ve:=by rw [Int.zero_add]; exact cR hve
   have add:∃ (v':Option V) (ks':List Int),[some (.ref l),some (V.int (0 + (q:Int)))]=[some (.ref l),v']/\aE A0 (upd A E (.lst (ks.map V.int ++ [.int (0 + (q:Int))])))/\upd A E (.lst (ks.map V.int ++ [.int (0 + (q:Int))])) E=some (.lst (ks'.map V.int))/\(∀ k∈ks',0<=k/\k < ((evs.length:Nat):Int))/\ks'.length<=q + 1:=by
    refine ⟨_,ks ++ [0 + (q:Int)],rfl,fun b o z=>?_,?_,fun k hk=>?_,?_⟩
    ·rw [aG (aI z hE)]
     exact sA b o z
    ·rw [au,List.map_append]; rfl
    ·rcases List.mem_append.mp hk with z | z
     ·exact rk k z
     ·rw [List.mem_singleton.mp z]; omega
    ·rw [List.length_append]; exact Nat.succ_le_succ lk
   cases e with
   | L m u =>
    obtain ⟨te,rfl,gt,_⟩:=hea
    have ste:=aZ.of (K:=K) gt
    clean_wf
    rw [DG]
    clean_wf
    exact ⟨_,gE,aD (by rw [List.length_map]; omega),add⟩
   | T m u =>
    obtain ⟨te,nv,cv,rfl,gt,_⟩:=hea
    have ste:=aZ.of (K:=K) gt
    clean_wf
    rw [decide_eq_true (rfl:("take":Str)="take")]
    clean_wf
    exact ⟨_,ks,rfl,sA,gE,rk,by omega⟩
   | O m =>
    obtain ⟨te,rfl,gt⟩:=hea
    have ste:=aZ.of (K:=K) gt
    clean_wf
    rw [ur]
    clean_wf
    exact ⟨_,gE,aD (by rw [List.length_map]; omega),add⟩
  rintro σ A ⟨v,ks,rfl,sA,gE,rk,lk⟩
  have lk:ks.length<=evs.length:=by simpa using lk
  exact rest _ _ ⟨E,ks,rfl,sA,gE,rk,by omega⟩
 rintro σ' A ⟨E,ks,rfl,sA,gE,rk,lk⟩
 refine bD (fun σ' A'=>∃ j:Nat,σ'=[some (.ref a),some (.int cell),some (.int t.1),some (.ref l),some (.int j),some (.int way),some (.ref E)]/\aE A A'/\j < evs.length) ?_ fun N rest=>?_
 rotate_left
 ·have sE:=bb.of (K:=K) gE
  clean_wf
  refine dN (fun _=>?_) fun _=>?_
  ·clean_wf
   intro z1 A1 hz1 t1 gz1
   refine kJ (t1.seq sE) (vN (qA ks)) (ra ks) (bb.of gz1) ?_
   refine ⟨_,rfl,?_⟩
   by_cases nk:ks=[]
   ·rw [nk]
    clean_wf
    exact rest _ _ ⟨j0,rfl,t1,hj0⟩
   ·have lks:0 < ks.length:=List.length_pos_iff.mpr nk
    rw [show (!(ks.map V.int).isEmpty)=true by cases ks with | nil=>exact absurd rfl nk | cons _ _=>rfl]
    have sE1:=t1.seq sE
    have qq:=lit (c:=cell / 3) (m:=(((ks.map V.int).length:Nat):Int)) (by rw [List.length_map]; omega)
    obtain ⟨k,hk,ak⟩:∃ k,k∈ks/\jG (ks.map V.int) (cell / 3 % (((ks.map V.int).length:Nat):Int))=some (.int k):=by
     have a1:=qq.1
     have a2:=qq.2
     generalize cell / 3 % (((ks.map V.int).length:Nat):Int)=w at a1 a2 ⊢
     rw [List.length_map] at a2
     exact ⟨ks[w.toNat]'(by omega),List.getElem_mem _,uS a1 (by rw [List.getElem?_map,List.getElem?_eq_getElem (by omega)]; rfl)⟩
    have rkk:=rk k hk
    rw [if_pos rfl]
    clean_wf
    refine rest _ _ ⟨k.toNat,?_,t1,by omega⟩
    rw [Int.toNat_of_nonneg rkk.1]
    rfl
  ·clean_wf
   exact rest _ _ ⟨j0,rfl,.refl _,hj0⟩
 rintro σ' A' ⟨j,rfl,sA',hj⟩
 have sB:aE H A':=t0.trans (sA.trans sA')
 clear rk lk gE
 obtain ⟨e,hej⟩:∃ e,t.2[j]?=some e:=⟨_,List.getElem?_eq_getElem (by omega)⟩
 have wej:=wt e (List.mem_of_getElem? hej)
 obtain ⟨ve,hve,hea⟩:=gZ pe hej
 have glB:=sB _ _ gl
 have slB:=bb.of (K:=K) glB
 have heB:=hea.up (.same sB)
 have peB:Paired (hJ A') evs t.2:=Paired.mapP pe fun _ _ y=>y.up (.same sB)
 have av:jG evs (j:Int)=some ve:=cR hve
 have ix:yA evs.length (j:Int)=some j:=Fx hj
 have sq:=(va ix).1
 have upS:∀ (B:Hp) (vs vs':List V),B l=some (.lst vs)->eW B (upd B l (.lst vs')):=fun B vs vs' g=>eW.but .upd g (by intro _ z; cases z)
 have ler:(t.2.eraseIdx j).length<=n:=by
  have:=List.length_eraseIdx_le (l:=t.2) (i:=j)
  omega
 have insW:∀ (es:List Ev) (e:Ev) (k:Nat),(∀ e∈es,mK e)->mK e->∀ e'∈es.take k ++ [e] ++ es.drop k,mK e':=fun es e k h he e' h'=>by
  rcases List.mem_append.mp h' with z | z
  ·rcases List.mem_append.mp z with z | z
   ·exact h e' (List.mem_of_mem_take z)
   ·rw [List.mem_singleton.mp z]; exact he
  ·exact h e' (List.mem_of_mem_drop z)
 have insL:∀ (es:List Ev) (e:Ev) (k:Nat),(es.take k ++ [e] ++ es.drop k).length=es.length + 1:=fun es e k=>by
  rw [List.length_append,List.length_append,List.length_take,List.length_drop,List.length_singleton]; omega
 have wer:∀ e∈t.2.eraseIdx j,mK e:=fun e he=>wt e (zR he)
 have per:Paired (hJ A') (evs.eraseIdx j) (t.2.eraseIdx j):=rq j peB
 have lere:=Paired.length per
 clean_wf
 refine dN (fun _=>?_) fun _=>?_
 ·clean_wf
  refine ⟨l,evs,_,j,ve,rfl,rfl,glB,by omega,by omega,sq,hve,?_⟩
  exact fin A' _ _ (t.2.eraseIdx j) sB .upd au (Paired.mapP per fun _ _ y=>y.up (upS _ _ _ glB)) wer (by omega)
 clean_wf
 refine dN (fun _=>?_) fun _=>?_
 ·clean_wf
  refine ⟨l,evs,_,ve,rfl,rfl,glB,by omega,by omega,by omega,?_⟩
  exact fin A' _ _ _ sB .upd au (rH _ (Paired.mapP peB fun _ _ y=>y.up (upS _ _ _ glB)) (heB.up (upS _ _ _ glB))) (insW _ _ _ wt wej) (by rw [insL]; omega)
 clean_wf
 refine dN (fun _=>?_) fun _=>?_
 ·clean_wf
  refine ⟨l,evs,_,j,ve,rfl,rfl,glB,by omega,by omega,sq,hve,?_⟩
  have b1:mL l A' (upd A' l (.lst (evs.eraseIdx j))):=.upd
  have g1:(upd A' l (.lst (evs.eraseIdx j))) l=some (.lst (evs.eraseIdx j)):=au
  have su1:=upS A' evs (evs.eraseIdx j) glB
  generalize upd A' l (.lst (evs.eraseIdx j))=A2 at b1 g1 su1 ⊢
  clean_wf
  refine ⟨l,_,_,ve,rfl,rfl,g1,by omega,by omega,by omega,?_⟩
  have su2:=su1.trans (upS A2 _ ((evs.eraseIdx j).take (min (((j:Int) + 1)).toNat (evs.eraseIdx j).length) ++ [ve] ++ (evs.eraseIdx j).drop (min (((j:Int) + 1)).toNat (evs.eraseIdx j).length)) g1)
  exact fin A' _ _ _ sB (fun b nb=>(aG nb).trans (b1 b nb)) au (rH _ (Paired.mapP per fun _ _ y=>y.up su2) (heB.up su2)) (insW _ _ _ wer wej) (by rw [insL]; omega)
 clean_wf
 refine dN (fun _=>?_) fun _=>?_
 ·clean_wf
  refine ⟨l,evs,_,j,ve,rfl,rfl,glB,by omega,by omega,sq,hve,?_⟩
  have b1:mL l A' (upd A' l (.lst (evs.eraseIdx j))):=.upd
  have g1:(upd A' l (.lst (evs.eraseIdx j))) l=some (.lst (evs.eraseIdx j)):=au
  have su1:=upS A' evs (evs.eraseIdx j) glB
  generalize upd A' l (.lst (evs.eraseIdx j))=A2 at b1 g1 su1 ⊢
  have lsz:(evs.eraseIdx j).length < sizeLine:=aD (by omega)
  clean_wf
  intro A3 b3 g3
  have su2:=su1.trans (eW.but b3 g1 (by intro _ z; cases z))
  refine fin A' A3 _ (t.2.eraseIdx j ++ [e]) sB (fun b nb=>(b3 b nb).trans (b1 b nb)) g3 (bE (Paired.mapP per fun _ _ y=>y.up su2) (.cons (heB.up su2) .nil)) (fun e' h'=>?_) (by rw [List.length_append]; show _ + 1<=n + 1; omega)
  rcases List.mem_append.mp h' with z | z
  ·exact wer e' z
  ·rw [List.mem_singleton.mp z]; exact wej
 have l3':=lit (c:=cell + 1) (m:=3) (by decide)
 obtain ⟨i2,ei2⟩:∃ i:Nat,(cell + 1) % 3=(i:Int):=⟨((cell + 1) % 3).toNat,by omega⟩
 have TB:=T.same sB
 obtain ⟨p2,l2,u2,evs2,ps2,hl2,hu2,ga2,lps2,hp2,gp2,gl2,pe2⟩:=TB.at (i:=i2) (by omega)
 have sa2:=bb.of (K:=K) ga2
 have stp2:=aZ.of (K:=K) gp2
 have ap2:jG ps2 ((cell + 1) % 3)=some (.ref p2):=by rw [ei2]; exact cR hp2
 have tm2:=List.mem_of_getElem? hu2
 have lev2:=Paired.length pe2
 have le2:=le u2 tm2
 clean_wf
 refine dN (fun _=>?_) fun _=>?_
 ·have lsz:evs2.length < sizeLine:=aD (by omega)
  clean_wf
  intro A3 b3 g3
  have su2:eW A' A3:=eW.but b3 gl2 (by intro _ z; cases z)
  have lm2:l2∈ls:=List.mem_of_getElem? hl2
  refine kk A3 (ts.set i2 (u2.1,u2.2 ++ [e])) (fun b' o nb e=>b3.at (fun z=>nb (by rw [z]; exact lm2)) (sB _ _ e)) (TB.put hl2 hu2 b3 gl2 g3 (bE (Paired.mapP pe2 fun _ _ y=>y.up su2) (.cons (heB.up su2) .nil)) fun e' h'=>?_) fun u hu=>?_
  ·rcases List.mem_append.mp h' with z | z
   ·exact TB.wf u2 tm2 e' z
   ·rw [List.mem_singleton.mp z]; exact wej
  ·rcases List.mem_or_eq_of_mem_set hu with z | z
   ·have:=le u z; omega
   ·rw [z]; show (u2.2 ++ [e]).length<=n + 1; rw [List.length_append]; show _ + 1<=n + 1; omega
 have c12:0<=cell / 1200:=Int.ediv_nonneg c0 (by decide)
 clean_wf
 refine dN (fun _=>?_) fun _=>?_
 ·clean_wf
  intro q B1 hq t1 g1
  rw [Aw] at g1
  clean_wf
  refine ⟨t.1,q,_,rfl,evs.take (j + 1),t.2.take (j + 1),bb.of g1,eZ _ (Paired.mapP peB fun _ _ y=>y.up (.same t1)),(fun e he=>wt e (List.mem_of_mem_take he)),rg.1,rg.2,c12,fun B2 v e' t2 he' we'=>?_⟩
  have t12:=t1.trans t2
  have gl3:=t12 _ _ glB
  clean_wf
  refine ⟨l,evs,_,v,rfl,rfl,gl3,by omega,by omega,by omega,?_⟩
  exact fin B2 _ _ _ (sB.trans t12) .upd au (rH _ (Paired.mapP peB fun _ _ y=>y.up ((eW.same t12).trans (upS _ _ _ gl3))) (he'.up (upS _ _ _ gl3))) (insW _ _ _ wt we') (by rw [insL]; omega)
 clean_wf
 refine ⟨t.1,ve,_,rfl,e,heB,wej,rg.1,rg.2,c12,fun B2 v e' t2 he' we'=>?_⟩
 have gl3:=t2 _ _ glB
 clean_wf
 refine kN gl3 ix fun B3 b3 g3=>?_
 have su3:eW B2 B3:=eW.but b3 gl3 (by intro _ z; cases z)
 refine fin B2 B3 _ (t.2.set j e') (sB.trans t2) b3 g3 (vV (he'.up su3) j (Paired.mapP peB fun _ _ y=>y.up ((eW.same t2).trans su3))) (fun e0 h0'=>?_) (by rw [List.length_set]; omega)
 rcases List.mem_or_eq_of_mem_set h0' with z | z
 ·exact wt e0 z
 ·rw [z]; exact we'
end
end K81
namespace K81
open PySem L2
abbrev kC:Stmt:=i7 26
section
variable {P:Program} {w:World} {K:PySem.W.Frag} {mg:Str->Option Value} {base:Heap}
theorem Dv {x y:Int} (x0:0<=x) (x1:x < 8) (y0:0<=y) (y1:y < 8):0<=Builtin.bitAnd x y/\Builtin.bitAnd x y < 8:=by
 rw [qx x0 y0]
 have:x.toNat &&& y.toNat<=y.toNat:=Nat.and_le_right
 omega
theorem GK {x y:Int} (x0:0 < x) (x1:x < 8) (y0:0<=y) (y1:y < 8):0 < Builtin.bitOr x y/\Builtin.bitOr x y < 8:=by
 refine G6 (P:=fun x=>0 < x->x < 8->0 < Builtin.bitOr x y/\Builtin.bitOr x y < 8) (fun i=>?_) (by omega) (by omega) x0 x1
 refine G6 (P:=fun y=>0<=y->y < 8->0 < (i.val:Int)->(i.val:Int) < 8->0 < Builtin.bitOr (i.val:Int) y/\Builtin.bitOr (i.val:Int) y < 8) (fun j=>?_) y0 (by omega) y0 y1
 revert i j
 decide +kernel
theorem Dd {x y:Int} (x0:0<=x) (x1:x < 8) (y0:0<=y) (y1:y < 8):0<=Builtin.bitAnd x (Builtin.bitNot y)/\Builtin.bitAnd x (Builtin.bitNot y) < 8:=by
 refine G6 (P:=fun x=>x < 8->0<=Builtin.bitAnd x (Builtin.bitNot y)/\Builtin.bitAnd x (Builtin.bitNot y) < 8) (fun i=>?_) x0 (by omega) x1
 refine G6 (P:=fun y=>(i.val:Int) < 8->0<=Builtin.bitAnd (i.val:Int) (Builtin.bitNot y)/\Builtin.bitAnd (i.val:Int) (Builtin.bitNot y) < 8) (fun j=>?_) y0 (by omega)
 revert i j
 decide +kernel
theorem Gy {l:List Int} (h:∀ x∈l,0<=x):0<=l.sum:=by
 induction l with
 | nil=>exact Int.le_refl _
 | cons x l ih =>
  rw [List.sum_cons]
  have:=h x List.mem_cons_self
  have:=ih fun y hy=>h y (List.mem_cons_of_mem _ hy)
  omega
def Nw (H0 A:Hp) (D:Addr) (q:Addr×Addr) (h:Int):Prop:=A q.1=some (.tup [.int h,.ref q.2])/\A q.2=some (.lst [])/\H0 q.2=none/\q.2≠D
theorem Jm {H0 A:Hp} {D:Addr} {pl:List (Addr×Addr)} {hs:List Int} (h:Paired (Nw H0 A D) pl hs) (nd:(pl.map (·.2)).Nodup) (g:A D=some (.lst (pl.map fun q=>V.ref q.1))) (h3:IT hs):sH A D (pl.map (·.2)) (hs.map fun h=>(h,[])):=by
 have ll:=Paired.length h
 have l3:=h3.ln
 have key:∀ (i:Nat) l t,(pl.map (·.2))[i]?=some l->(hs.map fun h=>((h,[]):cC))[i]?=some t->∃ q,pl[i]?=some q/\q.2=l/\t.2=[]/\Nw H0 A D q t.1:=fun i l t a b=>by
  rw [List.getElem?_map] at a b
  cases hq:pl[i]? with
  | none=>rw [hq] at a; cases a
  | some q =>
   rw [hq] at a
   obtain ⟨hh,e1,e2⟩:=bH h hq
   rw [e1] at b
   cases a
   cases b
   exact ⟨q,rfl,rfl,rfl,e2⟩
 refine ⟨by rw [List.length_map]; exact l3,by rw [List.length_map]; omega,nd,fun z=>?_,⟨pl.map (·.1),by rw [g,List.map_map]; rfl,by rw [List.length_map]; omega,fun i p l t a b c=>?_⟩,fun i l t a b=>?_,fun t ht=>?_,fun t ht=>?_⟩
 ·obtain ⟨q,hq,e⟩:=List.mem_map.mp z
  obtain ⟨i,hi⟩:=List.getElem?_of_mem hq
  obtain ⟨_,_,n⟩:=bH h hi
  exact n.2.2.2 e
 ·obtain ⟨q,hq,e1,_,n⟩:=key i l t b c
  rw [List.getElem?_map,hq] at a
  cases a
  rw [← e1]
  exact n.1
 ·obtain ⟨q,hq,e1,e2,n⟩:=key i l t a b
  rw [← e1,e2]
  exact ⟨[],n.2.1,.nil⟩
 ·obtain ⟨x,hx,rfl⟩:=List.mem_map.mp ht
  intro e he
  cases he
 ·obtain ⟨x,hx,rfl⟩:=List.mem_map.mp ht
  exact h3.rg x hx
theorem sH.put2 {H H':Hp} {a l:Addr} {ls:List Addr} {ts:List cC} {i:Nat} {t:cC} {vs':List V} {es:List Ev} (h:sH H a ls ts) (hl:ls[i]?=some l) (ht:ts[i]?=some t) (kp:∀ b o,b≠l->H b=some o->H' b=some o) (su:eW H H') (g':H' l=some (.lst vs')) (pe:Paired (hJ H') vs' es) (we:∀ e∈es,mK e):sH H' a ls (ts.set i (t.1,es)):=by
 obtain ⟨ps,p1,p2,p3⟩:=h.xs
 have il:=(List.getElem?_eq_some_iff.mp ht).1
 have na:a≠l:=fun z=>h.na (by rw [z]; exact List.mem_of_getElem? hl)
 have old:∀ (j:Nat) u,(ts.set i (t.1,es))[j]?=some u->(j=i/\u=(t.1,es))∨(j≠i/\ts[j]?=some u):=fun j u hu=>by
  by_cases e:i=j
  ·rw [← e,List.getElem?_set_self il] at hu
   exact .inl ⟨e.symm,(Option.some.inj hu).symm⟩
  ·rw [List.getElem?_set_ne e] at hu
   exact .inr ⟨fun z=>e z.symm,hu⟩
 have mem:∀ u∈ts.set i (t.1,es),u=(t.1,es)∨u∈ts:=fun u hu=>by
  obtain ⟨j,hj⟩:=List.getElem?_of_mem hu
  rcases old j u hj with z | z
  ·exact .inl z.2
  ·exact .inr (List.mem_of_getElem? z.2)
 refine ⟨by rw [List.length_set]; exact h.ln,h.ll,h.nd,h.na,⟨ps,kp _ _ na p1,p2,fun j p l' u a1 a2 a3=>?_⟩,fun j l' u a1 a2=>?_,fun u hu=>?_,fun u hu=>?_⟩
 ·rcases old j u a3 with ⟨e,z⟩ | ⟨_,z⟩
  ·rw [z]; rw [e] at a1 a2; exact su _ _ (p3 i p l' t a1 a2 ht)
  ·exact su _ _ (p3 j p l' u a1 a2 z)
 ·rcases old j u a2 with ⟨e,z⟩ | ⟨e,z⟩
  ·rw [e,hl] at a1
   cases a1
   rw [z]
   exact ⟨vs',g',pe⟩
  ·obtain ⟨evs,e1,e2⟩:=h.ev j l' u a1 z
   have ne:l'≠l:=fun w=>e ((List.getElem?_inj (by rw [h.ll]; have:=(List.getElem?_eq_some_iff.mp a1).1; rw [h.ll] at this; exact this) h.nd).mp (by rw [a1,hl,w]))
   exact ⟨evs,kp _ _ ne e1,Paired.mapP e2 fun _ _ y=>y.up su⟩
 ·rcases mem u hu with z | z
  ·rw [z]; exact we
  ·exact h.wf u z
 ·rcases mem u hu with z | z
  ·rw [z]; exact h.rg t (List.mem_of_getElem? ht)
  ·exact h.rg u z
def Lw (C G:Hp) (l:Addr) (m:Nat) (ev:List V) (es:List Ev):Prop:=(∀ b o,b≠l->C b=some o->G b=some o)/\eW C G/\G l=some (.lst ev)/\Paired (hJ G) ev es/\(∀ e∈es,mK e)/\es.length<=m
theorem Lw.add {C G G1 G2:Hp} {l:Addr} {m:Nat} {ev:List V} {es:List Ev} {v:V} {e:Ev} (h:Lw C G l m ev es) (s:aE G G1) (b:mL l G1 G2) (g:G2 l=some (.lst (ev ++ [v]))) (he:hJ G1 v e) (we:mK e):Lw C G2 l (m + 1) (ev ++ [v]) (es ++ [e]):=by
 obtain ⟨h1,h2,h3,h4,h5,h6⟩:=h
 have su:eW G1 G2:=eW.but b (s _ _ h3) (by intro _ z; cases z)
 refine ⟨fun b' o nb e=>b.at nb (s _ _ (h1 b' o nb e)),h2.trans ((eW.same s).trans su),g,bE (Paired.mapP h4 fun _ _ y=>y.up ((eW.same s).trans su)) (.cons (he.up su) .nil),fun e' h'=>?_,by rw [List.length_append]; exact Nat.succ_le_succ h6⟩
 rcases List.mem_append.mp h' with z | z
 ·exact h5 e' z
 ·rw [List.mem_singleton.mp z]; exact we
theorem Lw.same {C G G1:Hp} {l:Addr} {m:Nat} {ev:List V} {es:List Ev} (h:Lw C G l m ev es) (s:aE G G1):Lw C G1 l m ev es:=by
 obtain ⟨h1,h2,h3,h4,h5,h6⟩:=h
 exact ⟨fun b' o nb e=>s _ _ (h1 b' o nb e),h2.trans (.same s),s _ _ h3,Paired.mapP h4 fun _ _ y=>y.up (.same s),h5,h6⟩
theorem B7 {H:Hp} {Q:VK} {a b:Addr} {x:V} {xs ys:List V} {y:V} (h1:H a=some (.tup (x :: xs))) (h2:H b=some (.tup (y :: ys))) (hl:(x :: xs).length + (y :: ys).length<=1000) (h:∀ p H',H p=none->aE H H'->H' p=some (.tup (x :: xs ++ y :: ys))->Q (.ref p) H'):AX K (.ref a) (.ref b) H Q :=
 ⟨a,b,_,_,rfl,rfl,aZ.of h1,aZ.of h2,List.cons_ne_nil _ _,Nat.le_of_lt (aD hl),fun z=>absurd z (List.cons_ne_nil _ _),fun _ p hp=>h p _ hp (aN hp) au⟩
def m9 (K:PySem.W.Frag):Sp:=fun vs H Q _=>∃ (a:Addr),vs=[.ref a]/\∃ (ns:List Int),bb K H a (ns.map V.int)/\ns.length<=1000/\∀ H' l ls ts,aE H H'->H l=none->(∀ z∈ls,H z=none)->sH H' l ls ts->(∀ t∈ts,t.2.length<=21)->Q (.ref l) H'
theorem aQ:aW ["_law_script","_law_first","_law_hands_here","_law_number","_law_told_here","_law_mask","_law_on","_law_new","_law_k","_law_sets","_law_calls_here","_law_cell","_law_goes","_law_who","_law_events","_law_much","_law_call"] ["_law_script"] (aF kC):=⟨rfl,rfl,rfl,by decide +kernel,rfl,by decide +kernel,by decide +kernel⟩
theorem uZ {f dB mT nV:Addr} {fd cQ lK lP:FuncData} (F:cM K "_law_told" "_law_told" kC f fd)
  (cH:aT P w K mg base cy 2 dB cQ ["_law_script","_law_k"] (hG K)) (cF:dP K mg "_law_pick" dB cQ ["_law_script","_law_k"])
  (vf:aT P w K mg base cy 2 mT lK ["_law_cell"] (lE K)) (uy:dP K mg "_law_hands" mT lK ["_law_cell"])
  (ub:aT P w K mg base cy 2 nV lP ["_law_script","_law_hands_here","_law_mask","_law_number","_law_at"] (lO K)) (u9:dP K mg "_law_calls" nV lP ["_law_script","_law_hands_here","_law_mask","_law_number","_law_at"]) (dE:mg "len"=none) (dR:mg "range"=none) (HK:mg "sum"=none):aT P w K mg base cy 3 f fd ["_law_script"] (m9 K):=by
 refine F.ok aQ (fun vs H Q E h=>?_) (fun cdv A outer s H vs Q E hr h=>?_)
 ·obtain ⟨a,rfl,_⟩:=h
  rfl
 obtain ⟨a,rfl,h⟩:=h
 have hu64:=hr.units
 have hu0:=hr.units0
 have hu:=bS hr
 refine ⟨_,(af (aC (i:=1) aQ.nd rfl (Or.inl rfl) (bI cH cF hr (ae (pv 0) (ae aa aj))))
   (af (aC (i:=2) aQ.nd rfl (Or.inr rfl) (bI vf uy hr (ae (pv 1) aj)))
   (af (aC (i:=3) aQ.nd rfl (Or.inl rfl) (aq bu aa (aq br (aq gL (bI cH cF hr (ae (pv 0) (ae aa aj))) aa) (aq xZ aa aa))))
   (af (qu (i:=4) ["_law_hand"] [none] aQ.nd rfl (Or.inl rfl) rfl rfl (by kernel_rfl) (bz (K:=K) rfl (pv 2)) (fun _ _ _ _ _ nd=>aB (i:=0) nd rfl (Or.inl rfl)) (fun _ _ _ _ _=>kU) (fun _ _ _ _ _=>(cc (ae (pv 0) (ae (bX aj) aj)))))
   (af (aC (i:=5) aQ.nd rfl (Or.inl rfl) aa)
   (af (aC (i:=6) aQ.nd rfl (Or.inl rfl) aa)
   (af (aC (i:=7) aQ.nd rfl (Or.inl rfl) aa)
   (af (cA PassesOwn.never rfl (eE rfl dR (ae (aq bu aa (aq br (bI cH cF hr (ae (pv 0) (ae aa aj))) aa)) aj)) (aB (i:=8) aQ.nd rfl (Or.inl rfl))
   (af (Bx (i:=9) ["_law_hands_here","_law_some"] [some 2,none] "_law_some" aQ.nd rfl (Or.inl rfl) rfl rfl (by kernel_rfl) (bz (K:=K) rfl (bX (ae (pv 5) (ae (pv 6) (ae (pv 7) aj))))) (fun _ _ _ _ _ nd=>aB (i:=1) nd rfl (Or.inr rfl)) (fun _ _ _ _ _=>kU) (fun _ _ _ _ _=>(bj (zB (K:=K) rfl rfl) (by rfl) HK PyProof.Rows.boot_sum (ae (gX ["_law_hands_here","_law_some","_law_j"] [some 0,some 1,none] rfl rfl (by kernel_rfl) (eE rfl dR (ae aa aj)) (fun _ _ _ _ _ nd=>aB (i:=2) nd rfl (Or.inl rfl)) (fun _ _ _ _ _=>(iO (aA bw (aq iY (aq kI (pv 1) (pv 2)) aa) aa (ax _)))) (fun _ _ _ _ _=>(aq uf aa (aw (aM (K:=K) rfl) (pv 0) (pv 2) (fun _ _=>rfl))))) aj))))
   (af (aC (i:=10) aQ.nd rfl (Or.inl rfl) (bI ub u9 hr (ae (pv 0) (ae (pv 2) (ae (pv 5) (ae (aq bu (pv 3) (pv 8)) (ae (aq bu aa (aq gL aa (pv 8))) aj)))))))
   (af (aC (i:=11) aQ.nd rfl (Or.inl rfl) (bI cH cF hr (ae (pv 0) (ae (aq bu aa (pv 8)) aj))))
   (af (aC (i:=12) aQ.nd rfl (Or.inl rfl) (aq iY (pv 5) (aq br (pv 11) aa)))
   (af (a8 (PW.pt (rO (aA bw (pv 12) aa (ax _)) (oj (aA bw (aq br (aq bM (pv 11) aa) aa) aa (ax _))))) (ai (aC (i:=12) aQ.nd rfl (Or.inl rfl) (pv 5))) aJ)
   (af (cA PassesOwn.never rfl (eE rfl dR (ae aa aj)) (aB (i:=13) aQ.nd rfl (Or.inl rfl))
   (ai (a8 (aA bw (aq iY (aq kI (pv 5) (pv 13)) aa) aa (ax _)) (af (aC (i:=14) aQ.nd rfl (Or.inl rfl) (aw (ao (K:=K) rfl) (aw (aM (K:=K) rfl) (pv 4) (pv 13) (fun _ _=>rfl)) aa (fun _ _=>rfl)))
   (af (bU (cB (K:=K) rfl (eG PySem.F.plainAttrs_list PySem.F.slot_list_append PySem.F.type_list_append cu (pv 14) (ae (cc (ae aP (ae (aq bu (pv 3) (pv 8)) (ae (aw (aM (K:=K) rfl) (pv 9) aa (fun _ _=>rfl)) (ae (aw (aM (K:=K) rfl) (pv 9) aa (fun _ _=>rfl)) (ae (aw (aM (K:=K) rfl) (pv 9) aa (fun _ _=>rfl)) aj)))))) aj))))
   (af (aC (i:=15) aQ.nd rfl (Or.inl rfl) (bj (bQ (K:=K) rfl) (by rfl) dE PySem.boot_len (ae (pv 10) aj)))
   (af (a8 (aA bw (aq iY (aq kI (pv 12) (pv 13)) aa) aa (ax _)) (ai (aC (i:=15) aQ.nd rfl (Or.inl rfl) (aq br (aq bM (pv 11) aa) (aq bu (pv 15) aa)))) aJ)
   (af (cA PassesOwn.never rfl (bz (K:=K) rfl (cq (jf (K:=K) rfl) (pv 10) eS (bG (pv 15)))) (aB (i:=16) aQ.nd rfl (Or.inl rfl))
   (ai (bU (cB (K:=K) rfl (eG PySem.F.plainAttrs_list PySem.F.slot_list_append PySem.F.type_list_append cu (pv 14) (ae (aq (xa (K:=K) rfl) (aq (xa (K:=K) rfl) (cc (ae aP aj)) (pv 16)) (cc (ae aP aj))) aj))))))
   (ai (a8 (aA bw (aq iY (aq kI (pv 12) (pv 13)) aa) aa (ax _)) (ai (bU (cB (K:=K) rfl (eG PySem.F.plainAttrs_list PySem.F.slot_list_append PySem.F.type_list_append cu (pv 14) (ae (cc (ae aP (ae (aq bu (pv 3) (pv 8)) aj))) aj))))) aJ))))))) aJ)))
   (af (aC (i:=6) aQ.nd rfl (Or.inl rfl) (pv 12))
   (af (aC (i:=7) aQ.nd rfl (Or.inl rfl) (aq iY (aq br (aq bM (pv 11) aa) aa) (eN Gu (pv 5))))
   (ai (aC (i:=5) aQ.nd rfl (Or.inl rfl) (aq IA (pv 6) (pv 7)))))))))))))
   (ai (aK (pv 4))))))))))),?_⟩
 obtain ⟨ns,ha,la,kk⟩:=h
 clean_wf
 refine ⟨a,_,rfl,ns,ha,by omega,by omega,la,fun c1 H1 hc1 s1=>?_⟩
 clean_wf
 refine ⟨c1,rfl,hc1.1,fun H2 hl hs s2 fhl ghl h4=>?_⟩
 have s02:=s1.trans s2
 have ha2:=s02.seq ha
 have p18:(0:Int) < (10:Int) ^ (18:Int).toNat:=Int.pow_pos (by decide)
 clean_wf
 refine ⟨a,_,rfl,ns,ha2,by omega,by omega,la,fun c2 H3 hc2 s3=>?_⟩
 have mc2:vC c2 65537:=.inr ⟨by decide,by decide⟩
 have ha3:=s3.seq ha2
 have shl:=bb.of (K:=K) (s3 _ _ ghl)
 clean_wf
 generalize 1 + c2 * 65537 % 10 ^ (18:Int).toNat=n
 intro D hD
 have l3h:=h4.ln
 refine dH (K:=K) (a:=hl) (xs:=hs.map V.int) (fun i σ A=>∃ (v:Option V) (pl:List (Addr×Addr)),σ=[v]/\aE H3 A/\A D=some (.lst (pl.map fun q=>V.ref q.1))/\Paired (Nw H3 A D) pl (hs.take i)/\(pl.map (·.2)).Nodup) ⟨none,[],rfl,aN hD,au,.nil,List.nodup_nil⟩ (fun i σ A _ z=>by obtain ⟨_,_,_,z,_⟩:=z; exact z.seq shl) ?_ ?_
 ·rintro i x σ A hx' ⟨v,pl,rfl,sA,gD,pp,nd⟩
  obtain ⟨h,hh,rfl⟩:=uM hx'
  have lpp:=Paired.length pp
  have lt:=List.length_take_le i hs
  have il:=(List.getElem?_eq_some_iff.mp hh).1
  clean_wf
  intro l1 A1 hl1 t1 gl1
  clean_wf
  intro p1 A2 hp1 t2 gp1
  have t12:=t1.trans t2
  have nlD:l1≠D:=fun z=>by rw [z,gD] at hl1; cases hl1
  have npD:p1≠D:=bK gp1 (t12 _ _ gD) (by intro z; cases z)
  refine ⟨_,t12 _ _ gD,aD (by rw [List.length_map]; omega),_,pl ++ [(p1,l1)],rfl,fun b o z=>?_,?_,?_,?_⟩
  ·rw [aG (aI z hD)]
   exact t12 _ _ (sA b o z)
  ·rw [au,List.map_append]; rfl
  ·rw [bx hh]
   refine bE (Paired.mapP pp fun q k y=>⟨?_,?_,y.2.2.1,y.2.2.2⟩) (.cons ⟨?_,?_,sA.free hl1,nlD⟩ .nil)
   ·rw [aG (bK (t12 _ _ y.1) (t12 _ _ gD) (by intro z; cases z))]; exact t12 _ _ y.1
   ·rw [aG y.2.2.2]; exact t12 _ _ y.2.1
   ·rw [aG npD]; exact gp1
   ·rw [aG nlD]; exact t2 _ _ gl1
  ·rw [List.map_append,List.nodup_append]
   refine ⟨nd,by simp,fun x hx y hy e=>?_⟩
   obtain ⟨q,hq,rfl⟩:=List.mem_map.mp hx
   obtain ⟨j,hj⟩:=List.getElem?_of_mem hq
   obtain ⟨_,_,nq⟩:=bH pp hj
   have hy:y=l1:=by simpa using hy
   have n2:=nq.2.1
   rw [e,hy,hl1] at n2
   cases n2
 rintro σ H4 ⟨v,pl,rfl,s4,gD,pp,nd⟩
 rw [List.length_map,List.take_length] at pp
 have T0:=Jm pp nd gD h4
 have fls:∀ z∈pl.map (·.2),H3 z=none:=fun z hz=>by
  obtain ⟨q,hq,rfl⟩:=List.mem_map.mp hz
  obtain ⟨j,hj⟩:=List.getElem?_of_mem hq
  obtain ⟨_,_,nq⟩:=bH pp hj
  exact nq.2.2.1
 have s03:=s02.trans s3
 have s04:=s03.trans s4
 have fls0:∀ z∈pl.map (·.2),H z=none:=fun z hz=>s03.free (fls z hz)
 have hD0:H D=none:=s03.free hD
 have ghl4:=(s3.trans s4) _ _ ghl
 have nhl:hl∉pl.map (·.2):=fun z=>by have:=fls hl z; rw [s3 _ _ ghl] at this; cases this
 have len0:∀ t∈hs.map (fun h=>((h,[]):cC)),t.2.length<=0:=fun t ht=>by
  obtain ⟨x,hx,rfl⟩:=List.mem_map.mp ht
  exact Nat.le_refl _
 generalize hs.map (fun h=>((h,[]):cC))=ts0 at T0 len0
 generalize pl.map (·.2)=ls at *
 have ha4:=s04.seq ha
 clean_wf
 refine ⟨a,_,rfl,ns,ha4,by omega,by omega,la,fun c3 H5 hc3 s5=>?_⟩
 have q3:=lit (c:=c3) (m:=3) (by decide)
 clean_wf
 refine ⟨_,rfl,by omega,by omega,?_⟩
 refine hU (fun i σ A=>∃ (mk on nw:Int) (w8 w9 w10 w11 w12 w13 w14 w15 w16:Option V) (ts:List cC),σ=[some (.ref a),some (.int c1),some (.ref hl),some (.int n),some (.ref D),some (.int mk),some (.int on),some (.int nw),w8,w9,w10,w11,w12,w13,w14,w15,w16]/\(0 < mk/\mk < 8)/\(0<=on/\on < 8)/\(0<=nw/\nw < 8)/\aE H A/\A hl=some (.lst (hs.map V.int))/\sH A D ls ts/\∀ t∈ts,t.2.length<=7 * i) ⟨7,0,7,none,none,none,none,none,none,none,none,none,ts0,rfl,by omega,by omega,by omega,s04.trans s5,s5 _ _ ghl4,T0.same s5,len0⟩ ?_ ?_
 ·rintro i σ A hi ⟨mk,on,nw,w8,w9,w10,w11,w12,w13,w14,w15,w16,ts,rfl,m1,o1,n1,sA,gh,T,lts⟩
  have hi3:i < 3:=by omega
  have haA:=sA.seq ha
  refine bD (fun σ' B=>∃ (E:Addr) (k1 k2 k3:Int),σ'=[some (.ref a),some (.int c1),some (.ref hl),some (.int n),some (.ref D),some (.int mk),some (.int on),some (.int nw),some (.int (0 + (i:Int))),some (.ref E),w10,w11,w12,w13,w14,w15,w16]/\aE A B/\A E=none/\B E=some (.lst [.int k1,.int k2,.int k3])/\0<=k1/\0<=k2/\0<=k3) ?_ fun N rest=>?_
  rotate_left
  ·clean_wf
   intro z A1 hz t1 gz
   refine ⟨z,rfl,⟨_,bb.of gz⟩,fun E hE=>?_⟩
   refine dH (K:=K) (a:=z) (xs:=[.int mk,.int on,.int nw]) (fun i' σ B=>∃ (v:Option V) (ks:List Int),σ=[some (.ref hl),v]/\aE A1 B/\B E=some (.lst (ks.map V.int))/\ks.length=i'/\∀ k∈ks,0<=k) ⟨none,[],rfl,aN hE,au,rfl,(fun _ z=>nomatch z)⟩ (fun i' σ B _ w=>by obtain ⟨_,_,_,w,_⟩:=w; exact bb.of (w _ _ gz)) ?_ ?_
   ·rintro i' x σ B hx ⟨v,ks,rfl,sB,gE,lk,kn⟩
    obtain ⟨m,hm,rfl⟩:∃ m:Int,0<=m/\x=.int m:=by
     have il:=(List.getElem?_eq_some_iff.mp hx).1
     have il:i' < 3:=il
     rcases (by omega:i'=0∨i'=1∨i'=2) with rfl | rfl | rfl
     ·exact ⟨mk,by omega,(Option.some.inj hx).symm⟩
     ·exact ⟨on,by omega,(Option.some.inj hx).symm⟩
     ·exact ⟨nw,by omega,(Option.some.inj hx).symm⟩
    have il3:i' < 3:=(List.getElem?_eq_some_iff.mp hx).1
    clean_wf
    refine ⟨3,rfl,by decide,by decide,fun F hF=>?_⟩
    refine mG (fun q σ C=>∃ (v:Option V) (ms:List Int),σ=[some (.ref hl),some (.int m),v]/\aE B C/\C F=some (.lst (ms.map V.int))/\ms.length<=q/\∀ k∈ms,0<=k) ⟨none,[],rfl,aN hF,au,Nat.le_refl _,(fun _ z=>nomatch z)⟩ ?_ ?_
    ·rintro q σ C hq ⟨v',ms,rfl,sC,gF,lm,mn⟩
     have hq3:q < 3:=hq
     obtain ⟨h,hh⟩:∃ h,hs[q]?=some h:=⟨hs[q]'(by omega),List.getElem?_eq_getElem (by omega)⟩
     have hr:=h4.rg h (List.mem_of_getElem? hh)
     have cp:Bj 1 h:=⟨hr.1,by omega,by decide⟩
     have shC:=bb.of (K:=K) ((t1.trans (sB.trans sC)) _ _ gh)
     have ah:jG (hs.map V.int) (0 + (q:Int))=some (.int h):=by
      rw [Int.zero_add]; exact cR (by rw [List.getElem?_map,hh]; rfl)
     clean_wf
     refine dN (fun _=>?_) fun _=>?_
     ·clean_wf
      refine ⟨_,gF,aD (by rw [List.length_map]; omega),_,ms ++ [1 * 2 ^ h.toNat],rfl,fun b o z=>?_,?_,?_,fun k hk=>?_⟩
      ·rw [aG (aI z hF)]
       exact sC b o z
      ·rw [au,List.map_append]; rfl
      ·rw [List.length_append]; exact Nat.succ_le_succ lm
      ·rcases List.mem_append.mp hk with z | z
       ·exact mn k z
       ·rw [List.mem_singleton.mp z,Int.one_mul]; exact jH _
     ·exact ⟨_,ms,rfl,sC,gF,by omega,mn⟩
    rintro σ C ⟨v',ms,rfl,sC,gF,lm,mn⟩
    clean_wf
    refine ⟨F,ms,rfl,bb.of gF,?_⟩
    refine ⟨_,sC _ _ gE,aD (by rw [List.length_map]; omega),_,ks ++ [ms.sum],rfl,fun b o z=>?_,?_,by rw [List.length_append,lk]; rfl,fun k hk=>?_⟩
    ·rw [aG (aI z hE)]
     exact sC _ _ (sB b o z)
    ·rw [au,List.map_append]; rfl
    ·rcases List.mem_append.mp hk with z | z
     ·exact kn k z
     ·rw [List.mem_singleton.mp z]; exact Gy mn
   rintro σ B ⟨v,ks,rfl,sB,gE,lk,kn⟩
   obtain ⟨k1,k2,k3,rfl⟩:∃ k1 k2 k3,ks=[k1,k2,k3]:=by
    match ks,lk with
    | [k1,k2,k3],_=>exact ⟨k1,k2,k3,rfl⟩
   exact rest _ _ ⟨E,k1,k2,k3,rfl,t1.trans sB,t1.free hE,gE,kn _ (by simp),kn _ (by simp),kn _ (by simp)⟩
  rintro σ' B ⟨E,k1,k2,k3,rfl,sB,hE,gE,k1n,k2n,k3n⟩
  have aliveB:∀ z∈ls,∃ o,A z=some o:=fun z hz=>by
   obtain ⟨j,hj⟩:=List.getElem?_of_mem hz
   have hjl:=(List.getElem?_eq_some_iff.mp hj).1
   rw [T.ll] at hjl
   obtain ⟨evs,e1,_⟩:=T.ev j z _ hj (List.getElem?_eq_getElem (by rw [T.ln]; exact hjl))
   exact ⟨_,e1⟩
  have nE:E∉ls:=fun z=>by obtain ⟨o,ho⟩:=aliveB E z; rw [hE] at ho; cases ho
  have haB:=sB.seq haA
  have shB:=bb.of (K:=K) (sB _ _ gh)
  have m7:vC 7 (0 + (i:Int)):=.inl ⟨by decide,by decide⟩
  clean_wf
  refine ⟨a,hl,_,_,_,rfl,ns,hs,haB,la,shB,h4,m1.1,m1.2,by omega,by omega,fun B1 lc xs R t1 hlc glc pR lR wR=>?_⟩
  have nlc:lc∉ls:=fun z=>by obtain ⟨o,ho⟩:=aliveB lc z; rw [sB _ _ ho] at hlc; cases hlc
  have haB1:=t1.seq haB
  clean_wf
  refine ⟨a,_,rfl,ns,haB1,by omega,by omega,la,fun cl B2 hcl t2=>?_⟩
  have q8:=lit (c:=cl) (m:=8) (by decide)
  have ga8:=Dv (x:=mk) (y:=cl % 8) (by omega) m1.2 q8.1 q8.2
  have sAB2:aE A B2:=sB.trans (t1.trans t2)
  refine bD (fun σ' C=>σ'=[some (.ref a),some (.int c1),some (.ref hl),some (.int n),some (.ref D),some (.int mk),some (.int on),some (.int nw),some (.int (0 + (i:Int))),some (.ref E),some (.ref lc),some (.int cl),some (.int (Builtin.bitAnd mk (cl % 8))),w13,w14,w15,w16]/\B2=C) ?_ fun N rest=>?_
  rotate_left
  ·clean_wf
   exact rest _ _ ⟨rfl,rfl⟩
  rintro σ' _ ⟨rfl,rfl⟩
  refine bD (fun σ' C=>∃ go:Int,σ'=[some (.ref a),some (.int c1),some (.ref hl),some (.int n),some (.ref D),some (.int mk),some (.int on),some (.int nw),some (.int (0 + (i:Int))),some (.ref E),some (.ref lc),some (.int cl),some (.int go),w13,w14,w15,w16]/\B2=C/\0 < go/\go < 8) ?_ fun N rest=>?_
  rotate_left
  ·clean_wf
   by_cases e0:Builtin.bitAnd mk (cl % 8)=0
   ·rw [decide_eq_true e0]
    clean_wf
    exact rest _ _ ⟨mk,rfl,rfl,m1.1,m1.2⟩
   ·rw [decide_eq_false e0]
    clean_wf
    refine dN (fun _=>?_) fun _=>?_
    ·clean_wf
     exact rest _ _ ⟨mk,rfl,rfl,m1.1,m1.2⟩
    ·clean_wf
     exact rest _ _ ⟨_,rfl,rfl,by omega,by omega⟩
  rintro σ' _ ⟨go,rfl,rfl,go0,go8⟩
  have pR2:Paired (Br B2) xs R:=Paired.mapP pR fun _ _ y=>y.up (.same t2)
  have lxs:=Paired.length pR2
  refine bD (fun σ C=>∃ (v13 v14 v15 v16:Option V) (ts':List cC),σ=[some (.ref a),some (.int c1),some (.ref hl),some (.int n),some (.ref D),some (.int mk),some (.int on),some (.int nw),some (.int (0 + (i:Int))),some (.ref E),some (.ref lc),some (.int cl),some (.int go),v13,v14,v15,v16]/\aE H C/\C hl=some (.lst (hs.map V.int))/\sH C D ls ts'/\∀ t∈ts',t.2.length<=7 * (i + 1)) ?_ fun N rest=>?_
  rotate_left
  ·clean_wf
   refine ⟨_,rfl,by omega,by omega,?_⟩
   refine hU (fun q σ C=>∃ (v13 v14 v15 v16:Option V) (ts':List cC),σ=[some (.ref a),some (.int c1),some (.ref hl),some (.int n),some (.ref D),some (.int mk),some (.int on),some (.int nw),some (.int (0 + (i:Int))),some (.ref E),some (.ref lc),some (.int cl),some (.int go),v13,v14,v15,v16]/\aE H C/\C hl=some (.lst (hs.map V.int))/\C E=some (.lst [.int k1,.int k2,.int k3])/\C lc=some (.lst xs)/\eW B2 C/\sH C D ls ts'/\∀ (j:Nat) t,ts'[j]?=some t->t.2.length<=7 * i + (if j < q then 7 else 0)) ⟨w13,w14,w15,w16,ts,rfl,sA.trans sAB2,sAB2 _ _ gh,(t1.trans t2) _ _ gE,t2 _ _ glc,.refl _,T.same sAB2,fun j t h=>by have:=lts t (List.mem_of_getElem? h); rw [if_neg (Nat.not_lt_zero _)]; omega⟩ ?_ ?_
   ·rintro q σ C hq ⟨v13,v14,v15,v16,ts',rfl,sC,ghC,gEC,glC,suC,TC,lC⟩
    have hq3:q < 3:=by simpa using hq
    obtain ⟨p,l,t,evs,ps,hll,htt,gD',lps,hp,gp,gl,pe⟩:=TC.at hq3
    have sD:=bb.of (K:=K) gD'
    have iX:=aZ.of (K:=K) gp
    have apq:jG ps (0 + (q:Int))=some (.ref p):=by rw [Int.zero_add]; exact cR hp
    have lq:=lC q t htt
    rw [if_neg (Nat.lt_irrefl _)] at lq
    have lmem:l∈ls:=List.mem_of_getElem? hll
    have hl0:=fls0 l lmem
    have tm:=List.mem_of_getElem? htt
    have wt:=TC.wf t tm
    have lev:=Paired.length pe
    have stay:∀ (ts2:List cC),(∀ (j:Nat) t,ts2[j]?=some t->t.2.length<=7 * i + (if j < q then 7 else 0))->∀ (j:Nat) t,ts2[j]?=some t->t.2.length<=7 * i + (if j < q + 1 then 7 else 0):=fun ts2 h j t hj=>by
     have:=h j t hj
     by_cases c:j < q
     ·rw [if_pos c] at this; rw [if_pos (by omega)]; exact this
     ·rw [if_neg c] at this; omega
    clean_wf
    refine dN (fun _=>?_) fun _=>?_
    ·have nDl:D≠l:=fun z=>TC.na (by rw [z]; exact lmem)
     have nhll:hl≠l:=fun z=>nhl (by rw [z]; exact lmem)
     have nEl:E≠l:=fun z=>nE (by rw [z]; exact lmem)
     have nlcl:lc≠l:=fun z=>nlc (by rw [z]; exact lmem)
     have W0:Lw C C l (7 * i) evs t.2:=⟨fun _ _ _ e=>e,.refl _,gl,pe,wt,by omega⟩
     -- back to the invariant
     have back:∀ (G:Hp) (ev:List V) (es:List Ev) (x15 x16:Option V),Lw C G l (7 * i + 7) ev es->aE H G->∃ (v13 v14 v15 v16:Option V) (ts':List cC),[some (.ref a),some (.int c1),some (.ref hl),some (.int n),some (.ref D),some (.int mk),some (.int on),some (.int nw),some (.int (0 + (i:Int))),some (.ref E),some (.ref lc),some (.int cl),some (.int go),some (.int (0 + (q:Int))),some (.ref l),x15,x16]=[some (.ref a),some (.int c1),some (.ref hl),some (.int n),some (.ref D),some (.int mk),some (.int on),some (.int nw),some (.int (0 + (i:Int))),some (.ref E),some (.ref lc),some (.int cl),some (.int go),v13,v14,v15,v16]/\aE H G/\G hl=some (.lst (hs.map V.int))/\G E=some (.lst [.int k1,.int k2,.int k3])/\G lc=some (.lst xs)/\eW B2 G/\sH G D ls ts'/\∀ (j:Nat) t,ts'[j]?=some t->t.2.length<=7 * i + (if j < q + 1 then 7 else 0):=fun G ev es x15 x16 L sG=>by
      obtain ⟨h1,h2,h3,h4,h5,h6⟩:=L
      refine ⟨_,_,_,_,ts'.set q (t.1,es),rfl,sG,h1 _ _ nhll ghC,h1 _ _ nEl gEC,h1 _ _ nlcl glC,suC.trans h2,TC.put2 hll htt h1 h2 h3 h4 h5,fun j u hj=>?_⟩
      by_cases e:q=j
      ·subst e
       rw [List.getElem?_set_self (List.getElem?_eq_some_iff.mp htt).1] at hj
       cases hj
       rw [if_pos (Nat.lt_succ_self _)]
       exact h6
      ·rw [List.getElem?_set_ne e] at hj
       exact stay ts' lC j u hj
     have sEC:=bb.of (K:=K) gEC
     have sl:=bb.of (K:=K) gl
     have ls0:evs.length < sizeLine:=aD (by omega)
     refine bD (fun σ' G=>σ'=[some (.ref a),some (.int c1),some (.ref hl),some (.int n),some (.ref D),some (.int mk),some (.int on),some (.int nw),some (.int (0 + (i:Int))),some (.ref E),some (.ref lc),some (.int cl),some (.int go),some (.int (0 + (q:Int))),some (.ref l),v15,v16]/\C=G) ?_ fun N' rest'=>?_
     rotate_left
     ·clean_wf
      exact rest' _ _ ⟨rfl,rfl⟩
     rintro σ' _ ⟨rfl,rfl⟩
     refine bD (fun σ' G=>σ'=[some (.ref a),some (.int c1),some (.ref hl),some (.int n),some (.ref D),some (.int mk),some (.int on),some (.int nw),some (.int (0 + (i:Int))),some (.ref E),some (.ref lc),some (.int cl),some (.int go),some (.int (0 + (q:Int))),some (.ref l),v15,v16]/\aE H G/\∃ ev es,Lw C G l (7 * i + 1) ev es) ?_ fun N' rest'=>?_
     rotate_left
     ·have a0:jG [V.int k1,V.int k2,V.int k3] 0=some (.int k1):=rfl
      have a1:jG [V.int k1,V.int k2,V.int k3] 1=some (.int k2):=rfl
      have a2:jG [V.int k1,V.int k2,V.int k3] 2=some (.int k3):=rfl
      clean_wf
      intro z1 C1 hz1 u1 g1
      have gl1:=u1 _ _ gl
      clean_wf
      intro C2 b2 g2
      have e1:hJ C1 (.ref z1) (.L (n + (0 + (i:Int))) (k1,k2,k3)):=⟨z1,rfl,g1,k1n,k2n,k3n⟩
      exact rest' _ _ ⟨rfl,b2.same (sC.trans u1) hl0,_,_,W0.add u1 b2 g2 e1 ⟨k1n,k2n,k3n⟩⟩
     rintro σ' G ⟨rfl,sG,ev,es,L⟩
     have glcG:=L.1 _ _ nlcl glC
     have slcG:=bb.of (K:=K) glcG
     refine bD (fun σ' G'=>σ'=[some (.ref a),some (.int c1),some (.ref hl),some (.int n),some (.ref D),some (.int mk),some (.int on),some (.int nw),some (.int (0 + (i:Int))),some (.ref E),some (.ref lc),some (.int cl),some (.int go),some (.int (0 + (q:Int))),some (.ref l),some (.int (xs.length:Nat)),v16]/\G=G') ?_ fun N' rest'=>?_
     rotate_left
     ·clean_wf
      exact rest' _ _ ⟨rfl,rfl⟩
     rintro σ' _ ⟨rfl,rfl⟩
     refine bD (fun σ' G'=>G=G'/\∃ j:Nat,σ'=[some (.ref a),some (.int c1),some (.ref hl),some (.int n),some (.ref D),some (.int mk),some (.int on),some (.int nw),some (.int (0 + (i:Int))),some (.ref E),some (.ref lc),some (.int cl),some (.int go),some (.int (0 + (q:Int))),some (.ref l),some (.int j),v16]/\j<=xs.length) ?_ fun N' rest'=>?_
     rotate_left
     ·have lj:=lit (c:=cl / 16) (m:=((xs.length:Nat):Int) + 1) (by omega)
      clean_wf
      refine dN (fun _=>?_) fun _=>?_
      ·clean_wf
       refine rest' _ _ ⟨rfl,(cl / 16 % (((xs.length:Nat):Int) + 1)).toNat,?_,by omega⟩
       rw [Int.toNat_of_nonneg lj.1]
       rfl
      ·clean_wf
       exact rest' _ _ ⟨rfl,_,rfl,Nat.le_refl _⟩
     rintro σ' _ ⟨rfl,j,rfl,jle⟩
     refine bD (fun σ' G'=>∃ v16,σ'=[some (.ref a),some (.int c1),some (.ref hl),some (.int n),some (.ref D),some (.int mk),some (.int on),some (.int nw),some (.int (0 + (i:Int))),some (.ref E),some (.ref lc),some (.int cl),some (.int go),some (.int (0 + (q:Int))),some (.ref l),some (.int j),v16]/\aE H G'/\∃ ev es,Lw C G' l (7 * i + 6) ev es) ?_ fun N' rest'=>?_
     rotate_left
     ·clean_wf
      intro gs G1 hgs u1 ggs
      rw [xK] at ggs
      refine ⟨gs,rfl,⟨_,bb.of ggs⟩,?_⟩
      have ngl:gs≠l:=fun z=>by rw [z,L.2.2.1] at hgs; cases hgs
      have pG:Paired (Br G1) (xs.take j) (R.take j):=eZ j (Paired.mapP pR2 fun _ _ y=>y.up ((suC.trans L.2.1).trans (.same u1)))
      refine bZ (K:=K) (a:=gs) (xs:=xs.take j) (fun r σ G'=>∃ v16 ev es,σ=[some (.ref a),some (.int c1),some (.ref hl),some (.int n),some (.ref D),some (.int mk),some (.int on),some (.int nw),some (.int (0 + (i:Int))),some (.ref E),some (.ref lc),some (.int cl),some (.int go),some (.int (0 + (q:Int))),some (.ref l),some (.int j),v16]/\aE H G'/\eW G1 G'/\G' gs=some (.lst (xs.take j))/\Lw C G' l (7 * i + 1 + r) ev es) ⟨v16,ev,es,rfl,sG.trans u1,.refl _,ggs,L.same u1⟩ (fun r σ G' _ z=>by obtain ⟨_,_,_,_,_,_,z,_⟩:=z; exact bb.of z) ?_ ?_
      ·rintro r x σ G' hx ⟨v16,ev,es,rfl,sG',su',gg',L'⟩
       obtain ⟨xk,hxk,kx⟩:=bH pG hx
       obtain ⟨tt,nv,cv,rfl,f1,f2,f3⟩:=kx.up su'
       have il:=(List.getElem?_eq_some_iff.mp hx).1
       have il2:=List.length_take_le j xs
       have xR:xk∈R:=List.mem_of_mem_take (List.mem_of_getElem? hxk)
       have wk:=wR xk xR
       have le':=Paired.length L'.2.2.2.1
       have le2:=L'.2.2.2.2.2
       have glp:=L'.2.2.1
       clean_wf
       intro z1 A1 hz1 d1 e1
       clean_wf
       refine B7 e1 (d1 _ _ f1) (by show 1 + 4<=1000; omega) fun z2 A2 hz2 d2 e2=>?_
       clean_wf
       intro z4 A4 hz4 d4 e4
       clean_wf
       refine B7 (d4 _ _ e2) e4 (by show 5 + 1<=1000; omega) fun z5 A5 hz5 d5 e5=>?_
       have d05:=d1.trans (d2.trans (d4.trans d5))
       have gl5:=d05 _ _ L'.2.2.1
       have lsz:ev.length < sizeLine:=aD (by omega)
       clean_wf
       intro A6 b6 g6
       have ez:hJ A5 (.ref z5) (.T xk "ready"):=hJ.mkT e5 (f2.up (.same d05)) (f3.up (.same d05)) wk
       exact ⟨_,_,_,rfl,b6.same (sG'.trans d05) hl0,su'.trans ((eW.same d05).trans (eW.but b6 gl5 (by intro _ z; cases z))),b6.at ngl (d05 _ _ gg'),L'.add d05 b6 g6 ez ⟨wk,by decide +kernel⟩⟩
      rintro σ G' ⟨v16,ev,es,rfl,sG',su',gg',L'⟩
      refine rest' _ _ ⟨_,rfl,sG',ev,es,L'.1,L'.2.1,L'.2.2.1,L'.2.2.2.1,L'.2.2.2.2.1,?_⟩
      have:=L'.2.2.2.2.2
      have:=List.length_take_le j xs
      omega
     rintro σ' G' ⟨v16,rfl,sG',ev,es,L'⟩
     have le':=Paired.length L'.2.2.2.1
     have le2:=L'.2.2.2.2.2
     have glG:=L'.2.2.1
     have lsz:ev.length < sizeLine:=aD (by omega)
     clean_wf
     refine dN (fun _=>?_) fun _=>?_
     ·clean_wf
      intro z1 A1 hz1 d1 e1
      have gl1:=d1 _ _ glG
      clean_wf
      intro A2 b2 g2
      have eo:hJ A1 (.ref z1) (.O (n + (0 + (i:Int)))):=⟨z1,rfl,e1⟩
      exact back A2 _ _ _ _ (L'.add d1 b2 g2 eo True.intro) (b2.same (sG'.trans d1) hl0)
     ·clean_wf
      exact back G' _ _ _ _ ⟨L'.1,L'.2.1,L'.2.2.1,L'.2.2.2.1,L'.2.2.2.2.1,by omega⟩ sG'
    ·clean_wf
     exact ⟨_,_,_,_,ts',rfl,sC,ghC,gEC,glC,suC,TC,stay ts' lC⟩
   rintro σ C ⟨v13,v14,v15,v16,ts',rfl,sC,ghC,gEC,glC,suC,TC,lC⟩
   refine rest _ _ ⟨_,_,_,_,ts',rfl,sC,ghC,TC,fun t ht=>?_⟩
   obtain ⟨j,hj⟩:=List.getElem?_of_mem ht
   have:=lC j t hj
   split at this <;> omega
  rintro σ C ⟨v13,v14,v15,v16,ts',rfl,sC,ghC,TC,lC⟩
  have q64:=lit (c:=cl / 64) (m:=8) (by decide)
  have d8:=Dd (x:=cl / 64 % 8) (y:=mk) q64.1 q64.2 (by omega) m1.2
  have r8:=GK (x:=go) (y:=Builtin.bitAnd (cl / 64 % 8) (Builtin.bitNot mk)) go0 go8 d8.1 d8.2
  clean_wf
  exact ⟨_,go,_,_,_,_,_,_,_,_,_,_,ts',rfl,r8,by omega,d8,sC,ghC,TC,lC⟩
 rintro σ A ⟨mk,on,nw,w8,w9,w10,w11,w12,w13,w14,w15,w16,ts,rfl,m1,o1,n1,sA,gh,T,lts⟩
 clean_wf
 refine kk A D ls ts sA hD0 fls0 T fun t ht=>?_
 have:=lts t ht
 omega
end
end K81
namespace K81
open PySem L2
section
variable {P:Program} {w:World} {K:PySem.W.Frag} {mg:Str->Option Value} {base:Heap}
def Eb (t:cC):PyData:=.tuple [.int t.1,.list (t.2.map xX)]
theorem sY.dz {H:Hp} {v:V} {t:cC} (h:sY H v t):Dz K H v (Eb t):=by
 obtain ⟨p,l,evs,rfl,e2,e3,e4⟩:=h
 exact .t (aZ.of e2) (.cons (.p (.int _)) (.cons (.l (bb.of e3) (vN (vb e4))) .nil))
theorem xB {H:Hp}:∀ {xs:List V} {ts:List cC},Paired (sY H) xs ts->mE K H xs (ts.map Eb)
 | _,_,.nil=>.nil
 | _,_,.cons h t=>.cons h.dz (xB t)
theorem xG {ts:List cC} (w:∀ t∈ts,∀ e∈t.2,mK e):(PyData.list (ts.map Eb)).canLay0=true:=by
 refine qk (fq fun d hd=>?_)
 obtain ⟨u,hu,rfl⟩:=List.mem_map.mp hd
 refine iI (fq fun d hd=>?_)
 simp only [List.mem_cons,List.not_mem_nil,or_false] at hd
 rcases hd with rfl | rfl
 ·rfl
 ·refine qk (fq fun d hd=>?_)
  obtain ⟨e,he,rfl⟩:=List.mem_map.mp hd
  exact nJ (w u hu e he)
theorem EU (ts:List cC):(PyData.list (ts.map Eb)).depth<=60:=by
 have e:(PyData.list (ts.map Eb)).depth=PyData.depthAll (ts.map Eb) + 1:=rfl
 rw [e]
 have:PyData.depthAll (ts.map Eb)<=5:=uL fun d hd=>by
  obtain ⟨u,hu,rfl⟩:=List.mem_map.mp hd
  have e:(Eb u).depth=max 0 (max (PyData.depthAll (u.2.map xX) + 1) 0) + 1:=rfl
  rw [e]
  have:PyData.depthAll (u.2.map xX)<=3:=uL fun d hd=>by
   obtain ⟨e,_,rfl⟩:=List.mem_map.mp hd
   exact uk e
  omega
 omega
theorem FY {H:Hp} {Q:VK} {a b:Addr} {xs ys:List V} {ts:List cC} (ha:bb K H a xs) (hb:bb K H b ys) (hx:Paired (sY H) xs ts) (hy:Paired (sY H) ys ts) (w:∀ t∈ts,∀ e∈t.2,mK e) (q:Q (.bl false) H):zQ K (.ref a) (.ref b) H Q :=
 ⟨_,_,.l ha (xB hx),.l hb (xB hy),xG w,xG w,by have:=EU ts; omega,by rw [SeqAt.eqv_refl _ (xG w)]; exact q⟩
theorem qL {α β:Type} {R:α->β->Prop}:∀ {xs:List α} {ys:List β},Paired R xs ys->Paired R xs.reverse ys.reverse
 | _,_,.nil=>.nil
 | _,_,.cons h t=>by
  rw [List.reverse_cons,List.reverse_cons]
  exact bE (qL t) (.cons h .nil)
def Gp:Option (Str×Int×Nat)->PyData
 | none=>.none
 | some o=>.tuple [.str o.1,.int o.2.1,.int (o.2.2:Int)]
theorem k6.dz {H:Hp} {v:V} {o:Option (Str×Int×Nat)} (h:k6 H v o):Dz K H v (Gp o):=by
 cases o with
 | none=>have h:v=.non:=h; rw [h]; exact .p .none
 | some o =>
  obtain ⟨t,rfl,g⟩:=h
  exact .p (.tup (aZ.of g) (.cons (.str _) (.cons (.int _) (.cons (.int _) .nil))))
theorem k6.same {H H':Hp} (s:aE H H') {v:V} {o:Option (Str×Int×Nat)} (h:k6 H v o):k6 H' v o:=by
 cases o with
 | none=>exact h
 | some o=>obtain ⟨t,e,g⟩:=h; exact ⟨t,e,s _ _ g⟩
def fe (s:Str):Prop:=(PyData.str s).canLay0=true
theorem x9 {hand:Int} {w:Wk} {r:Rc} {e:Ev} {s:Str} (h:bJ hand w r e=some s):fe s:=by
 unfold bJ at h
 have key:∀ {p:Bool} {s':Str} {o:Option Str},fe s'->(o=some s->fe s)->(if p=true then some s' else o)=some s->fe s:=fun {p s' o} h1 h2 z=>by
  cases p with
  | true=>have z:some s'=some s:=z; rw [← Option.some.inj z]; exact h1
  | false=>exact h2 z
 refine key (by unfold fe; decide +kernel) (fun z=>?_) h
 refine key (by unfold fe; decide +kernel) (fun z=>?_) z
 refine key (by unfold fe; decide +kernel) (fun z=>?_) z
 refine key (by unfold fe; decide +kernel) (fun z=>?_) z
 refine key (by unfold fe; decide +kernel) (fun z=>?_) z
 refine key (by unfold fe; decide +kernel) (fun z=>?_) z
 refine key (by unfold fe; decide +kernel) (fun z=>?_) z
 refine key (by unfold fe; decide +kernel) (fun z=>?_) z
 cases z
theorem tV {hand:Int} {s:Str} {j:Nat}:∀ {es:List Ev} {w:Wk} {r:Rc} {i:Nat},(dQ hand w r es i).1=some (s,j)->fe s
 | [],_,_,_,h=>by cases h
 | e :: es,w,r,i,h=>by
  rw [qD] at h
  cases z:bJ hand w r e with
  | some s'=>rw [z] at h; cases h; exact x9 z
  | none=>rw [z] at h; exact tV (es:=es) h
theorem vL {s:Str} {h:Int} {i:Nat}:∀ {ts:List cC} {r:Rc},fy r ts=some (s,h,i)->fe s
 | [],_,e=>by cases e
 | t :: ts,r,e=>by
  unfold fy at e
  cases z:dQ t.1 w0 r t.2 0 with
  | mk a r' =>
   rw [z] at e
   cases a with
   | some q=>cases e; exact tV (s:=q.1) (j:=q.2) (i:=0) (by rw [z])
   | none=>exact vL e
theorem i9 {ts:List cC}:(Gp (fy r0 ts)).canLay0=true:=by
 cases z:fy r0 ts with
 | none=>rfl
 | some o =>
  obtain ⟨s,h,i⟩:=o
  have l:=vL z
  refine iI (fq fun d hd=>?_)
  simp only [List.mem_cons,List.not_mem_nil,or_false] at hd
  rcases hd with rfl | rfl | rfl
  ·exact l
  ·rfl
  ·rfl
theorem wG (o:Option (Str×Int×Nat)):(Gp o).depth<=60:=by
 cases o with
 | none=>exact (by decide:0<=60)
 | some o=>exact (by decide:1<=60)
theorem Hc {H:Hp} {Q:VK} {v u:V} {ts:List cC} (h1:k6 H v (fy r0 ts)) (h2:k6 H u (fy r0 ts)) (q:Q (.bl false) H):zQ K v u H Q :=
 ⟨_,_,h1.dz,h2.dz,i9,i9,by have:=wG (fy r0 ts); omega,by rw [SeqAt.eqv_refl _ i9]; exact q⟩
theorem Eu {H:Hp} {Q:VK} {v u:V} {ts:List cC} (h1:k6 H v (fy r0 ts)) (h2:k6 H u (fy r0 ts)) (q:Q (.bl true) H):Df K v u H Q :=
 ⟨_,_,h1.dz,h2.dz,i9,i9,by have:=wG (fy r0 ts); omega,by rw [SeqAt.eqv_refl _ i9]; exact q⟩
theorem vw.n {ts:List cC} (h:vw ts):xt ts<=200:=by
 have key:∀ l:List cC,(∀ t∈l,t.2.length<=60)->xt l<=60 * l.length:=by
  intro l
  induction l with
  | nil=>intro _; exact Nat.zero_le _
  | cons t l ih =>
   intro h
   have h1:=h t List.mem_cons_self
   have h2:=ih fun t ht=>h t (List.mem_cons_of_mem _ ht)
   have e:xt (t :: l)=t.2.length + xt l:=by
    unfold xt
    rw [List.map_cons,List.sum_cons]
   rw [e,List.length_cons]
   omega
 have:=key ts h.le
 have:=h.ln
 omega
theorem vw.sub {ts us:List cC} (h:vw ts) (l:us.length<=3) (s:∀ u∈us,∃ t∈ts,u.1=t.1/\∃ k,u.2=t.2.take k):vw us:=by
 refine ⟨l,fun u hu=>?_,fun u hu e he=>?_,fun u hu=>?_⟩
 ·obtain ⟨t,ht,e1,k,e2⟩:=s u hu
  have:=h.le t ht
  rw [e2,List.length_take]; omega
 ·obtain ⟨t,ht,e1,k,e2⟩:=s u hu
  rw [e2] at he
  exact h.we t ht e (List.mem_of_mem_take he)
 ·obtain ⟨t,ht,e1,k,e2⟩:=s u hu
  rw [e1]; exact h.rg t ht
theorem vw.rev {ts:List cC} (h:vw ts):vw ts.reverse:=h.sub (by rw [List.length_reverse]; exact h.ln) fun u hu=>⟨u,List.mem_reverse.mp hu,rfl,u.2.length,List.take_length.symm⟩
theorem xb {h:Int} {i:Nat}:∀ {ts:List cC} {u:cC},u∈lu h i ts->∃ t∈ts,u.1=t.1/\∃ k,u.2=t.2.take k
 | [],u,hu=>by cases hu
 | t :: ts,u,hu=>by
  unfold lu at hu
  split at hu
  ·rw [List.mem_singleton.mp hu]; exact ⟨t,List.mem_cons_self,rfl,i,rfl⟩
  ·rcases List.mem_cons.mp hu with e | e
   ·rw [e]; exact ⟨t,List.mem_cons_self,rfl,t.2.length,List.take_length.symm⟩
   ·obtain ⟨t',ht',q⟩:=xb e
    exact ⟨t',List.mem_cons_of_mem _ ht',q⟩
theorem wb {h:Int} {i:Nat}:∀ {ts:List cC},(lu h i ts).length<=ts.length
 | []=>Nat.le_refl _
 | t :: ts=>by
  unfold lu
  split
  ·exact Nat.succ_le_succ (Nat.zero_le _)
  ·rw [List.length_cons,List.length_cons]; exact Nat.succ_le_succ wb
theorem vw.cut {ts:List cC} (h:vw ts) (g:Int) (i:Nat):vw (lu g i ts):=h.sub (Nat.le_trans wb h.ln) fun _ hu=>xb hu
theorem vw.eq {ts:List cC} (h:vw ts):vI [] [] ts=fy r0 ts:=(BZ GN (fun d hd=>nomatch hd) h.we).symm
theorem flt {H:Hp} {Q:VK} {E:XK} {a:Addr} {xs:List V} {ts:List cC} (ha:bb K H a xs) (px:Paired (sY H) xs ts) (t:vw ts) (q:∀ H' v,aE H H'->k6 H' v (fy r0 ts)->Q v H'):rA K [.ref a] H Q E:=⟨a,rfl,xs,ts,ha,px,t.rg,t.n,q⟩
theorem HQ {H:Hp} {Q:VK} {E:XK} {a:Addr} {xs:List V} {ts:List cC} (ha:bb K H a xs) (px:Paired (sY H) xs ts) (t:vw ts) (q:∀ H' v,aE H H'->k6 H' v (fy r0 ts)->Q v H'):kq K [.ref a] H Q E:=⟨a,rfl,xs,ts,ha,px,t,fun H' v s o=>q H' v s (by rw [← t.eq]; exact o)⟩
theorem ib {H H':Hp} {xs:List V} {ts:List cC} (px:Paired (sY H) xs ts) (s:aE H H'):Paired (sY H') xs ts:=Paired.mapP px fun _ _ y=>y.same s
theorem sH.hs {H:Hp} {a:Addr} {ls:List Addr} {ts:List cC} (T:sH H a ls ts):∃ xs,H a=some (.lst xs)/\Paired (sY H) xs ts:=by
 obtain ⟨ps,g,lp,at'⟩:=T.xs
 refine ⟨_,g,?_⟩
 have lt:=T.ln
 have ll:=T.ll
 have key:∀ (i:Nat),i < 3->∃ p t,ps[i]?=some p/\ts[i]?=some t/\sY H (.ref p) t:=fun i hi=>by
  have h1:=List.getElem?_eq_getElem (l:=ls) (i:=i) (by omega)
  have h2:=List.getElem?_eq_getElem (l:=ts) (i:=i) (by omega)
  have h3:=List.getElem?_eq_getElem (l:=ps) (i:=i) (by omega)
  obtain ⟨evs,e1,e2⟩:=T.ev i _ _ h1 h2
  exact ⟨_,_,h3,h2,_,_,evs,rfl,at' i _ _ _ h3 h1 h2,e1,e2⟩
 obtain ⟨p0,t0,a0,b0,c0⟩:=key 0 (by decide)
 obtain ⟨p1,t1,a1,b1,c1⟩:=key 1 (by decide)
 obtain ⟨p2,t2,a2,b2,c2⟩:=key 2 (by decide)
 match ps,lp,ts,lt,a0,a1,a2,b0,b1,b2 with
 | [x0,x1,x2],_,[y0,y1,y2],_,a0,a1,a2,b0,b1,b2 =>
  cases a0; cases a1; cases a2; cases b0; cases b1; cases b2
  exact .cons c0 (.cons c1 (.cons c2 .nil))
theorem zK (ns:List Int) (lo hi:Option Int):∃ ms:List Int,ja (ns.map V.int) lo hi=ms.map V.int/\ms.length<=ns.length:=Cg ns lo hi
end
end K81
namespace K81
open PySem L2
abbrev sZ:Stmt:=i7 39
section
variable {P:Program} {w:World} {K:PySem.W.Frag} {mg:Str->Option Value} {base:Heap}
def uV (K:PySem.W.Frag):Sp:=fun vs H Q _=>∃ (a:Addr) (ns:List Int),vs=[.ref a]/\bb K H a (ns.map V.int)/\ns.length<=63/\∀ H',Q (.bl true) H'
theorem F7 (t:Addr):decide (V.ref t=V.non)=false:=decide_eq_false (by intro z; cases z)
theorem lX:aW ["_law_script","_law_told_here","_law_k","_law_handed","_law_due_here","_law_found"] ["_law_script"] (aF sZ):=⟨rfl,rfl,rfl,by decide +kernel,rfl,by decide +kernel,by decide +kernel⟩
theorem Fl {f yO dB rf rG nX oV:Addr} {fd xi cQ o6 oY lN nH:FuncData} (F:cM K "law" "law" sZ f fd)
  (qr:aT P w K mg base cy 5 yO xi ["told"] (rA K)) (qy:dP K mg "fault" yO xi ["told"])
  (cH:aT P w K mg base cy 5 dB cQ ["_law_script","_law_k"] (hG K)) (cF:dP K mg "_law_pick" dB cQ ["_law_script","_law_k"])
  (qU:aT P w K mg base cy 5 rf o6 ["_law_told_here"] (kq K)) (rM:dP K mg "_law_due" rf o6 ["_law_told_here"])
  (yh:aT P w K mg base cy 5 rG oY ["_law_told_here","_law_due_here"] (pk K)) (yl:dP K mg "_law_cut" rG oY ["_law_told_here","_law_due_here"])
  (uR:aT P w K mg base cy 5 nX lN ["_law_told_here","_law_cell"] (lF K)) (ui:dP K mg "_law_spoil" nX lN ["_law_told_here","_law_cell"])
  (xq:aT P w K mg base cy 5 oV nH ["_law_script"] (m9 K)) (vK:dP K mg "_law_told" oV nH ["_law_script"]) (GC:mg "bool"=none) (Ic:mg "int"=none) (jJ:mg "isinstance"=none) (mw:mg "list"=none) (dR:mg "range"=none) (mN:mg "tuple"=none):aT P w K mg base cy 6 f fd ["_law_script"] (uV K):=by
 refine F.ok lX (fun vs H Q E h=>?_) (fun cdv A outer s H vs Q E hr h=>?_)
 ·obtain ⟨a,ks,rfl,_⟩:=h
  rfl
 obtain ⟨a,ks,rfl,h⟩:=h
 have hu64:=hr.units
 have hu0:=hr.units0
 have hu:=bS hr
 refine ⟨_,(af (aC (i:=0) lX.nd rfl (Or.inl rfl) (cq (jf (K:=K) rfl) (pv 0) eS (bG aa)))
   (af (aC (i:=1) lX.nd rfl (Or.inl rfl) (bI xq vK hr (ae (pv 0) aj)))
   (af (cA PassesOwn.never rfl (eE rfl dR (ae (aq br (bI cH cF hr (ae (pv 0) (ae aa aj))) aa) aj)) (aB (i:=2) lX.nd rfl (Or.inl rfl))
   (ai (bU (bI uR ui hr (ae (pv 1) (ae (bI cH cF hr (ae (pv 0) (ae (aq bu aa (pv 2)) aj))) aj))))))
   (af (qu (i:=3) ["_law_hand","_law_events"] [none,none] lX.nd rfl (Or.inl rfl) rfl rfl (by kernel_rfl) (bz (K:=K) rfl (pv 1)) (fun _ _ _ _ _ nd=>cY (K:=K) (n:=2) rfl rfl (aS (aB (i:=0) nd rfl (Or.inl rfl)) (aS (aB (i:=1) nd rfl (Or.inl rfl)) cX))) (fun _ _ _ _ _=>kU) (fun _ _ _ _ _=>(cc (ae (pv 0) (ae (e8 (my (K:=K) rfl) (by rfl) mw PyProof.Rows.boot_list (ae (pv 1) aj)) aj)))))
   (af (aC (i:=4) lX.nd rfl (Or.inl rfl) (bI qU rM hr (ae (pv 1) aj)))
   (af (aC (i:=5) lX.nd rfl (Or.inl rfl) (bI qr qy hr (ae (pv 3) aj)))
   (af (a8 (PW.pt (rO (aA (ia (K:=K) rfl hu64) (pv 5) (pv 4) (ax _)) (oj (aA (ia (K:=K) rfl hu64) (pv 3) (pv 1) (ax _))))) (ai (aK oX)) aJ)
   (af (a8 (aA yG (pv 4) dy (ax _)) (ai (aK (bL (uz (K:=K) rfl hu64) (bI qr qy hr (ae (tM yJ (pv 1) eS eS (bG (eN c9 aa))) aj)) (bI qU rM hr (ae (tM yJ (pv 1) eS eS (bG (eN c9 aa))) aj)) (ax _)))) aJ)
   (af (a8 (PW.pt (rO (sF (gi K rfl (bj (oo (K:=K) rfl) (by rfl) jJ PyProof.Rows.boot_isinstance (ae (pv 5) (ae (vg mN PyProof.Rows.boot_tuple) aj))))) (rO (sF (gi K rfl (bj (oo (K:=K) rfl) (by rfl) jJ PyProof.Rows.boot_isinstance (ae (aw (ao (K:=K) rfl) (pv 5) aa (fun _ _=>rfl)) (ae (vg Ic PyProof.Rows.boot_int) aj))))) (oj (gi K rfl (bj (oo (K:=K) rfl) (by rfl) jJ PyProof.Rows.boot_isinstance (ae (aw (ao (K:=K) rfl) (pv 5) aa (fun _ _=>rfl)) (ae (vg GC PyProof.Rows.boot_bool) aj)))))))) (ai (aK oX)) aJ)
   (ai (aK (iB (bL yG (bI qr qy hr (ae (bI yh yl hr (ae (pv 1) (ae (pv 4) aj))) aj)) dy (ax _)) (fL (bL (uz (K:=K) rfl hu64) (bI qr qy hr (ae (pv 3) aj)) (pv 4) (ax _))))))))))))))),?_⟩
 obtain ⟨hS,hlen,k⟩:=h
 clean_wf
 intro b H1 hb s1 g1
 obtain ⟨ns,ew,lw⟩:=zK ks none (some 63)
 rw [ew] at g1
 have sb:=bb.of (K:=K) g1
 clean_wf
 refine ⟨b,rfl,ns,sb,by omega,fun H2 l ls ts s2 hl fls T lts=>?_⟩
 have gb2:=s2 _ _ g1
 have sb2:=bb.of (K:=K) gb2
 have nb:b∉ls:=fun z=>by have:=fls b z; rw [g1] at this; cases this
 clean_wf
 refine ⟨b,_,rfl,ns,sb2,by omega,by omega,by omega,fun c H3 hc s3=>?_⟩
 have q4:=lit (c:=c) (m:=4) (by decide)
 clean_wf
 refine ⟨_,rfl,by omega,by omega,?_⟩
 refine hU (fun i σ A=>∃ v2 ts,σ=[some (.ref b),some (.ref l),v2,none,none,none]/\A b=some (.lst (ns.map V.int))/\sH A l ls ts/\∀ t∈ts,t.2.length<=21 + i) ⟨none,ts,rfl,s3 _ _ gb2,T.same s3,lts⟩ ?_ ?_
 ·rintro i σ A hi ⟨v2,ts,rfl,gb,T,lts⟩
  have hi4:i < 4:=by omega
  have sbA:=bb.of (K:=K) gb
  clean_wf
  refine ⟨b,_,rfl,ns,sbA,by omega,by omega,by omega,fun c B hc sB=>?_⟩
  clean_wf
  refine ⟨l,c,rfl,ls,ts,21 + i,T.same sB,lts,by omega,hc.1,fun B2 ts' kp T' lts'=>?_⟩
  exact ⟨_,ts',rfl,kp _ _ nb (sB _ _ gb),T',fun t ht=>by have:=lts' t ht; omega⟩
 rintro σ A ⟨v2,ts,rfl,gb,T,lts⟩
 obtain ⟨xs,gl,px⟩:=T.hs
 have td:vw ts:=⟨by have:=T.ln; omega,fun t ht=>by have:=lts t ht; omega,T.wf,T.rg⟩
 have lx:=Paired.length px
 have l3:=T.ln
 have sl:=bb.of (K:=K) gl
 clean_wf
 intro D hD
 refine dH (K:=K) (a:=l) (xs:=xs) (fun i σ B=>∃ (v w:Option V) (zs:List V),σ=[v,w]/\aE A B/\B D=some (.lst zs)/\Paired (F8 D B) zs (ts.take i)) ⟨none,none,[],rfl,aN hD,au,.nil⟩ (fun i σ B _ z=>by obtain ⟨_,_,_,_,z,_⟩:=z; exact z.seq sl) ?_ ?_
 ·rintro i x σ B hx ⟨v,w',zs,rfl,sB,gD,pz⟩
  obtain ⟨t,ht,hsa⟩:=bH px hx
  obtain ⟨p,l1,evs,rfl,f1,f2,f3⟩:=hsa.same sB
  have st:=aZ.of (K:=K) f1
  have sl1:=bb.of (K:=K) f2
  have lz:=Paired.length pz
  have lt4:=List.length_take_le i ts
  have hit:=(List.getElem?_eq_some_iff.mp ht).1
  have le28:=td.le t (List.mem_of_getElem? ht)
  have lev:=Paired.length f3
  clean_wf
  intro q B1 hq t1 g1'
  clean_wf
  intro p2 B2 hp2 t2 g2'
  have t12:=t1.trans t2
  have nq:q≠D:=fun z=>by rw [z,gD] at hq; cases hq
  have np:p2≠D:=bK g2' (t12 _ _ gD) (by intro z; cases z)
  refine ⟨zs,t12 _ _ gD,aD (by omega),_,_,_,rfl,fun b o z=>?_,au,?_⟩
  ·rw [aG (aI z hD)]
   exact t12 _ _ (sB b o z)
  ·rw [bx ht]
   have bt':mL D B2 (upd B2 D (.lst (zs ++ [.ref p2]))):=.upd
   refine bE (Paired.mapP pz fun _ _ y=>y.kp t12 bt' (t12 _ _ gD)) (.cons ⟨p2,q,evs,rfl,?_,?_,nq,Paired.mapP f3 fun _ _ y=>y.up fun u xs e=>?_⟩ .nil)
   ·rw [aG np]; exact g2'
   ·rw [aG nq]; exact t2 _ _ g1'
   ·rw [aG (bK (t12 _ _ e) (t12 _ _ gD) (by intro z; cases z))]; exact t12 _ _ e
 rintro σ H3 ⟨v,w',zs,rfl,s3,gD,pz⟩
 rw [lx,List.take_length] at pz
 have pz:Paired (sY H3) zs ts:=Paired.mapP pz fun _ _ y=>y.a
 have lz:=Paired.length pz
 have px3:=ib px s3
 have gl3:=s3 _ _ gl
 clean_wf
 refine HQ (bb.of gl3) px3 td fun H4 dv s4 od=>?_
 have gD4:=s4 _ _ gD
 clean_wf
 refine flt (bb.of gD4) (ib pz s4) td fun H5 fv s5 of'=>?_
 have s35:=s4.trans s5
 have gD5:=s35 _ _ gD
 have gl5:=s35 _ _ gl3
 have od5:=od.same s5
 have pz5:=ib pz s35
 have px5:=ib px3 s35
 have sl5:=bb.of (K:=K) gl5
 have sD5:=bb.of (K:=K) gD5
 clean_wf
 refine Hc of' od5 ?_
 clean_wf
 refine FY sD5 sl5 pz5 px5 td.we ?_
 cases jj:fy r0 ts with
 | none =>
  rw [jj] at od5 of'
  have e1:dv=.non:=od5
  subst e1
  clean_wf
  rw [hX]
  clean_wf
  refine ⟨rfl,rfl,rfl,l,xs,rfl,sl5,fun p6 hp6=>?_⟩
  have s6:=aN (o:=.lst xs.reverse) hp6
  have g6:(upd H5 p6 (.lst xs.reverse)) p6=some (.lst xs.reverse):=au
  generalize upd H5 p6 (.lst xs.reverse)=H6 at s6 g6 ⊢
  clean_wf
  refine flt (bb.of g6) (qL (ib px5 s6)) td.rev fun H7 v7 s7 o7=>?_
  have sl7:=(s6.trans s7).seq sl5
  clean_wf
  refine ⟨rfl,rfl,rfl,l,xs,rfl,sl7,fun p8 hp8=>?_⟩
  have s8:=aN (o:=.lst xs.reverse) hp8
  have g8:(upd H7 p8 (.lst xs.reverse)) p8=some (.lst xs.reverse):=au
  generalize upd H7 p8 (.lst xs.reverse)=H8 at s8 g8 ⊢
  clean_wf
  refine HQ (bb.of g8) (qL (ib px5 (s6.trans (s7.trans s8)))) td.rev fun H9 v9 s9 o9=>?_
  exact Eu (o7.same (s8.trans s9)) o9 (k H9)
 | some o =>
  have od6:=od5
  have of6:=of'
  rw [jj] at od6 of6
  obtain ⟨td1,rfl,gd1⟩:=od6
  obtain ⟨tf1,rfl,gf1⟩:=of6
  have stf:=aZ.of (K:=K) gf1
  clean_wf
  rw [F7]
  clean_wf
  refine ⟨_,_,"tuple",true,rfl,.tup gf1,(by first | rfl | kernel_rfl),?_⟩
  refine ⟨true,rfl,?_⟩
  clean_wf
  refine ⟨_,_,"int",true,rfl,.int _,(by first | rfl | kernel_rfl),?_⟩
  refine ⟨true,rfl,?_⟩
  clean_wf
  refine ⟨_,_,"bool",false,rfl,.int _,(by first | rfl | kernel_rfl),?_⟩
  refine ⟨false,rfl,?_⟩
  clean_wf
  refine ⟨l,.ref td1,rfl,xs,ts,o,sl5,px5,td,⟨td1,rfl,gd1⟩,fun H6 lc ys s6 glc pc=>?_⟩
  clean_wf
  refine flt (bb.of glc) pc (td.cut _ _) fun H7 v7 s7 o7=>?_
  obtain ⟨os,oh,oi⟩:=o
  have en:fy r0 (lu oh oi ts)=none:=vZ jj
  have o7:k6 H7 v7 none:=by rw [← en]; exact o7
  have e7:v7=.non:=o7
  subst e7
  have s57:=s6.trans s7
  clean_wf
  rw [hX]
  clean_wf
  refine flt (s57.seq sD5) (ib pz5 s57) td fun H8 v8 s8 o8=>?_
  clean_wf
  exact Eu o8 (od5.same (s57.trans s8)) (k H8)
end
end K81
namespace K81
open PySem L2
theorem EH {l:W.OpenLaw} {w:World} {K:W.Frag} {h:Heap} {mg:Str->Option Value} {fa f_0 f_1 f_2 f_3 f_4 f_5 f_6 f_7 f_8 f_9 f_10 f_11 f_12 f_13 f_14 f_15 f_16 f_17 f_18 f_19 f_20 f_21 f_22 f_23 f_24 f_25 f_26 f_27 f_28 f_29 f_30 f_31 f_32 f_33 f_34 f_35 f_36 f_37 f_38 f_39 f_40 bg aL aR aR0 aR1 aR2 aR3 aR4 aR5 aR6 aR7:Addr} {d_0 d_1 d_2 d_3 d_4 d_5 d_6 d_7 d_8 d_9 d_10 d_11 d_12 d_13 d_14 d_15 d_16 d_17 d_18 d_19 d_20 d_21 d_22 d_23 d_24 d_25 d_26 d_27 d_28 d_29 d_30 d_31 d_32 d_33 d_34 d_35 d_36 d_37 d_38 d_39 d_40:FuncData} (X:K.In h) (G:h.Ns mainGlobals mg) (hfa:mg "law"=some (.ref fa))
  {nR nR0 nR1 nR2 nR3 nR4 nR5 nR6 nR7:Nat} {tR0 tR1 tR2 tR3 tR4 tR5 tR6 tR7:Tok}
  (a_0:nI K "count_of" f_0)
  (a_1:nI K "hands_among" f_1)
  (a_2:nI K "covers" f_2)
  (a_3:nI K "unpacked" f_3)
  (a_4:nI K "bit_of" f_4)
  (a_5:nI K "has" f_5)
  (a_11:nI K "breaks_number" f_11)
  (a_12:nI K "breaks_hands" f_12)
  (a_13:nI K "breaks_row" f_13)
  (a_14:nI K "breaks_causes" f_14)
  (a_15:nI K "breaks_lists" f_15)
  (a_16:nI K "breaks_calls" f_16)
  (a_17:nI K "breaks_together" f_17)
  (a_18:nI K "breaks_one" f_18)
  (a_22:nI K "first_broken" f_22)
  (a_23:nI K "fault" f_23)
  (a_24:nI K "_law_pick" f_24)
  (a_25:nI K "_law_hands" f_25)
  (a_26:nI K "_law_calls" f_26)
  (a_27:nI K "_law_stands" f_27)
  (a_28:nI K "_law_counts" f_28)
  (a_29:nI K "_law_ones" f_29)
  (a_30:nI K "_law_list_rule" f_30)
  (a_31:nI K "_law_take_rule" f_31)
  (a_32:nI K "_law_rule" f_32)
  (a_33:nI K "_law_due" f_33)
  (a_34:nI K "_law_cut" f_34)
  (a_35:nI K "_law_call_changed" f_35)
  (a_36:nI K "_law_changed" f_36)
  (a_37:nI K "_law_new_call" f_37)
  (a_38:nI K "_law_spoil" f_38)
  (a_39:nI K "_law_told" f_39)
  (a_40:nI K "law" f_40)
  (AL:nI K "Record" bg)
  (EN:nI K "Walk" aL)
  (zY:W.nsIn K mainGlobals "RULES"=some (some (.ref aR)))
  (IG:W.nsIn K mainGlobals "all"=some none)
  (Fd:W.nsIn K mainGlobals "bool"=some none)
  (Fi:W.nsIn K mainGlobals "dict"=some none)
  (xn:W.nsIn K mainGlobals "enumerate"=some none)
  (HE:W.nsIn K mainGlobals "int"=some none)
  (uX:W.nsIn K mainGlobals "isinstance"=some none)
  (HW:W.nsIn K mainGlobals "len"=some none)
  (EF:W.nsIn K mainGlobals "list"=some none)
  (ID:W.nsIn K mainGlobals "max"=some none)
  (Dg:W.nsIn K mainGlobals "range"=some none)
  (Im:W.nsIn K mainGlobals "set"=some none)
  (Bd:W.nsIn K mainGlobals "sorted"=some none)
  (Hk:W.nsIn K mainGlobals "sum"=some none)
  (CN:W.nsIn K mainGlobals "tuple"=some none)
  (gM:jC K aL "go_over" f_21)
  (dY:jC K aL "go_over_list" f_19)
  (dZ:jC K aL "go_over_take" f_20)
  (bP:jC K aL "goes_on" f_8)
  (bC:jC K aL "ones_on_record" f_10)
  (cz:jC K aL "takes_one" f_9)
  (rY:Mk K bg f_6)
  (yE:Mk K aL f_7)
  (F_0:cM K "count_of" "count_of" lW f_0 d_0)
  (F_1:cM K "hands_among" "hands_among" i0 f_1 d_1)
  (F_2:cM K "covers" "covers" rE f_2 d_2)
  (F_3:cM K "unpacked" "unpacked" mz f_3 d_3)
  (F_4:cM K "bit_of" "bit_of" qV f_4 d_4)
  (F_5:cM K "has" "has" AM f_5 d_5)
  (F_6:cM K "__init__" "Record.__init__" fm f_6 d_6)
  (F_7:cM K "__init__" "Walk.__init__" gQ f_7 d_7)
  (F_8:cM K "goes_on" "Walk.goes_on" ig f_8 d_8)
  (F_9:cM K "takes_one" "Walk.takes_one" fE f_9 d_9)
  (F_10:cM K "ones_on_record" "Walk.ones_on_record" dO f_10 d_10)
  (F_11:cM K "breaks_number" "breaks_number" gR f_11 d_11)
  (F_12:cM K "breaks_hands" "breaks_hands" iu f_12 d_12)
  (F_13:cM K "breaks_row" "breaks_row" jw f_13 d_13)
  (F_14:cM K "breaks_causes" "breaks_causes" gP f_14 d_14)
  (F_15:cM K "breaks_lists" "breaks_lists" iD f_15 d_15)
  (F_16:cM K "breaks_calls" "breaks_calls" iq f_16 d_16)
  (F_17:cM K "breaks_together" "breaks_together" fx f_17 d_17)
  (F_18:cM K "breaks_one" "breaks_one" jL f_18 d_18)
  (F_19:cM K "go_over_list" "Walk.go_over_list" eI f_19 d_19)
  (F_20:cM K "go_over_take" "Walk.go_over_take" eK f_20 d_20)
  (F_21:cM K "go_over" "Walk.go_over" ic f_21 d_21)
  (F_22:cM K "first_broken" "first_broken" ip f_22 d_22)
  (F_23:cM K "fault" "fault" ux f_23 d_23)
  (F_24:cM K "_law_pick" "_law_pick" kb f_24 d_24)
  (F_25:cM K "_law_hands" "_law_hands" jt f_25 d_25)
  (F_26:cM K "_law_calls" "_law_calls" jE f_26 d_26)
  (F_27:cM K "_law_stands" "_law_stands" iZ f_27 d_27)
  (F_28:cM K "_law_counts" "_law_counts" i4 f_28 d_28)
  (F_29:cM K "_law_ones" "_law_ones" j4 f_29 d_29)
  (F_30:cM K "_law_list_rule" "_law_list_rule" fF f_30 d_30)
  (F_31:cM K "_law_take_rule" "_law_take_rule" fG f_31 d_31)
  (F_32:cM K "_law_rule" "_law_rule" j7 f_32 d_32)
  (F_33:cM K "_law_due" "_law_due" mF f_33 d_33)
  (F_34:cM K "_law_cut" "_law_cut" lU f_34 d_34)
  (F_35:cM K "_law_call_changed" "_law_call_changed" eJ f_35 d_35)
  (F_36:cM K "_law_changed" "_law_changed" iz f_36 d_36)
  (F_37:cM K "_law_new_call" "_law_new_call" gK f_37 d_37)
  (F_38:cM K "_law_spoil" "_law_spoil" jv f_38 d_38)
  (F_39:cM K "_law_told" "_law_told" kC f_39 d_39)
  (F_40:cM K "law" "law" sZ f_40 d_40)
  (bF:fN K bg)
  (aY:gS K aL)
  (BY:K.lookup aR=some ⟨.type "tuple",none,.seq #[.ref aR0,.ref aR1,.ref aR2,.ref aR3,.ref aR4,.ref aR5,.ref aR6,.ref aR7] nR,#[]⟩)
  (glr0:K.lookup aR0=some ⟨.type "tuple",none,.seq #[.str "number" tR0,.ref f_11] nR0,#[]⟩)
  (glr1:K.lookup aR1=some ⟨.type "tuple",none,.seq #[.str "hands" tR1,.ref f_12] nR1,#[]⟩)
  (glr2:K.lookup aR2=some ⟨.type "tuple",none,.seq #[.str "row" tR2,.ref f_13] nR2,#[]⟩)
  (glr3:K.lookup aR3=some ⟨.type "tuple",none,.seq #[.str "causes" tR3,.ref f_14] nR3,#[]⟩)
  (glr4:K.lookup aR4=some ⟨.type "tuple",none,.seq #[.str "lists" tR4,.ref f_15] nR4,#[]⟩)
  (glr5:K.lookup aR5=some ⟨.type "tuple",none,.seq #[.str "calls" tR5,.ref f_16] nR5,#[]⟩)
  (glr6:K.lookup aR6=some ⟨.type "tuple",none,.seq #[.str "one" tR6,.ref f_18] nR6,#[]⟩)
  (glr7:K.lookup aR7=some ⟨.type "tuple",none,.seq #[.str "together" tR7,.ref f_17] nR7,#[]⟩)
 :∃ fd:FuncData,(∀ (s:Shared) (v:Value),BindsTo s fd ⟨[v],[]⟩ [("_law_script",v)])/\∀ base:Heap,K.In base->base.Ns mainGlobals mg->aT l.prog w K mg base cy 6 fa fd ["_law_script"] (uV K):=by
 have e:=hfa.symm.trans (W.mg_of X G a_40)
 cases e
 have CA_0:dP K mg _ _ _ ["counts","hand"]:=F_0.cal X G a_0
 have CA_1:dP K mg _ _ _ ["some"]:=F_1.cal X G a_1
 have CA_2:dP K mg _ _ _ ["one","other"]:=F_2.cal X G a_2
 have CA_3:dP K mg _ _ _ ["pairs"]:=F_3.cal X G a_3
 have CA_4:dP K mg _ _ _ ["hand"]:=F_4.cal X G a_4
 have CA_5:dP K mg _ _ _ ["hands","hand"]:=F_5.cal X G a_5
 have B_6:Binds K _ ["self"] []:=F_6.bq
 have B_7:Binds K _ ["self","hand","record"] []:=F_7.bq
 have B_8:Binds K _ ["self","event"] []:=F_8.bq
 have B_9:Binds K _ ["self","event"] []:=F_9.bq
 have B_10:Binds K _ ["self"] []:=F_10.bq
 have CA_11:dP K mg _ _ _ ["walk","event"]:=F_11.cal X G a_11
 have CA_12:dP K mg _ _ _ ["walk","event"]:=F_12.cal X G a_12
 have CA_13:dP K mg _ _ _ ["walk","event"]:=F_13.cal X G a_13
 have CA_14:dP K mg _ _ _ ["walk","event"]:=F_14.cal X G a_14
 have CA_15:dP K mg _ _ _ ["walk","event"]:=F_15.cal X G a_15
 have CA_16:dP K mg _ _ _ ["walk","event"]:=F_16.cal X G a_16
 have CA_17:dP K mg _ _ _ ["walk","event"]:=F_17.cal X G a_17
 have CA_18:dP K mg _ _ _ ["walk","event"]:=F_18.cal X G a_18
 have B_19:Binds K _ ["self","event"] []:=F_19.bq
 have B_20:Binds K _ ["self","event"] []:=F_20.bq
 have B_21:Binds K _ ["self","event"] []:=F_21.bq
 have CA_22:dP K mg _ _ _ ["walk","event"]:=F_22.cal X G a_22
 have CA_23:dP K mg _ _ _ ["told"]:=F_23.cal X G a_23
 have CA_24:dP K mg _ _ _ ["_law_script","_law_k"]:=F_24.cal X G a_24
 have CA_25:dP K mg _ _ _ ["_law_cell"]:=F_25.cal X G a_25
 have CA_26:dP K mg _ _ _ ["_law_script","_law_hands_here","_law_mask","_law_number","_law_at"]:=F_26.cal X G a_26
 have CA_27:dP K mg _ _ _ ["_law_events"]:=F_27.cal X G a_27
 have CA_28:dP K mg _ _ _ ["_law_takes"]:=F_28.cal X G a_28
 have CA_29:dP K mg _ _ _ ["_law_takes"]:=F_29.cal X G a_29
 have CA_30:dP K mg _ _ _ ["_law_hand","_law_ahead","_law_stood","_law_event"]:=F_30.cal X G a_30
 have CA_31:dP K mg _ _ _ ["_law_ahead","_law_stood","_law_event"]:=F_31.cal X G a_31
 have CA_32:dP K mg _ _ _ ["_law_hand","_law_ahead","_law_event"]:=F_32.cal X G a_32
 have CA_33:dP K mg _ _ _ ["_law_told_here"]:=F_33.cal X G a_33
 have CA_34:dP K mg _ _ _ ["_law_told_here","_law_due_here"]:=F_34.cal X G a_34
 have CA_35:dP K mg _ _ _ ["_law_event","_law_cell"]:=F_35.cal X G a_35
 have CA_36:dP K mg _ _ _ ["_law_hand","_law_event","_law_cell"]:=F_36.cal X G a_36
 have CA_37:dP K mg _ _ _ ["_law_hand","_law_events","_law_cell"]:=F_37.cal X G a_37
 have CA_38:dP K mg _ _ _ ["_law_told_here","_law_cell"]:=F_38.cal X G a_38
 have CA_39:dP K mg _ _ _ ["_law_script"]:=F_39.cal X G a_39
 have bo:=W.mg_of X G AL
 have aX:=W.mg_of X G EN
 have rb:=W.mg_of X G zY
 have rT:RelV (.ref aR) (.ref aR):=rfl
 have rD:wM K mg (.ref aR):=⟨aR,aR0,aR1,aR2,aR3,aR4,aR5,aR6,aR7,f_11,f_12,f_13,f_14,f_15,f_16,f_18,f_17,rfl,fun H=>.inr ⟨_,_,_,BY,rfl,rfl,(by show 8<=sizeLine; decide),.cons rfl (.cons rfl (.cons rfl (.cons rfl (.cons rfl (.cons rfl (.cons rfl (.cons rfl .nil)))))))⟩,(fun H=>.inr ⟨_,_,_,glr0,rfl,rfl,(by show 2<=sizeLine; decide),.cons ⟨_,rfl⟩ (.cons rfl .nil)⟩),(fun H=>.inr ⟨_,_,_,glr1,rfl,rfl,(by show 2<=sizeLine; decide),.cons ⟨_,rfl⟩ (.cons rfl .nil)⟩),(fun H=>.inr ⟨_,_,_,glr2,rfl,rfl,(by show 2<=sizeLine; decide),.cons ⟨_,rfl⟩ (.cons rfl .nil)⟩),(fun H=>.inr ⟨_,_,_,glr3,rfl,rfl,(by show 2<=sizeLine; decide),.cons ⟨_,rfl⟩ (.cons rfl .nil)⟩),(fun H=>.inr ⟨_,_,_,glr4,rfl,rfl,(by show 2<=sizeLine; decide),.cons ⟨_,rfl⟩ (.cons rfl .nil)⟩),(fun H=>.inr ⟨_,_,_,glr5,rfl,rfl,(by show 2<=sizeLine; decide),.cons ⟨_,rfl⟩ (.cons rfl .nil)⟩),(fun H=>.inr ⟨_,_,_,glr6,rfl,rfl,(by show 2<=sizeLine; decide),.cons ⟨_,rfl⟩ (.cons rfl .nil)⟩),(fun H=>.inr ⟨_,_,_,glr7,rfl,rfl,(by show 2<=sizeLine; decide),.cons ⟨_,rfl⟩ (.cons rfl .nil)⟩),W.mg_of X G a_11,W.mg_of X G a_12,W.mg_of X G a_13,W.mg_of X G a_14,W.mg_of X G a_15,W.mg_of X G a_16,W.mg_of X G a_18,W.mg_of X G a_17⟩
 have Ia:mg "all"=none:=W.mg_none_of X G IG
 have EO:mg "bool"=none:=W.mg_none_of X G Fd
 have E7:mg "dict"=none:=W.mg_none_of X G Fi
 have xj:mg "enumerate"=none:=W.mg_none_of X G xn
 have Ik:mg "int"=none:=W.mg_none_of X G HE
 have uq:mg "isinstance"=none:=W.mg_none_of X G uX
 have nD:mg "len"=none:=W.mg_none_of X G HW
 have ug:mg "list"=none:=W.mg_none_of X G EF
 have Am:mg "max"=none:=W.mg_none_of X G ID
 have kY:mg "range"=none:=W.mg_none_of X G Dg
 have HX:mg "set"=none:=W.mg_none_of X G Im
 have xg:mg "sorted"=none:=W.mg_none_of X G Bd
 have Iy:mg "sum"=none:=W.mg_none_of X G Hk
 have uw:mg "tuple"=none:=W.mg_none_of X G CN
 obtain ⟨_,_,kV,dc,pm,an,cd,ct,_,rfl,_⟩:=id F_40.ex
 refine ⟨W.fnOf "law" "law" (jz sZ) (iP sZ) (aF sZ) .none kV dc pm an cd ct,fun s v=>.of_eq rfl,fun base _ _=>?_⟩
 have G_0:=wJ (P:=l.prog) (w:=w) (mg:=mg) (base:=base) F_0
 have G_1:=sj (P:=l.prog) (w:=w) (mg:=mg) (base:=base) F_1 ug HX xg
 have G_2:=zJ (P:=l.prog) (w:=w) (mg:=mg) (base:=base) F_2 (G_0.mono (by decide)) CA_0 (G_1.mono (by decide)) CA_1 Ia
 have G_3:=vJ (P:=l.prog) (w:=w) (mg:=mg) (base:=base) F_3 E7
 have G_4:=Ac (P:=l.prog) (w:=w) (mg:=mg) (base:=base) F_4
 have G_5:=EL (P:=l.prog) (w:=w) (mg:=mg) (base:=base) F_5 (G_4.mono (by decide)) CA_4
 have G_6:=l9 (P:=l.prog) (w:=w) (mg:=mg) (base:=base) F_6
 have G_7:=oM (P:=l.prog) (w:=w) (mg:=mg) (base:=base) F_7
 have G_8:=qe (P:=l.prog) (w:=w) (mg:=mg) (base:=base) F_8 aY aX
 have G_9:=m8 (P:=l.prog) (w:=w) (mg:=mg) (base:=base) F_9
 have G_10:=jI (P:=l.prog) (w:=w) (mg:=mg) (base:=base) F_10 bF aY bo aX
 have G_11:=oR (P:=l.prog) (w:=w) (mg:=mg) (base:=base) F_11 aY aX
 have G_12:=pJ (P:=l.prog) (w:=w) (mg:=mg) (base:=base) F_12 (G_5.mono (by decide)) CA_5 (G_8.mono (by decide)) B_8 aY aX bP
 have G_13:=sS (P:=l.prog) (w:=w) (mg:=mg) (base:=base) F_13 (G_0.mono (by decide)) CA_0 aY aX
 have G_14:=ou (P:=l.prog) (w:=w) (mg:=mg) (base:=base) F_14 (G_2.mono (by decide)) CA_2 (G_3.mono (by decide)) CA_3 aY aX
 have G_15:=pQ (P:=l.prog) (w:=w) (mg:=mg) (base:=base) F_15 bF aY bo aX
 have G_16:=qd (P:=l.prog) (w:=w) (mg:=mg) (base:=base) F_16 bF aY bo aX
 have G_17:=lY (P:=l.prog) (w:=w) (mg:=mg) (base:=base) F_17 (G_8.mono (by decide)) B_8 bF aY bo aX bP
 have G_18:=sQ (P:=l.prog) (w:=w) (mg:=mg) (base:=base) F_18 (G_8.mono (by decide)) B_8 (G_9.mono (by decide)) B_9 (G_10.mono (by decide)) B_10 nD bF aY bo aX bP bC cz
 have G_19:=kh (P:=l.prog) (w:=w) (mg:=mg) (base:=base) F_19 bF aY bo aX
 have G_20:=kH (P:=l.prog) (w:=w) (mg:=mg) (base:=base) F_20 (G_9.mono (by decide)) B_9 (G_10.mono (by decide)) B_10 nD bF aY bo aX bC cz
 have G_21:=pX (P:=l.prog) (w:=w) (mg:=mg) (base:=base) F_21 (G_19.mono (by decide)) B_19 (G_20.mono (by decide)) B_20 aY aX dY dZ
 have G_22:=pV (P:=l.prog) (w:=w) (mg:=mg) (base:=base) F_22 (G_11.mono (by decide)) CA_11 (G_12.mono (by decide)) CA_12 (G_13.mono (by decide)) CA_13 (G_14.mono (by decide)) CA_14 (G_15.mono (by decide)) CA_15 (G_16.mono (by decide)) CA_16 (G_17.mono (by decide)) CA_17 (G_18.mono (by decide)) CA_18 rb rT rD
 have G_23:=AF (P:=l.prog) (w:=w) (mg:=mg) (base:=base) F_23 (G_6.mono (by decide)) B_6 (G_7.mono (by decide)) B_7 (G_21.mono (by decide)) B_21 (G_22.mono (by decide)) CA_22 xj bF aY bo aX rY yE gM
 have G_24:=t9 (P:=l.prog) (w:=w) (mg:=mg) (base:=base) F_24 nD
 have G_25:=sN (P:=l.prog) (w:=w) (mg:=mg) (base:=base) F_25 kY
 have G_26:=sV (P:=l.prog) (w:=w) (mg:=mg) (base:=base) F_26 (G_24.mono (by decide)) CA_24 nD Am kY xg uw
 have G_27:=qI (P:=l.prog) (w:=w) (mg:=mg) (base:=base) F_27
 have G_28:=sh (P:=l.prog) (w:=w) (mg:=mg) (base:=base) F_28
 have G_29:=uF (P:=l.prog) (w:=w) (mg:=mg) (base:=base) F_29
 have G_30:=nF (P:=l.prog) (w:=w) (mg:=mg) (base:=base) F_30 (G_27.mono (by decide)) CA_27 (G_28.mono (by decide)) CA_28 (G_29.mono (by decide)) CA_29 nD
 have G_31:=mU (P:=l.prog) (w:=w) (mg:=mg) (base:=base) F_31 (G_27.mono (by decide)) CA_27 (G_28.mono (by decide)) CA_28 (G_29.mono (by decide)) CA_29 nD
 have G_32:=uP (P:=l.prog) (w:=w) (mg:=mg) (base:=base) F_32 (G_27.mono (by decide)) CA_27 (G_30.mono (by decide)) CA_30 (G_31.mono (by decide)) CA_31
 have G_33:=xu (P:=l.prog) (w:=w) (mg:=mg) (base:=base) F_33 (G_32.mono (by decide)) CA_32 nD kY
 have G_34:=wH (P:=l.prog) (w:=w) (mg:=mg) (base:=base) F_34 ug
 have G_35:=kA (P:=l.prog) (w:=w) (mg:=mg) (base:=base) F_35 Am
 have G_36:=qf (P:=l.prog) (w:=w) (mg:=mg) (base:=base) F_36 (G_35.mono (by decide)) CA_35 ug Am uw
 have G_37:=ox (P:=l.prog) (w:=w) (mg:=mg) (base:=base) F_37
 have G_38:=sI (P:=l.prog) (w:=w) (mg:=mg) (base:=base) F_38 (G_36.mono (by decide)) CA_36 (G_37.mono (by decide)) CA_37 nD kY
 have G_39:=uZ (P:=l.prog) (w:=w) (mg:=mg) (base:=base) F_39 (G_24.mono (by decide)) CA_24 (G_25.mono (by decide)) CA_25 (G_26.mono (by decide)) CA_26 nD kY Iy
 exact Fl F_40 (G_23.mono (by decide)) CA_23 (G_24.mono (by decide)) CA_24 (G_33.mono (by decide)) CA_33 (G_34.mono (by decide)) CA_34 (G_38.mono (by decide)) CA_38 (G_39.mono (by decide)) CA_39 EO Ik uq ug kY uw
theorem Jt {l:PySem.W.OpenLaw} {q:Program} {loose:List Str} {XP:(Str->Option Value)->Heap->Prop} {YP:World->Heap->Prop} {d:DefRec} {K:Params->PySem.W.Frag} (hn:l.most=some 63) (hdf:d.params.defaults=[])
  (hY:∀ (w:World) (h:Heap),YP w h->(K w.params).In h)
  (F:∀ (w:World) (mg:Str->Option Value) (fa:Addr) (h:Heap),(K w.params).In h->h.Ns mainGlobals mg->mg d.name=some (.ref fa) ->
   ∃ fd:FuncData,(∀ (s:Shared) (u:Value),BindsTo s fd ⟨[u],[]⟩ [("_law_script",u)])/\∀ base:Heap,(K w.params).In base->base.Ns mainGlobals mg->aT l.prog w (K w.params) mg base cy 6 fa fd ["_law_script"] (uV (K w.params))) :
  PySem.W.WalkO q loose XP YP l.row.toRowW d [] (fun f vs=>PySem.call f vs) :=
 L2.CZ (n:=63) (k:=6) (x:="_law_script") (CX:=fun _=>cy) (sp:=fun w=>uV (K w.params)) hn (by decide) hdf ⟨rfl,by decide,by decide⟩ hY F (fun _ _ a ns hl _ hS=>⟨a,ns,rfl,hS,hl,fun _=>rfl⟩) fun _ _ _ _ _ z=>z
end K81
def PySem.W.Fast.tw15454746810914783675:Unit:=()
def PySem.W.Fast.tw16925568977936676469:Unit:=()
def PySem.W.Fast.tw14664363666792556451:Unit:=()
def PySem.W.Fast.tw2426614779597161238:Unit:=()
def PySem.W.Fast.tw10531628349804893066:Unit:=()
def PySem.W.Fast.tw13271631110056249837:Unit:=()
def PySem.W.Fast.tw11367819200616575581:Unit:=()
def PySem.W.Fast.tw12358636551327642564:Unit:=()
def PySem.W.Fast.tw10369514727495438492:Unit:=()
def PySem.W.Fast.tw12314113702036851472:Unit:=()
def PySem.W.Fast.tw15754983089465266936:Unit:=()
def PySem.W.Fast.tw16997832821574736267:Unit:=()
def PySem.W.Fast.tw9234174334362276316:Unit:=()
def PySem.W.Fast.tw4782383074448613435:Unit:=()
def PySem.W.Fast.tw12965523247471294772:Unit:=()
def PySem.W.Fast.tw11345733821812718678:Unit:=()
def PySem.W.Fast.tw3950181710356425211:Unit:=()
def PySem.W.Fast.tw7923512449872411847:Unit:=()
def PySem.W.Fast.tw15275120948467480756:Unit:=()
def PySem.W.Fast.tw2844783349540505126:Unit:=()
def PySem.W.Fast.tw3912974796609267218:Unit:=()
def PySem.W.Fast.tw1044382760443704773:Unit:=()
def PySem.W.Fast.tw10980856038883481382:Unit:=()
def PySem.W.Fast.tw1252322263901962920:Unit:=()
def PySem.W.Fast.tw2406869570122351407:Unit:=()
def PySem.W.Fast.tw11452047410170922099:Unit:=()
def PySem.W.Fast.tw13967189181561811666:Unit:=()
def PySem.W.Fast.tw4348008789928105389:Unit:=()
def PySem.W.Fast.tw7384032803638673255:Unit:=()
def PySem.W.Fast.tw17300883415339337259:Unit:=()
def PySem.W.Fast.tw751622922805544117:Unit:=()
def PySem.W.Fast.tw2031877576280026009:Unit:=()
def PySem.W.Fast.tw302195757501396587:Unit:=()
def PySem.W.Fast.tw3618772453068504210:Unit:=()
def PySem.W.Fast.tw15105975588897259023:Unit:=()
def PySem.W.Fast.tw15863701612764621948:Unit:=()
def PySem.W.Fast.tw8629405865894127140:Unit:=()
def PySem.W.Fast.tw3924818069519767999:Unit:=()
def PySem.W.Fast.tw16152176475017035634:Unit:=()
def PySem.W.Fast.tw266974980396458560:Unit:=()
def PySem.W.Fast.tw3444190597547229382:Unit:=()
def PySem.W.Fast.tw15084765162286111060:Unit:=()
def PySem.W.Fast.tw2052715055200682252:Unit:=()
def PySem.W.Fast.tw5426206821951645768:Unit:=()
def PySem.W.Fast.tw9840574504730381781:Unit:=()
def PySem.W.Fast.tw15031248530410621109:Unit:=()
def PySem.W.Fast.tw3451348660697212096:Unit:=()
def PySem.W.Fast.tw18422955825490237361:Unit:=()
def PySem.W.Fast.tw16312193893427776224:Unit:=()
def PySem.W.Fast.tw1930018785264609455:Unit:=()
def PySem.W.Fast.tw4586869940481797171:Unit:=()
def PySem.W.Fast.tw3103860905685771896:Unit:=()
def PySem.W.Fast.tw16912866883261133218:Unit:=()
def PySem.W.Fast.tw5590619526673315617:Unit:=()
def PySem.W.Fast.tw11186096287401932855:Unit:=()
def PySem.W.Fast.tw12866741407718317574:Unit:=()
def PySem.W.Fast.tw16776191980683485122:Unit:=()
def PySem.W.Fast.tw13165760221276868895:Unit:=()
def PySem.W.Fast.tw5354508837941760805:Unit:=()
def PySem.W.Fast.tw2406066609950755325:Unit:=()
def PySem.W.Fast.tw9159826483074528549:Unit:=()
def PySem.W.Fast.tw11767030640114418375:Unit:=()
def PySem.W.Fast.tw10077112585819469531:Unit:=()
def PySem.W.Fast.tw18403620971522584509:Unit:=()
def PySem.W.Fast.tw5613245926737015413:Unit:=()
def PySem.W.Fast.tw3255895616372738645:Unit:=()
def PySem.W.Fast.tw11119387802300534012:Unit:=()
def PySem.W.Fast.tw13727573944024241448:Unit:=()
def PySem.W.Fast.tw3939726846529184190:Unit:=()
def PySem.W.Fast.tw1821060736830223779:Unit:=()
def PySem.W.Fast.tw9397205335758132465:Unit:=()
open PySem PySem.W PyProof.Rows
set_option maxRecDepth 100000 in
set_option maxHeartbeats 0 in
theorem PySem.Challenge.cw_groupcall_k81_whole_judged_holds : PySem.Challenge.rw_groupcall_k81_whole_judged.Holds := by
 w_on; o_law; k_head; (case hw=>w_witness2)
 k_fill
 refine K81.Jt (l:=PySem.Challenge.rw_groupcall_k81_whole_judged) rfl rfl (fun w h Y=>PySem.W.kIn_of Y) ?F
 case F =>
  intro w mg fa h KX G hmg
  refine' K81.EH KX G hmg ?h0 ?h1 ?h2 ?h3 ?h4 ?h5 ?h6 ?h7 ?h8 ?h9 ?h10 ?h11 ?h12 ?h13 ?h14 ?h15 ?h16 ?h17 ?h18 ?h19 ?h20 ?h21 ?h22 ?h23 ?h24 ?h25 ?h26 ?h27 ?h28 ?h29 ?h30 ?h31 ?h32 ?h33 ?h34 ?h35 ?h36 ?h37 ?h38 ?h39 ?h40 ?h41 ?h42 ?h43 ?h44 ?h45 ?h46 ?h47 ?h48 ?h49 ?h50 ?h51 ?h52 ?h53 ?h54 ?h55 ?h56 ?h57 ?h58 ?h59 ?h60 ?h61 ?h62 ?h63 ?h64 ?h65 ?h66 ?h67 ?h68 ?h69 ?h70 ?h71 ?h72 ?h73 ?h74 ?h75 ?h76 ?h77 ?h78 ?h79 ?h80 ?h81 ?h82 ?h83 ?h84 ?h85 ?h86 ?h87 ?h88 ?h89 ?h90 ?h91 ?h92 ?h93 ?h94 ?h95 ?h96 ?h97 ?h98 ?h99 ?h100 ?h101 ?h102 ?h103 ?h104 ?h105 ?h106 ?h107 ?h108 ?h109
  (case h0 | h1 | h2 | h3 | h4 | h5 | h6 | h7 | h8 | h9 | h10 | h11 | h12 | h13 | h14 | h15 | h16 | h17 | h18 | h19 | h20 | h21 | h22 | h23 | h24 | h25 | h26 | h27 | h28 | h29 | h30 | h31 | h32 | h33 | h34=>show _=_; k_is)
  (case h35 | h36 | h37 | h38 | h39 | h40 | h41 | h42 | h43 | h44 | h45 | h46 | h47 | h48 | h49=>first | k_is | rfl | decide)
  (case h50 | h51 | h52 | h53 | h54 | h55 | h56 | h57=>constructor <;> k_is)
  (case h58 | h59 | h60 | h61 | h62 | h63 | h64 | h65 | h66 | h67 | h68 | h69 | h70 | h71 | h72 | h73 | h74 | h75 | h76 | h77 | h78 | h79 | h80 | h81 | h82 | h83 | h84 | h85 | h86 | h87 | h88 | h89 | h90 | h91 | h92 | h93 | h94 | h95 | h96 | h97 | h98=>exact L2.Gi (by k_is) (by k_is) (by k_is))
  (case h99 | h100=>constructor; (constructor <;> k_is); all_goals (show _=_; k_is))
  (case h101 | h102 | h103 | h104 | h105 | h106 | h107 | h108 | h109=>first | k_is | rfl | decide)
